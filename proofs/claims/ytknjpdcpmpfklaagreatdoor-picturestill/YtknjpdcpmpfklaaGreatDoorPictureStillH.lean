/- What PictureStill reaches of my texts, part 8. -/
import Derived.Test.YtknjpdcpmpfklaaGreatDoorPictureStillG
set_option maxRecDepth 100000
set_option maxHeartbeats 4000000
set_option maxRecDepth 100000
namespace Go.Proofs.YtknjpdcpmpfklaaGreatDoor
open Go.RowKit
structure Cas (γ:Type) where
  Pre:World->Prop
  Tp:Nat->Prop
  Post:γ->World->Prop
  Tq:γ->Nat->Prop
  Z:Nat->World->Prop
  Y:γ->Nat->World->Prop
structure XT {γ:Type} (C:Cas γ) (S okp:Nat->Prop) (w0:World):Prop where
  pre:C.Pre w0
  preS:∀ (w w':World) (S':Nat->Prop),C.Pre w->KR S' w w'->KO C.Tp S'->C.Pre w'
  preL:∀ w,C.Pre w->PI w C.Tp
  postS:∀ (g:γ) (w w':World) (S':Nat->Prop),C.Post g w->KR S' w w'->KO (C.Tq g) S'->C.Post g w'
  postL:∀ (g:γ) (w:World),C.Post g w->PI w (C.Tq g)
  zS:∀ (p:Nat) (w w':World) (S':Nat->Prop),C.Z p w->KR S' w w'->¬ S' p->C.Z p w'
  zL:∀ (p:Nat) (w:World),C.Z p w->p<w.heap.size
  yS:∀ (g:γ) (p:Nat) (w w':World) (S':Nat->Prop),C.Y g p w->KR S' w w'->¬ S' p->C.Y g p w'
  inS:∀ i,C.Tp i->S i
  okS:∀ p,okp p->S p\/w0.heap.size<=p
  okT:∀ p,okp p->¬ C.Tp p
abbrev ptX(p:Nat):Value:=.pointer (some ⟨p,0,none⟩)
def Qr{γ:Type}(vs:List (γ->Value))(i:Nat)(g:γ):Value:=vs.getD i (fun _=>undef) g
def U1{γ:Type}(M:List (Nat×Nat))(c:Nat):Nat->List (γ->Value)->Prop
 | _,[]=>True
 | i,f::r=>(M.contains (i,c)=true\/i=c\/∀ g g',f g=f g')/\U1 M c (i+1) r
theorem U1.at{γ:Type}{M:List (Nat×Nat)}{c:Nat}:∀ {vs:List (γ->Value)} {k:Nat},U1 M c k vs->∀ i,M.contains (k+i,c)=false->k+i≠c->∀ g g',Qr vs i g=Qr vs i g':=by
 intro vs
 induction vs with
 | nil=>intro k _ i _ _ g g';rfl
 | cons f r ih =>
  intro k h i hm hc g g'
  cases i with
  | zero =>
   rcases h.1 with e|e|e
   ·rw[Nat.add_zero] at hm;rw[hm] at e;cases e
   ·exact absurd e hc
   ·exact e g g'
  | succ i =>
   have:=ih h.2 i (by rw[show k+1+i=k+(i+1) by omega];exact hm) (by omega) g g'
   exact this
def Pq(al:Option Nat)(L:Nat->Bool):Bool:=match al with
 | some a=>L a
 | none=>true
structure JX {γ:Type} (C:Cas γ) (S okp:Nat->Prop) (vs:List (γ->Value)) (c sr:Nat) (al:Option Nat) (M:List (Nat×Nat)) (w0:World) (L:Nat->Bool) (v:Nat->Value) (w:World) (g:γ) (p:Nat):Prop where
  kept:KR S w0 w
  vals:∀ i,L i=true->al≠some i->v i=Qr vs i g
  adr:∀ a,al=some a->L a=true->v a=ptX p
  blk:Pq al L=true->okp p
  zero:Pq al L=true->L sr=false->C.Z p w
  full:L sr=true->C.Y g p w
  pre:L c=false->C.Pre w
  post:L c=true->C.Post g w/\KS w0 C.Tp (C.Tq g)
  far:L c=true->Pq al L=true->¬ C.Tq g p
  clos:∀ j i,(j,i)∈M->L j=true->L i=true
def SV{γ:Type}(vs:List (γ->Value))(al:Option Nat)(g:γ)(p:Nat):Nat->Value->World->Prop:=fun j x _=>(al=some j->x=ptX p)/\(al≠some j->x=Qr vs j g)
section
variable {γ:Type} {P:Program} {N:Nat} {F:Nat->Value} {w:World} {Q:Exit->(Nat->Value)->World->Prop} {S okp:Nat->Prop} {M:List (Nat×Nat)} {D:List (Option Tmp)} {C:Cas γ} {vs:List (γ->Value)} {c sr:Nat} {al:Option Nat}
def Lr(C:Cas γ)(S okp:Nat->Prop)(vs:List (γ->Value))(c sr:Nat)(al:Option Nat)(N:Nat)(P:Program)(D:List (Option Tmp))(F0:Nat->Value)(w0:World)(i:Nat)(o:Oper):Prop :=
 o.guard=none/\∀ (g:γ) (p:Nat) (F:Nat->Value) (w:World),KR S w0 w->(∀ t,Nat.blt t N=true->some t∉D->F t=F0 t)->Ol D (SV vs al g p) F w o.after.toList →
  (i≠c->i≠sr->al≠some i->Lg P (ev F) o w (fun v w'=>v=Qr vs i g/\KR Mb w w')) ∧
  (i=c->C.Pre w->Lg P (ev F) o w (fun v w'=>∃ g',v=Qr vs i g'/\KR C.Tp w w'/\C.Post g' w'/\KS w C.Tp (C.Tq g'))) ∧
  (al=some i->Lg P (ev F) o w (fun v w'=>∃ q,v=ptX q/\w.heap.size<=q/\C.Z q w'/\KR Mb w w')) ∧
  (i=sr->okp p->C.Z p w->C.Post g w->Lg P (ev F) o w (fun v w'=>v=Qr vs i g/\KR (Lh p) w w'/\C.Y g p w'))
def R1(C:Cas γ)(S okp:Nat->Prop)(vs:List (γ->Value))(c sr:Nat)(al:Option Nat)(N:Nat)(P:Program)(D:List (Option Tmp))(F0:Nat->Value)(w0:World):Nat->List Oper->Prop
 | _,[]=>True
 | i,o::r=>Lr C S okp vs c sr al N P D F0 w0 i o/\R1 C S okp vs c sr al N P D F0 w0 (i+1) r
theorem NT{F0:Nat->Value}{w0:World}{i:Nat}:R1 C S okp vs c sr al N P D F0 w0 i []:=trivial
theorem KV{F0:Nat->Value}{w0:World}{i:Nat}{o:Oper}{r:List Oper}(h:Lr C S okp vs c sr al N P D F0 w0 i o)(k:R1 C S okp vs c sr al N P D F0 w0 (i+1) r):R1 C S okp vs c sr al N P D F0 w0 i (o::r):=⟨h,k⟩
theorem Lr.one{F0:Nat->Value}{w0:World}{i:Nat}{o:Oper}(hg:o.guard=none)(h1:(i==c)=false)(h2:(i==sr)=false)(h3:(al==some i)=false)
  (h:∀ (g:γ) (p:Nat) (F:Nat->Value) (w:World),KR S w0 w->(∀ t,Nat.blt t N=true->some t∉D->F t=F0 t)->Ol D (SV vs al g p) F w o.after.toList->Lg P (ev F) o w (fun v w'=>v=Qr vs i g/\KR Mb w w')):Lr C S okp vs c sr al N P D F0 w0 i o :=
 ⟨hg,fun g p F w a b d=>⟨fun _ _ _=>h g p F w a b d,fun e=>absurd e (by simpa using h1),fun e=>absurd e (by simpa using h3),fun e=>absurd e (by simpa using h2)⟩⟩
theorem Lr.call{F0:Nat->Value}{w0:World}{i:Nat}{o:Oper}(hg:o.guard=none)(h1:(i==c)=true)(h2:(i==sr)=false)(h3:(al==some i)=false)
  (h:∀ (g:γ) (p:Nat) (F:Nat->Value) (w:World),KR S w0 w->(∀ t,Nat.blt t N=true->some t∉D->F t=F0 t)->Ol D (SV vs al g p) F w o.after.toList->C.Pre w->Lg P (ev F) o w (fun v w'=>∃ g',v=Qr vs i g'/\KR C.Tp w w'/\C.Post g' w'/\KS w C.Tp (C.Tq g'))):Lr C S okp vs c sr al N P D F0 w0 i o :=
 ⟨hg,fun g p F w a b d=>⟨fun e=>absurd (by simpa using h1) e,fun _ e=>h g p F w a b d e,fun e=>absurd e (by simpa using h3),fun e=>absurd e (by simpa using h2)⟩⟩
theorem Lr.alloc{F0:Nat->Value}{w0:World}{i:Nat}{o:Oper}(hg:o.guard=none)(h1:(i==c)=false)(h2:(i==sr)=false)(h3:(al==some i)=true)
  (h:∀ (F:Nat->Value) (w:World),KR S w0 w->Lg P (ev F) o w (fun v w'=>∃ q,v=ptX q/\w.heap.size<=q/\C.Z q w'/\KR Mb w w')):Lr C S okp vs c sr al N P D F0 w0 i o :=
 ⟨hg,fun g p F w a b d=>⟨fun _ _ e=>absurd (by simpa using h3) e,fun e=>absurd e (by simpa using h1),fun _=>h F w a,fun e=>absurd e (by simpa using h2)⟩⟩
theorem Lr.store{F0:Nat->Value}{w0:World}{i:Nat}{o:Oper}(hg:o.guard=none)(h1:(i==c)=false)(h2:(i==sr)=true)(h3:(al==some i)=false)
  (h:∀ (g:γ) (p:Nat) (F:Nat->Value) (w:World),KR S w0 w->(∀ t,Nat.blt t N=true->some t∉D->F t=F0 t)->Ol D (SV vs al g p) F w o.after.toList->okp p->C.Z p w->C.Post g w->Lg P (ev F) o w (fun v w'=>v=Qr vs i g/\KR (Lh p) w w'/\C.Y g p w')):Lr C S okp vs c sr al N P D F0 w0 i o :=
 ⟨hg,fun g p F w a b d=>⟨fun _ e=>absurd (by simpa using h2) e,fun e=>absurd e (by simpa using h1),fun e=>absurd e (by simpa using h3),fun _ e=>h g p F w a b d e⟩⟩
theorem aAh{al:Option Nat}{L:Nat->Bool}{i:Nat}(h:al≠some i):Pq al (Ro L i)=Pq al L:=by
 unfold Pq
 cases al with
 | none=>rfl
 | some a=>simp only[Ro];rw[if_neg (fun e=>h (by rw[e]))]
theorem Ms{L:Nat->Bool}{i j:Nat}(h:j≠i):Ro L i j=L j:=if_neg h
theorem PF{v:Nat->Value}{x:Value}{i j:Nat}(h:j≠i):VE v i x j=v j:=if_neg h
theorem VU{L:Nat->Bool}{i:Nat}:Ro L i i=true:=if_pos rfl
theorem QA{v:Nat->Value}{x:Value}{i:Nat}:VE v i x i=x:=if_pos rfl
theorem Lr.step{os:List Oper}{w0:World}{i:Nat}{o:Oper}{a0:Act}(hmo:Sb os M=true)(hcs:M.contains (sr,c)=true)(hca:∀ a,al=some a->M.contains (sr,a)=true)(hna:al≠some c)(hns:al≠some sr)(hsc:c≠sr)(hC:U1 M c 0 vs)(hok:XT C S okp w0)(hnew:∀ a,al=some a->∀ p,w0.heap.size<=p->okp p)(hio:os[i]? = some o)(ha:Fr N F a0)(h:Lr C S okp vs c sr al N P D F w0 i o) :
  XB os P D (fun L v w=>∃ g p,JX C S okp vs c sr al M w0 L v w g p) a0 i o:=by
 rintro L v a w ⟨g,p,hJ⟩ hi hdone hout hhere _
 have hDe:∀ c d,D.getD c none=some d->D[c]? = some (some d):=fun c d hd=>by
  unfold List.getD at hd
  cases hq:D[c]? with
  | none=>rw[hq] at hd;cases hd
  | some y=>rw[hq] at hd;simp at hd;rw[hd]
 have hdeps:Ol D (SV vs al g p) (fun t=>a.tmps.getD t undef) w o.after.toList:=by
  refine RS.toF (RS.mk fun e he hb d hd=>?_)
  have hl:=hdone e he hb
  rw[hhere e.on d hl (hDe e.on d hd)]
  exact⟨fun e'=>hJ.adr _ e' hl,fun e'=>hJ.vals _ hl e'⟩
 have hM:∀ k,(i,k)∈M->L k=true:=fun k hk=>by
  have:=List.all_eq_true.1 hmo _ hk
  simp only[hio] at this
  obtain⟨e,he,hb⟩:=List.any_eq_true.1 this
  simp only[Bool.and_eq_true,Bool.or_eq_true,beq_iff_eq] at hb
  have hl:=hdone e he hb.1
  rcases hb.2 with h1|h1
  ·rw[← h1];exact hl
  ·exact hJ.clos _ _ (by simpa using h1) hl
 have hcl:∀ j k,(j,k)∈M->Ro L i j=true->Ro L i k=true:=fun j k hm hj=>by
  have hk:L k=true:=by
   by_cases e:j=i
   ·subst e;exact hM k hm
   ·rw[Ms e] at hj;exact hJ.clos j k hm hj
  unfold Ro;split <;> first|rfl|exact hk
 have hcs':(sr,c)∈M:=by simpa using hcs
 have hca':∀ a,al=some a->(sr,a)∈M:=fun a e=>by simpa using hca a e
 have srHas:L sr=true->Pq al L=true:=fun e=>by
  unfold Pq
  cases al with
  | none=>rfl
  | some a=>exact hJ.clos _ _ (hca' a rfl) e
 have plt:Pq al L=true->∀ T:Nat->Prop,okp p->(L c=true->¬ C.Tq g p)->True:=fun _ _ _ _=>trivial
 obtain⟨hg,hS⟩:=h
 obtain⟨q1,q2,q3,q4⟩:=hS g p (fun t=>a.tmps.getD t undef) w hJ.kept (fun t hb ht=>by rw[← ha.at' t hb];exact hout t ht) hdeps
 rw[← R6 a] at q1 q2 q3 q4
 unfold Qs
 rw[hg]
 refine⟨fun _=>?_,fun e=>by cases e⟩
 by_cases ea:al=some i
 ·-- the block is made
  refine(q3 ea).mono' fun x w' ⟨q,hx,hq,hz,hk⟩=>⟨g,q,?_⟩
  have nS:L sr=false:=by
   cases e:L sr with
   | false=>rfl
   | true=>have:=hJ.clos _ _ (hca' i ea) e;rw[hi] at this;cases this
  have isr:sr≠i:=fun e=>hns (by rw[e];exact ea)
  have ic:c≠i:=fun e=>hna (by rw[e];exact ea)
  refine⟨hJ.kept.trans hk (fun _ _ z=>z.elim),fun j hj hn=>?_,fun a' e' hl=>?_,fun _=>hnew i ea q (Nat.le_trans hJ.kept.size hq),fun _ _=>hz,fun e=>?_,fun e=>?_,fun e=>?_,fun e _=>?_,hcl⟩
  ·have hji:j≠i:=fun e=>hn (by rw[e];exact ea)
   rw[Ms hji] at hj;rw[PF hji];exact hJ.vals j hj hn
  ·rw[ea] at e';cases e';rw[QA];exact hx
  ·rw[Ms isr,nS] at e;cases e
  ·rw[Ms ic] at e;exact hok.preS w w' Mb (hJ.pre e) hk KO.none
  ·rw[Ms ic] at e;exact⟨hok.postS g w w' Mb (hJ.post e).1 hk KO.none,(hJ.post e).2⟩
  ·rw[Ms ic] at e
   intro ht
   have:=hok.postL g w (hJ.post e).1 q ht
   omega
 ·have hH:Pq al (Ro L i)=Pq al L:=aAh ea
  have adr':∀ x a',al=some a'->Ro L i a'=true->VE v i x a'=ptX p:=fun x a' e' hl=>by
   have:a'≠i:=fun e=>ea (by rw[e',e])
   rw[Ms this] at hl;rw[PF this];exact hJ.adr a' e' hl
  by_cases ec:i=c
  ·-- the call
   subst ec
   have nS:L sr=false:=by
    cases e:L sr with
    | false=>rfl
    | true=>have:=hJ.clos _ _ hcs' e;rw[hi] at this;cases this
   have isr:sr≠i:=fun e=>hsc e.symm
   have hpre:=hJ.pre hi
   refine(q2 rfl hpre).mono' fun x w' ⟨g',hx,hk,hpo,hgr⟩=>⟨g',p,?_⟩
   refine⟨hJ.kept.trans hk (fun b _ z=>hok.inS b z),fun j hj hn=>?_,adr' x,fun e=>?_,fun e _=>?_,fun e=>?_,fun e=>?_,fun _=>⟨hpo,fun b hb=>?_⟩,fun _ e=>?_,hcl⟩
   ·by_cases hji:j=i
    ·subst hji;rw[QA];exact hx
    ·rw[Ms hji] at hj;rw[PF hji,hJ.vals j hj hn]
     refine hC.at j ?_ (by omega) g g'
     rw[Nat.zero_add]
     cases e:M.contains (j,i) with
     | false=>rfl
     | true=>have:=hJ.clos j i (by simpa using e) hj;rw[hi] at this;cases this
   ·rw[hH] at e;exact hJ.blk e
   ·rw[hH] at e;exact hok.zS p w w' _ (hJ.zero e nS) hk (hok.okT p (hJ.blk e))
   ·rw[Ms isr,nS] at e;cases e
   ·rw[VU] at e;cases e
   ·rcases hgr b hb with z|z
    ·exact .inl z
    ·exact .inr (Nat.le_trans hJ.kept.size z)
   ·rw[hH] at e
    intro ht
    have hlt:=hok.zL p w (hJ.zero e nS)
    rcases hgr p ht with z|z
    ·exact hok.okT p (hJ.blk e) z
    ·omega
  ·by_cases es:i=sr
   ·-- the store
    subst es
    have hLc:L c=true:=hM c hcs'
    have hHa:Pq al L=true:=by
     unfold Pq
     cases al with
     | none=>rfl
     | some a=>exact hM a (hca' a rfl)
    have hokp:=hJ.blk hHa
    have hnT:=hJ.far hLc hHa
    refine(q4 rfl hokp (hJ.zero hHa hi) (hJ.post hLc).1).mono' fun x w' ⟨hx,hk,hy⟩=>⟨g,p,?_⟩
    have ic:c≠i:=fun e=>ec e.symm
    refine⟨hJ.kept.trans hk (fun b hb z=>?_),fun j hj hn=>?_,adr' x,fun _=>hokp,fun _ e=>?_,fun _=>hy,fun e=>?_,fun _=>⟨hok.postS g w w' _ (hJ.post hLc).1 hk (fun b hb z=>hnT (by cases z;exact hb)),(hJ.post hLc).2⟩,fun _ _=>hnT,hcl⟩
    ·cases z
     rcases hok.okS _ hokp with z|z
     ·exact z
     ·omega
    ·by_cases hji:j=i
     ·subst hji;rw[QA];exact hx
     ·rw[Ms hji] at hj;rw[PF hji];exact hJ.vals j hj hn
    ·rw[VU] at e;cases e
    ·rw[Ms ic,hLc] at e;cases e
   ·-- all others
    refine(q1 ec es ea).mono' fun x w' ⟨hx,hk⟩=>⟨g,p,?_⟩
    have ic:c≠i:=fun e=>ec e.symm
    have isr:sr≠i:=fun e=>es e.symm
    refine⟨hJ.kept.trans hk (fun _ _ z=>z.elim),fun j hj hn=>?_,adr' x,fun e=>?_,fun e1 e2=>?_,fun e=>?_,fun e=>?_,fun e=>?_,fun e1 e2=>?_,hcl⟩
    ·by_cases hji:j=i
     ·subst hji;rw[QA];exact hx
     ·rw[Ms hji] at hj;rw[PF hji];exact hJ.vals j hj hn
    ·rw[hH] at e;exact hJ.blk e
    ·rw[hH] at e1;rw[Ms isr] at e2;exact hok.zS p w w' _ (hJ.zero e1 e2) hk (fun z=>z)
    ·rw[Ms isr] at e;exact hok.yS g p w w' _ (hJ.full e) hk (fun z=>z)
    ·rw[Ms ic] at e;exact hok.preS w w' _ (hJ.pre e) hk KO.none
    ·rw[Ms ic] at e;exact⟨hok.postS g w w' _ (hJ.post e).1 hk KO.none,(hJ.post e).2⟩
    ·rw[Ms ic] at e1;rw[hH] at e2;exact hJ.far e1 e2
theorem R1.steps{all:List Oper}{w0:World}{a0:Act}(hmo:Sb all M=true)(hcs:M.contains (sr,c)=true)(hca:∀ a,al=some a->M.contains (sr,a)=true)(hna:al≠some c)(hns:al≠some sr)(hsc:c≠sr)(hC:U1 M c 0 vs)(hok:XT C S okp w0)(hnew:∀ a,al=some a->∀ p,w0.heap.size<=p->okp p)(ha:Fr N F a0):∀ {os:List Oper} {i:Nat},(∀ k o,os[k]? = some o->all[i+k]? = some o)->R1 C S okp vs c sr al N P D F w0 i os->QU all P D (fun L v w=>∃ g p,JX C S okp vs c sr al M w0 L v w g p) a0 i os:=by
 intro os
 induction os with
 | nil=>intro i _ _;exact trivial
 | cons o r ih =>
  intro i hat h
  exact⟨h.1.step hmo hcs hca hna hns hsc hC hok hnew (hat 0 o rfl) ha,ih (fun k o' hk=>by have:=hat (k+1) o' hk;rwa [show i+(k+1)=i+1+k by omega] at this) h.2⟩
def aBu(M:List (Nat×Nat))(n c sr:Nat)(al:Option Nat):Bool:=M.contains (sr,c) && Nat.blt c n && Nat.blt sr n && !(c==sr) && match al with
 | some a=>M.contains (sr,a) && Nat.blt a n && !(a==c) && !(a==sr)
 | none=>true
theorem Rr{lo:Option Nat}{id:Nat}{ops:Array Oper}(M:List (Nat×Nat))(D:List (Option Tmp))(C:Cas γ)(S okp:Nat->Prop)(vs:List (γ->Value))(c sr:Nat)(al:Option Nat)(g0:γ)(p0:Nat)(hm:P.follows .mixedOrders=true)(hpl:plain N 0 D ops.toList=true)(hmo:Sb ops.toList M=true)(hb:aBu M ops.size c sr al=true)(hC:U1 M c 0 vs)(hok:XT C S okp w)(hnew:∀ a,al=some a->∀ p,w.heap.size<=p->okp p)(h0:al=none->okp p0/\C.Z p0 w)(hsteps:R1 C S okp vs c sr al N P D F w 0 ops.toList)
  (hend:∀ (g:γ) (p:Nat) (v:Nat->Value) (F':Nat->Value) (w':World),KR S w w'->okp p->C.Post g w'->KS w C.Tp (C.Tq g)->C.Y g p w'->¬ C.Tq g p->(∀ a,al=some a->v a=ptX p)->(∀ i,i<ops.size->al≠some i->v i=Qr vs i g)->(∀ t,F' t=Q9 v 0 D F t)->Q .normal F' w'):wq lo P N (.region id ops true) Q F w:=by
 unfold aBu at hb
 simp only[Bool.and_eq_true,Bool.not_eq_true',Nat.blt_eq,beq_eq_false_iff_ne,ne_eq] at hb
 obtain⟨⟨⟨⟨b1,b2⟩,b3⟩,b4⟩,b5⟩:=hb
 have b6:∀ a,al=some a->M.contains (sr,a)=true/\a<ops.size/\a≠c/\a≠sr:=by
  intro a e
  subst e
  simp only[Bool.and_eq_true,Bool.not_eq_true',Nat.blt_eq,beq_eq_false_iff_ne,ne_eq] at b5
  exact⟨b5.1.1.1,b5.1.1.2,b5.1.2,b5.2⟩
 intro a ha
 refine Su D (fun L v w'=>∃ g p,JX C S okp vs c sr al M w L v w' g p) hm (by rw[ha.size];exact hpl)
  ⟨g0,p0,(KR.refl _ w).drew,fun _ e=>(by cases e),fun _ _ e=>(by cases e),fun e=>?_,fun e _=>?_,fun e=>(by cases e),fun _=>hok.preS w _ (fun _=>False) hok.pre (KR.refl _ w).drew (fun _ _ z=>z),fun e=>(by cases e),fun e=>(by cases e),fun _ _ _ e=>(by cases e)⟩
  (hsteps.steps hmo b1 (fun a e=>(b6 a e).1) (fun e=>(b6 _ e).2.2.1 rfl) (fun e=>(b6 _ e).2.2.2 rfl) b4 hC hok hnew ha (fun k o hk=>by rw[Nat.zero_add];exact hk)) fun L v w' ⟨g,p,hJ⟩ hL=>?_
 ·cases al with
  | some a=>unfold Pq at e;cases e
  | none=>exact(h0 rfl).1
 ·cases al with
  | some a=>unfold Pq at e;cases e
  | none=>exact hok.zS p0 w _ (fun _=>False) (h0 rfl).2 (KR.refl _ w).drew (fun z=>z)
 have hH:Pq al L=true:=by
  unfold Pq
  cases al with
  | none=>rfl
  | some a=>exact hL a (b6 a rfl).2.1
 exact⟨Q9 v 0 D F,Py v D 0 F a ha (OS hpl),hend g p v _ w' hJ.kept (hJ.blk hH) (hJ.post (hL c b2)).1 (hJ.post (hL c b2)).2 (hJ.full (hL sr b3)) (hJ.far (hL c b2) hH) (fun a e=>hJ.adr a e (hL a (b6 a e).2.1)) (fun i hi hn=>hJ.vals i (hL i hi) hn) (fun _=>rfl)⟩
end
theorem ayX{P:Program}{ρ:Operand->Value}{o:Oper}{w:World}{R:Value->World->Prop}{ty t:TypeId}{x y:Operand}{p:Nat}{b c:Nat->Int}(hT:(P.info? ty).map (·.size)=some 16)(ho:o.op = .store ty x y)(hx:ρ x = .pointer (some ⟨p,0,none⟩))(hy:ρ y=LW c)(hB:Of w p t b)
  (h:∀ w',Of w' p t c->KR (fun k=>k=p) w w'->R undef w'):Lg P ρ o w R :=
 P8 ty x y ho p _ (Mp 16 c).toArray t hx hy hB (by simp[Mp]) (by rw[hT];simp[Mp]) (by simp[Mp,Value.oneCell']) fun w' hw hk=>h w' hw hk
open Go.RowKit
def PR(w:World)(T:Nat->Prop)(v:Value)(c:Nat)(f:VF):Prop:=∃ p,v = .pointer (some ⟨p,0,none⟩)/\(∀ i,T i↔(Lh p i\/Lh c i))/\MJ w p 136 [.int .i64 f.w,.int .i64 f.h,.map (some c)]/\Xh w c (Q7 f)/\KO (Lh p) (Lh c)/\OkV f
theorem PR.vpo{w:World}{T:Nat->Prop}{v:Value}{c:Nat}{f:VF}(h:PR w T v c f):Qn w T v (some f):=by
 obtain⟨p,e,hT,h1,h2,h3,h4⟩:=h;exact⟨p,e,c,hT,h1,h2,h3,h4⟩
theorem U9{w:World}{T:Nat->Prop}{v:Value}{f:VF}(h:Qn w T v (some f)):∃ c,PR w T v c f:=by
 obtain⟨p,e,c,hT,h1,h2,h3,h4⟩:=h;exact⟨c,p,e,hT,h1,h2,h3,h4⟩
theorem PR.live{w:World}{T:Nat->Prop}{v:Value}{c:Nat}{f:VF}(h:PR w T v c f):PI w T:=h.vpo.live
theorem PR.all{S:Nat->Prop}{w w':World}{T:Nat->Prop}{v:Value}{c:Nat}{f:VF}(h:PR w T v c f)(k:KR S w w')(ha:KO T S):PR w' T v c f:=by
 obtain⟨p,e,hT,h1,h2,h3,h4⟩:=h
 exact⟨p,e,hT,h1.all k (ha p ((hT p).2 (Or.inl rfl))),h2.all k (ha c ((hT c).2 (Or.inr rfl))),h3,h4⟩
instance {w w':World} {T:Nat->Prop} {v:Value} {c:Nat} {f:VF}:Cr w w' (PR w T v c f) (PR w' T v c f):=⟨fun h k=>h.all k KO.none⟩
instance {w:World} {T:Nat->Prop} {v:Value} {c:Nat} {f:VF}:Lv w (PR w T v c f) (T):=⟨fun h=>h.live⟩
theorem PR.lt{w:World}{T:Nat->Prop}{v:Value}{c:Nat}{f:VF}(h:PR w T v c f):c<w.heap.size:=by obtain⟨p,_,_,_,h2,_⟩:=h;exact h2.lt
theorem PR.row{A B:World}{row:Option Nat}{n:Nat}{T:Nat->Prop}{v:Value}{c:Nat}{f:VF}(h:PR A T v c f)(hg:A.grownBy B row)(hr:Rq n A row)(hc:c<n):PR B T v c f:=by
 obtain⟨p,e,hT,h1,h2,h3,h4⟩:=h
 exact⟨p,e,hT,h1.row hg hr,h2.all (Qi hg) (fun e=>by have:=(hr c e.symm).1;omega),h3,h4⟩
def L2(B:Nat)(A:World)(T:Nat->Prop):Prop:=∀ i,T i->i<B\/∃ o:Obj,A.heap[i]? = some o/\o.isCells=true
theorem Pw.cb{B:Nat}{A:World}{T:Nat->Prop}(h:Pw A T):L2 B A T:=fun i hi=>.inr (h i hi)
theorem PR.cb{B:Nat}{w:World}{T:Nat->Prop}{v:Value}{c:Nat}{f:VF}(h:PR w T v c f)(hc:c<B):L2 B w T:=by
 obtain⟨p,e,hT,h1,h2,h3,h4⟩:=h
 exact fun i hi=>((hT i).1 hi).elim (fun e=>.inr (h1.cells i e)) (fun e=>.inl (by cases e;exact hc))
theorem L2.or{B:Nat}{A:World}{T U:Nat->Prop}(h:L2 B A T)(k:L2 B A U):L2 B A (fun i=>T i\/U i):=fun i hi=>hi.elim (h i) (k i)
theorem L2.keeps{B:Nat}{W W':World}{S:Nat->Prop}(hc:L2 B W S)(k:KR S W W'):KeepsFrom B W W':=⟨k.size,fun i o hB hi ho=>by
 have hlt:=(Array.getElem?_eq_some_iff.1 hi).1
 refine(k.block i hlt fun hs=>?_).trans hi
 rcases hc i hs with z | ⟨o',h1,h2⟩
 ·omega
 ·rw[hi] at h1;cases h1;rw[ho] at h2;cases h2⟩
theorem P2.cells{w:World}{T:Nat->Prop}{p:Nat}{l:List Nat}{st:Option Nat}(h:P2 w T p l st):Pw w T:=fun i hi=>by
 obtain⟨c,e,f,h1,_⟩:=h.at i hi;exact⟨_,h1,rfl⟩
theorem P2.row{A B:World}{row:Option Nat}{n p:Nat}{T:Nat->Prop}{l:List Nat}{st:Option Nat}(h:P2 A T p l st)(hg:A.grownBy B row)(hr:Rq n A row):P2 B T p l st:=h.all (Qi hg) (h.cells.apart hr)
theorem aDS{w:World}{q:Nat}{t:TypeId}{vs:List Value}{T:Nat->Prop}{p:Nat}{l:List Nat}{st:Option Nat}(h:MJ w q t vs)(hr:P2 w T p l st)(ht:¬ P2.ty t):KO (Lh q) T:=fun i e hi=>by
 cases e
 obtain⟨c,e,f,h1,h2⟩:=hr.at _ hi
 have:=h.types _ rfl c e f h1
 rw[this] at h2;exact ht h2
theorem Tg{w:World}{q:Nat}{t:TypeId}{vs:List Value}{T:Nat->Prop}{v:Value}{c:Nat}{f:VF}(h:MJ w q t vs)(hr:PR w T v c f)(ht:t≠136):KO (Lh q) T:=fun i e hi=>by
 cases e
 obtain⟨p,e,hT,h1,⟨es,ck,L,h2,_⟩,h3,h4⟩:=hr
 have hq:w.heap[q]? = some (.cells vs.toArray t (0,0)):=h
 rcases (hT _).1 hi with z|z
 ·have hq2:w.heap[p]? = some (.cells vs.toArray t (0,0)):=by rw[← show q=p from z];exact hq
  rw[show w.heap[p]? = _ from h1] at hq2;cases hq2;exact ht rfl
 ·have hq2:w.heap[c]? = some (.cells vs.toArray t (0,0)):=by rw[← show q=c from z];exact hq
  rw[h2] at hq2;cases hq2
theorem XI(v:Value)(c:Nat)(f:VF)(x y:Int)(T_q:Nat->Prop)(w0:World)(hx:inI x)(hy:inI y)(h_q:PR w0 T_q v c f) :
  Calls Tryz.prog 61 #[v,.int .i64 x,.int .i64 y] w0 fun e w'=>e = .returned (.agg #[.int .i64 (gX f x y),.int .i64 (gY f x y)])/\KR (fun _=>False) w0 w':=aAE v f x y T_q w0 hx hy h_q.vpo
theorem azL(v:Value)(c:Nat)(f:VF)(x y X Y:Int)(T_q:Nat->Prop)(w0:World)(h_q:PR w0 T_q v (c) (f)) :
  Calls Tryz.prog 63 #[v,.int .i64 (x),.int .i64 (y),.agg #[.int .i64 (X),.int .i64 (Y)]] w0 fun e w'=>∃ (T_q':Nat->Prop),e = .returned (.int .i64 (ZA f x y X Y))/\KR (T_q) w0 w'/\(PR w' T_q' v (c) (RA f x y X Y)/\KS w0 T_q T_q'):=by
 refine Ly (args:=[v,iv x,iv y,.agg #[iv X,iv Y]]) 53 Tryz.func63 rfl rfl (Nat.le_of_ble_eq_true rfl) ?_
 have g_q:=KS.refl w0 T_q
 obtain⟨p,rfl,hT,hp,hr,hap,ok⟩:=h_q
 have af:KS w0 T_q (Lh p):=fun i h=>g_q i ((fun i h=>(hT i).2 (Or.inl h)) i h)
 have ac:KS w0 T_q (Lh c):=fun i h=>g_q i ((fun i h=>(hT i).2 (Or.inr h)) i h)
 have aa:KO (Lh p) (Lh c):=hap
 refine KM (KL (LJ (vs:=[iv X,iv Y]) rfl rfl rfl rfl fun p4 w5 B7 g8 k6=>?_))
 obtain⟨ae,av⟩:=Oe k6 hp hr
 have aw:=(KR.refl T_q w0).tr k6
 refine Lb (iv 0) LE (KQ ?_)
 have ab:=K4 (pt p 0)
 have an:=K4 (iv x)
 have az:=K4 (iv y)
 have ah:=K4 (undef)
 have aA:=K4 (pt p4 0)
 refine KK (KM (KM ?_))
 by_cases aB:0<=x/\x<(f.w)
 ·skip
  by_cases aP:0<=y/\y<(f.h)
  ·skip
   refine KL (K2 Lw ab (KN (.bool false) rr (R0 rfl rfl rfl Tryz.underlying56 rr) (KN (.bool false) rr (KT rfl rfl rr) (Lj (iv x) 2 false 13 Li (KT rfl an rr) (Lj (pt p 0) 2 false 13 Li (KT rfl ab rr) (Lj (pt p 0) 2 false 13 Li (OW rfl rfl rr) (Lj (pt p 0) 2 false 13 Li (KU (n:=1) rfl rfl Tryz.underlying136 rfl (by kernel_rfl) (by decide) rfl rr) (Lj (iv (f.w)) 2 false 13 Li (KY rfl rfl Tryz.underlying3 ae rfl rfl rr) (LZ (R:=fun v_ w_=>v_ = .bool true/\KR (fun _=>False) w5 w_) 2 false 13 rfl rfl rfl rfl rfl (LQ rfl rfl rfl (fun _ _=>by kernel_rfl) (K6 _) (Lo rfl (Lo rfl L5)) (RK x (f.w)  _   ) (fun e_ w_ h_=>⟨_,h_.1,(congrArg Value.bool (decide_eq_true aB)),h_.2⟩)) ?_)))))))))
   rintro _ bn ⟨rfl,aQ⟩
   obtain⟨aR,bo,bp⟩:=Od aQ ae av B7
   refine Lj (.bool false) 2 false 13 Li (Mq rfl rfl rfl rr) (KN (.bool false) rr (Lt rfl rfl rfl rr) (KN (.bool false) rr (KT rfl rfl rr) (Lj (iv y) 11 false 22 Li (KT rfl az rr) (Lj (pt p 0) 11 false 22 Li (KT rfl ab rr) (Lj (pt p 0) 11 false 22 Li (OW rfl rfl rr) (Lj (pt p 1) 11 false 22 Li (KU (n:=1) rfl rfl Tryz.underlying136 rfl (by kernel_rfl) (by decide) rfl rr) (Lj (iv (f.h)) 11 false 22 Li (KY rfl rfl Tryz.underlying3 aR rfl rfl rr) (LZ (R:=fun v_ w_=>v_ = .bool true/\KR (fun _=>False) bn w_) 11 false 22 rfl rfl rfl rfl rfl (LQ rfl rfl rfl (fun _ _=>by kernel_rfl) (K6 _) (Lo rfl (Lo rfl L5)) (RK y (f.h)  _   ) (fun e_ w_ h_=>⟨_,h_.1,(congrArg Value.bool (decide_eq_true aP)),h_.2⟩)) ?_))))))))
   rintro _ cF ⟨rfl,aS⟩
   obtain⟨bq,bt,aT⟩:=Od aS aR bo bp
   refine Lj (.bool false) 11 false 22 Li (Mq rfl rfl rfl rr) (KN (.bool false) rr (Lt rfl rfl rfl rr) (KQ ?_))
   have bu:=K4 (.bool false)
   refine KK ?_
   refine K5 (t:=false) bu (fun e=>by cases e) (fun _=>?_)
   refine Lf (KK (KM (KM ?_)))
   have hin:XX f x y:=⟨by omega,by omega,by omega,by omega⟩
   refine KL (KN (.agg #[iv X,iv Y]) rr (KX L0 rfl aA aT rr) (L9 rfl rfl rfl rfl rfl (fun _ _=>by kernel_rfl) (Lo rfl L5) (Wu X Y  _   ) fun bv aU=>?_))
   obtain⟨ai,aj,aV⟩:=Od aU bq bt aT
   have aC:=((aw.tr aQ).tr aS).tr aU
   refine Lb (iv (Qw X Y)) LE (KQ ?_)
   have aW:=K4 (iv (Qw X Y))
   refine KK (KM (KL (K2 Lw aW (KN (.bool (decide ((Qw X Y)≠0))) rr (Mw rfl rfl rfl rfl rr) (KQ ?_)))))
   have bz:=K4 (.bool (decide ((Qw X Y)≠0)))
   refine KK ?_
   refine K5 bz (fun ak=>?_) (fun ak=>?_)
   ·replace ak:=of_decide_eq_true ak
    refine KM ?_
    have hvn:¬ M1 X Y:=fun h=>absurd ((SL X Y).2 h) (by assumption)
    refine KL (K2 Lw aW (Lb (iv (Qw X Y)) LE (KQ ?_)))
    have bA:=K4 (iv (Qw X Y))
    refine KK (Le (Lx ?_))
    have bB:PR bv (fun i=>(Lh p) i\/((Lh c) i)) (pt p 0) c (RA f x y X Y):=(by first|(rw[(P7 hin hv).2];exact⟨_,rfl,fun i=>Iff.rfl,ai,aj.congr (fun a b=>by first|exact PZ f x y X Y a b|(rw[h0.1,h0.2];exact PZ f x y 0 0 a b)),aa,UI ok hin hv⟩)|(rw[(Ph hin hvn).2];exact⟨_,rfl,fun i=>Iff.rfl,ai,aj,aa,ok⟩)|(rw[(Rt hno).2];exact⟨_,rfl,fun i=>Iff.rfl,ai,aj,aa,ok⟩))
    have bC:KS w0 T_q (fun i=>(Lh p) i\/((Lh c) i)):=fun i h=>h.elim (fun y=>af i y) (fun y=>ac i y)
    exact LC (v:=iv (Qw X Y)) ah rfl rfl bA ⟨(fun i=>(Lh p) i\/((Lh c) i)),(by first|rw[(P7 hin hv).1]|rw[(Ph hin hvn).1,Oa hvn]|rw[(Rt hno).1]),aC,⟨bB,bC⟩⟩
   ·replace ak:=of_decide_eq_false ak
    refine Lf (KK (KM ?_))
    have hv:M1 X Y:=(SL X Y).1 (by first|assumption|(apply Decidable.byContradiction;assumption))
    refine KL (K2 Lw an (K2 Lw az (KN (.agg #[iv x,iv y]) rr (Ma (l':=[(0,iv x),(1,iv y)]) (cells:=#[iv x,iv y]) rfl (RW rfl (RW rfl Rj)) (by kernel_rfl) rfl rr) (LN (n:=2) (vs:=[iv 0,iv 0]) rfl rfl rfl (by kernel_rfl) fun bD cG bE aX aY=>?_))))
    obtain⟨bF,bG,bH⟩:=Us aX ai aj aV
    obtain⟨bI,bJ,bK⟩:=Od aY ai aj aV
    refine Ll (us:=[iv x,iv y]) OC rfl rfl rfl rfl rfl bE rfl (L4 rfl (L4 rfl MX)) fun cH aZ ao=>?_
    have ap:=bI.all ao (bF.symm p rfl)
    have a8:=bJ.all ao (bG.symm c rfl)
    have a9:=bK.all ao (bH.symm p4 rfl)
    have ba:=(aC.tr aY).trans ao (KS.ok (S:=T_q) (KS.new aC aX) KZ)
    refine KQ ?_
    have bb:=K4 (pt bD 0)
    refine KK (KM (KM (KL (KN (.agg #[iv X,iv Y]) rr (KX L0 rfl aA a9 rr) (KN (.agg #[iv 0,iv 0]) rr (Ma (l':=[]) (cells:=#[iv 0,iv 0]) rfl Rj (by kernel_rfl) rfl rr) (KN (.bool (NI X Y 0 0)) rr (aCn rfl rfl rfl rfl rr) (KQ ?_)))))))
    have bL:=K4 (.bool (NI X Y 0 0))
    refine KK ?_
    refine K5 bL (fun bM=>?_) (fun bM=>?_)
    ·skip
     have h0:=aAC (by assumption)
     refine NJ 5 [some 42,some 43,some 44,some 45,some 46] [Pd.eq (pt p 0),Pd.eq (pt p 0),Pd.eq (pt p 2),Pd.eq (.map (some c)),Pd.eq (.agg #[iv x,iv y])] (by kernel_rfl) (by kernel_rfl) (by kernel_rfl) ?_ ?_
     ·refine KP ?_ ?_
      ·refine Ld.one rfl fun F_ w_ hR hout hD=>?_
       exact(KT rfl ((hout 0 rfl (by decide)).trans ab) ⟨rfl,KR.refl _ _⟩)
      refine KP ?_ ?_
      ·refine Ld.one rfl fun F_ w_ hR hout hD=>?_
       have bN:F_ 42=pt p 0:=(hD.get 0 rfl rfl rfl)
       exact(OW rfl bN ⟨rfl,KR.refl _ _⟩)
      refine KP ?_ ?_
      ·refine Ld.one rfl fun F_ w_ hR hout hD=>?_
       have bO:F_ 43=pt p 0:=(hD.get 0 rfl rfl rfl)
       exact(KU (n:=1) rfl bO Tryz.underlying136 rfl (by kernel_rfl) (by decide) rfl ⟨rfl,KR.refl _ _⟩)
      refine KP ?_ ?_
      ·refine Ld.one rfl fun F_ w_ hR hout hD=>?_
       have bP:F_ 44=pt p 2:=(hD.get 0 rfl rfl rfl)
       exact(KY rfl bP Tryz.underlying134 (ap.all hR id) rfl rfl ⟨rfl,KR.refl _ _⟩)
      refine KP ?_ ?_
      ·refine Ld.one rfl fun F_ w_ hR hout hD=>?_
       exact(KX OC rfl ((hout 10 rfl (by decide)).trans bb) (aZ.all hR id) ⟨rfl,KR.refl _ _⟩)
      exact Mj
     intro cI bc cJ bd aD aq
     obtain⟨bQ,bR⟩:=Oe bd ap a8
     have bS:=(aq 53).trans ah
     have bT:bc 45 = .map (some c):=(aq 45).trans (aD 3 (by decide))
     have bU:bc 46 = .agg #[iv x,iv y]:=(aq 46).trans (aD 4 (by decide))
     clear aD aq
     refine NV rfl rfl (aET (a:=x) (b:=y) QW Tryz.underlying134 rfl rfl bT bU bR fun _ bV aE be=>?_)
     have aF:=bQ.all be (aa p rfl)
     refine KQ ?_
     refine KK (KM (KL (Lb (iv 0) LE (KQ ?_))))
     have bW:=K4 (iv 0)
     refine KK (Le ?_)
     have bX:PR bV (fun i=>(Lh p) i\/((Lh c) i)) (pt p 0) c (RA f x y X Y):=(by first|(rw[(P7 hin hv).2];exact⟨_,rfl,fun i=>Iff.rfl,aF,aE.congr (fun a b=>by first|exact PZ f x y X Y a b|(rw[h0.1,h0.2];exact PZ f x y 0 0 a b)),aa,UI ok hin hv⟩)|(rw[(Ph hin hvn).2];exact⟨_,rfl,fun i=>Iff.rfl,aF,aE,aa,ok⟩)|(rw[(Rt hno).2];exact⟨_,rfl,fun i=>Iff.rfl,aF,aE,aa,ok⟩))
     have bY:KS w0 T_q (fun i=>(Lh p) i\/((Lh c) i)):=fun i h=>h.elim (fun y=>af i y) (fun y=>ac i y)
     exact LC (v:=iv 0) bS rfl rfl bW ⟨(fun i=>(Lh p) i\/((Lh c) i)),(by first|rw[(P7 hin hv).1]|rw[(Ph hin hvn).1,Oa hvn]|rw[(Rt hno).1]),((ba.tr bd).trans be (KS.ok (S:=T_q) ac (fun _ x=>x))),⟨bX,bY⟩⟩
    ·skip
     refine NJ 6 [some 47,some 48,some 49,some 50,some 51,some 52] [Pd.eq (pt p 0),Pd.eq (pt p 0),Pd.eq (pt p 2),Pd.eq (.map (some c)),Pd.eq (.agg #[iv x,iv y]),Pd.eq (.agg #[iv X,iv Y])] (by kernel_rfl) (by kernel_rfl) (by kernel_rfl) ?_ ?_
     ·refine KP ?_ ?_
      ·refine Ld.one rfl fun F_ w_ hR hout hD=>?_
       exact(KT rfl ((hout 0 rfl (by decide)).trans ab) ⟨rfl,KR.refl _ _⟩)
      refine KP ?_ ?_
      ·refine Ld.one rfl fun F_ w_ hR hout hD=>?_
       have bZ:F_ 47=pt p 0:=(hD.get 0 rfl rfl rfl)
       exact(OW rfl bZ ⟨rfl,KR.refl _ _⟩)
      refine KP ?_ ?_
      ·refine Ld.one rfl fun F_ w_ hR hout hD=>?_
       have b7:F_ 48=pt p 0:=(hD.get 0 rfl rfl rfl)
       exact(KU (n:=1) rfl b7 Tryz.underlying136 rfl (by kernel_rfl) (by decide) rfl ⟨rfl,KR.refl _ _⟩)
      refine KP ?_ ?_
      ·refine Ld.one rfl fun F_ w_ hR hout hD=>?_
       have b8:F_ 49=pt p 2:=(hD.get 0 rfl rfl rfl)
       exact(KY rfl b8 Tryz.underlying134 (ap.all hR id) rfl rfl ⟨rfl,KR.refl _ _⟩)
      refine KP ?_ ?_
      ·refine Ld.one rfl fun F_ w_ hR hout hD=>?_
       exact(KX OC rfl ((hout 10 rfl (by decide)).trans bb) (aZ.all hR id) ⟨rfl,KR.refl _ _⟩)
      refine KP ?_ ?_
      ·refine Ld.one rfl fun F_ w_ hR hout hD=>?_
       exact(KX L0 rfl ((hout 7 rfl (by decide)).trans aA) (a9.all hR id) ⟨rfl,KR.refl _ _⟩)
      exact Mj
     intro cK aG cL bf ar am
     obtain⟨b9,cd⟩:=Oe bf ap a8
     have ce:=(am 53).trans ah
     have cf:aG 50 = .map (some c):=(am 50).trans (ar 3 (by decide))
     have cg:aG 51 = .agg #[iv x,iv y]:=(am 51).trans (ar 4 (by decide))
     have ci:aG 52 = .agg #[iv X,iv Y]:=(am 52).trans (ar 5 (by decide))
     clear ar am
     refine NV rfl rfl (aEL (a:=x) (b:=y) (X:=X) (Y:=Y) QW Tryz.underlying134 rfl cf cg ci cd fun _ cj aH bg=>?_)
     have aI:=b9.all bg (aa p rfl)
     refine KQ ?_
     refine KK (KM (KL (Lb (iv 0) LE (KQ ?_))))
     have cm:=K4 (iv 0)
     refine KK (Le ?_)
     have cn:PR cj (fun i=>(Lh p) i\/((Lh c) i)) (pt p 0) c (RA f x y X Y):=(by first|(rw[(P7 hin hv).2];exact⟨_,rfl,fun i=>Iff.rfl,aI,aH.congr (fun a b=>by first|exact PZ f x y X Y a b|(rw[h0.1,h0.2];exact PZ f x y 0 0 a b)),aa,UI ok hin hv⟩)|(rw[(Ph hin hvn).2];exact⟨_,rfl,fun i=>Iff.rfl,aI,aH,aa,ok⟩)|(rw[(Rt hno).2];exact⟨_,rfl,fun i=>Iff.rfl,aI,aH,aa,ok⟩))
     have co:KS w0 T_q (fun i=>(Lh p) i\/((Lh c) i)):=fun i h=>h.elim (fun y=>af i y) (fun y=>ac i y)
     exact LC (v:=iv 0) ce rfl rfl cm ⟨(fun i=>(Lh p) i\/((Lh c) i)),(by first|rw[(P7 hin hv).1]|rw[(Ph hin hvn).1,Oa hvn]|rw[(Rt hno).1]),((ba.tr bf).trans bg (KS.ok (S:=T_q) ac (fun _ x=>x))),⟨cn,co⟩⟩
  ·skip
   refine KL (K2 Lw ab (KN (.bool false) rr (R0 rfl rfl rfl Tryz.underlying56 rr) (KN (.bool false) rr (KT rfl rfl rr) (Lj (iv x) 2 false 13 Li (KT rfl an rr) (Lj (pt p 0) 2 false 13 Li (KT rfl ab rr) (Lj (pt p 0) 2 false 13 Li (OW rfl rfl rr) (Lj (pt p 0) 2 false 13 Li (KU (n:=1) rfl rfl Tryz.underlying136 rfl (by kernel_rfl) (by decide) rfl rr) (Lj (iv (f.w)) 2 false 13 Li (KY rfl rfl Tryz.underlying3 ae rfl rfl rr) (LZ (R:=fun v_ w_=>v_ = .bool true/\KR (fun _=>False) w5 w_) 2 false 13 rfl rfl rfl rfl rfl (LQ rfl rfl rfl (fun _ _=>by kernel_rfl) (K6 _) (Lo rfl (Lo rfl L5)) (RK x (f.w)  _   ) (fun e_ w_ h_=>⟨_,h_.1,(congrArg Value.bool (decide_eq_true aB)),h_.2⟩)) ?_)))))))))
   rintro _ cq ⟨rfl,bh⟩
   obtain⟨bi,cr⟩:=Oe bh ae av
   refine Lj (.bool false) 2 false 13 Li (Mq rfl rfl rfl rr) (KN (.bool false) rr (Lt rfl rfl rfl rr) (KN (.bool false) rr (KT rfl rfl rr) (Lj (iv y) 11 false 22 Li (KT rfl az rr) (Lj (pt p 0) 11 false 22 Li (KT rfl ab rr) (Lj (pt p 0) 11 false 22 Li (OW rfl rfl rr) (Lj (pt p 1) 11 false 22 Li (KU (n:=1) rfl rfl Tryz.underlying136 rfl (by kernel_rfl) (by decide) rfl rr) (Lj (iv (f.h)) 11 false 22 Li (KY rfl rfl Tryz.underlying3 bi rfl rfl rr) (LZ (R:=fun v_ w_=>v_ = .bool false/\KR (fun _=>False) cq w_) 11 false 22 rfl rfl rfl rfl rfl (LQ rfl rfl rfl (fun _ _=>by kernel_rfl) (K6 _) (Lo rfl (Lo rfl L5)) (RK y (f.h)  _   ) (fun e_ w_ h_=>⟨_,h_.1,(congrArg Value.bool (decide_eq_false aP)),h_.2⟩)) ?_))))))))
   rintro _ ct ⟨rfl,bj⟩
   obtain⟨aJ,aK⟩:=Oe bj bi cr
   refine Lj (.bool true) 11 false 22 Li (Mq rfl rfl rfl rr) (KN (.bool true) rr (Lt rfl rfl rfl rr) (KQ ?_))
   have cu:=K4 (.bool true)
   refine KK ?_
   refine K5 (t:=true) cu (fun _=>?_) (fun e=>by cases e)
   refine KM ?_
   have hno:¬ XX f x y:=by unfold XX;omega
   refine KL (Lb (iv 1) LE (KQ ?_))
   have cv:=K4 (iv 1)
   refine KK (Le (Lx ?_))
   have cw:PR ct (fun i=>(Lh p) i\/((Lh c) i)) (pt p 0) c (RA f x y X Y):=(by first|(rw[(P7 hin hv).2];exact⟨_,rfl,fun i=>Iff.rfl,aJ,aK.congr (fun a b=>by first|exact PZ f x y X Y a b|(rw[h0.1,h0.2];exact PZ f x y 0 0 a b)),aa,UI ok hin hv⟩)|(rw[(Ph hin hvn).2];exact⟨_,rfl,fun i=>Iff.rfl,aJ,aK,aa,ok⟩)|(rw[(Rt hno).2];exact⟨_,rfl,fun i=>Iff.rfl,aJ,aK,aa,ok⟩))
   have cy:KS w0 T_q (fun i=>(Lh p) i\/((Lh c) i)):=fun i h=>h.elim (fun y=>af i y) (fun y=>ac i y)
   exact LC (v:=iv 1) ah rfl rfl cv ⟨(fun i=>(Lh p) i\/((Lh c) i)),(by first|rw[(P7 hin hv).1]|rw[(Ph hin hvn).1,Oa hvn]|rw[(Rt hno).1]),((aw.tr bh).tr bj),⟨cw,cy⟩⟩
 ·skip
  refine KL (K2 Lw ab (KN (.bool false) rr (R0 rfl rfl rfl Tryz.underlying56 rr) (KN (.bool false) rr (KT rfl rfl rr) (Lj (iv x) 2 false 13 Li (KT rfl an rr) (Lj (pt p 0) 2 false 13 Li (KT rfl ab rr) (Lj (pt p 0) 2 false 13 Li (OW rfl rfl rr) (Lj (pt p 0) 2 false 13 Li (KU (n:=1) rfl rfl Tryz.underlying136 rfl (by kernel_rfl) (by decide) rfl rr) (Lj (iv (f.w)) 2 false 13 Li (KY rfl rfl Tryz.underlying3 ae rfl rfl rr) (LZ (R:=fun v_ w_=>v_ = .bool false/\KR (fun _=>False) w5 w_) 2 false 13 rfl rfl rfl rfl rfl (LQ rfl rfl rfl (fun _ _=>by kernel_rfl) (K6 _) (Lo rfl (Lo rfl L5)) (RK x (f.w)  _   ) (fun e_ w_ h_=>⟨_,h_.1,(congrArg Value.bool (decide_eq_false aB)),h_.2⟩)) ?_)))))))))
  rintro _ cz ⟨rfl,bl⟩
  obtain⟨aL,aM⟩:=Oe bl ae av
  refine Lj (.bool true) 2 false 13 Li (Mq rfl rfl rfl rr) (KN (.bool true) rr (Lt rfl rfl rfl rr) (KN (.bool true) rr (KT rfl rfl rr) (Lq 11 false 22 Li (Lq 11 false 22 Li (Lq 11 false 22 Li (Lq 11 false 22 Li (Lq 11 false 22 Li (Lq 11 false 22 Li (Lq 11 false 22 Li (KN (.bool true) rr (LB rfl rfl rfl rr) (KQ ?_)))))))))))
  have cA:=K4 (.bool true)
  refine KK ?_
  refine K5 (t:=true) cA (fun _=>?_) (fun e=>by cases e)
  refine KM ?_
  have hno:¬ XX f x y:=by unfold XX;omega
  refine KL (Lb (iv 1) LE (KQ ?_))
  have cB:=K4 (iv 1)
  refine KK (Le (Lx ?_))
  have cC:PR cz (fun i=>(Lh p) i\/((Lh c) i)) (pt p 0) c (RA f x y X Y):=(by first|(rw[(P7 hin hv).2];exact⟨_,rfl,fun i=>Iff.rfl,aL,aM.congr (fun a b=>by first|exact PZ f x y X Y a b|(rw[h0.1,h0.2];exact PZ f x y 0 0 a b)),aa,UI ok hin hv⟩)|(rw[(Ph hin hvn).2];exact⟨_,rfl,fun i=>Iff.rfl,aL,aM,aa,ok⟩)|(rw[(Rt hno).2];exact⟨_,rfl,fun i=>Iff.rfl,aL,aM,aa,ok⟩))
  have cD:KS w0 T_q (fun i=>(Lh p) i\/((Lh c) i)):=fun i h=>h.elim (fun y=>af i y) (fun y=>ac i y)
  exact LC (v:=iv 1) ah rfl rfl cB ⟨(fun i=>(Lh p) i\/((Lh c) i)),(by first|rw[(P7 hin hv).1]|rw[(Ph hin hvn).1,Oa hvn]|rw[(Rt hno).1]),(aw.tr bl),⟨cC,cD⟩⟩
open Go.RowKit
theorem Qn.one{w:World}{T:Nat->Prop}{v:Value}{o:Option VF}(h:Qn w T v o):v.oneCell'=true:=by
 obtain⟨a,e,_⟩:=h.isnil;subst e;rfl
theorem Qn.oneC{w:World}{T:Nat->Prop}{v:Value}{o:Option VF}(h:Qn w T v o):oneC v=true:=by
 obtain⟨a,e,_⟩:=h.isnil;subst e;rfl
theorem Tk{W H:Int}{p:Nat}(hW:8<=W/\W<=64)(hH:8<=H/\H<=64):Tm ((Lk W p:Nat):Int) ((Lk H p:Nat):Int)=some (Qo (Lk W p) (Lk H p)):=by
 refine Uk ?_
 have h1:0<Lk W p:=by unfold Lk;split <;> omega
 have h2:0<Lk H p:=by unfold Lk;split <;> omega
 have h3:=Pe (p:=p) hW.2;have h4:=Pe (p:=p) hH.2
 unfold Ob;omega
def Rb(l:List Nat)(k:Int)(w i:Nat)(t:ZG):Ch:=if (Mt l k w i t).2.1=0 then (Mt l k w i t).1 else W3
def Sy(l:List Nat)(k:Int)(w i:Nat)(t:ZG):ZG:=if (Mt l k w i t).2.1=0 then azc l k w i t else t
theorem YF{l:List Nat}{k:Int}{w i:Nat}{t:ZG}(h:(Mt l k w i t).2.1=0):Rb l k w i t=(Mt l k w i t).1/\Sy l k w i t=azc l k w i t:=⟨if_pos h,if_pos h⟩
theorem aFl{l:List Nat}{k:Int}{w i:Nat}{t:ZG}(h:(Mt l k w i t).2.1≠0):Rb l k w i t=W3/\Sy l k w i t=t:=⟨if_neg h,if_neg h⟩
theorem aBF{l:List Nat}{k:Int}{w i:Nat}{t:ZG}:Nq l k (gX t.a (pX w i) (pY w i)) (gY t.a (pX w i) (pY w i)) (gX t.b (pX w i) (pY w i)) (gY t.b (pX w i) (pY w i)) t.s=(Sy l k w i t).s:=by
 unfold Nq Sy
 show (if (Mt l k w i t).2.1=0 then (Mt l k w i t).2.2 else t.s)=_
 split <;> rfl
theorem X6(p:Nat)(l:List Nat)(st:Option Nat)(k P:Int)(w i:Nat)(u v:Value)(ca cb:Nat)(a b:VF)(T_r:Nat->Prop)(T_a:Nat->Prop)(T_b:Nat->Prop)(w0:World)(hA:Og w0)(hO:OX w0)(hG:∀ i,T_r i->5<=i)(hGa:∀ i,T_a i->5<=i)(hGb:∀ i,T_b i->5<=i)(hw:0<w)(h16:w<=16)(hi:i<=256)(h_r:P2 w0 T_r p (l) (st))(h_a:PR w0 T_a u (ca) (a))(h_b:PR w0 T_b v (cb) (b))(ap_r_a:KO T_r T_a)(ap_r_b:KO T_r T_b)(ap_a_b:KO T_a T_b) :
  Calls Tryz.prog 30 #[.pointer (some ⟨p,0,none⟩),.int .i64 (k),.agg #[u,v],.agg #[.int .i64 (P),.int .i64 (pX w i),.int .i64 (pY w i)]] w0 fun e w'=>∃ (T_r':Nat->Prop) (T_a':Nat->Prop) (T_b':Nat->Prop),e = .returned (.tuple #[.agg (PN (Rb l k w i ⟨a,b,st⟩)).toArray,.int .i64 ((Mt l k w i ⟨a,b,st⟩).2.1)])/\KR (fun i=>(T_r) i\/((T_a) i\/((T_b) i))) w0 w'/\(P2 w' T_r' p (l) ((Sy l k w i ⟨a,b,st⟩).s)/\KS w0 T_r T_r')/\(PR w' T_a' u (ca) ((Sy l k w i ⟨a,b,st⟩).a)/\KS w0 T_a T_a')/\(PR w' T_b' v (cb) ((Sy l k w i ⟨a,b,st⟩).b)/\KS w0 T_b T_b')/\KO T_r' T_a'/\KO T_r' T_b'/\KO T_a' T_b':=by
 refine Ly (args:=[pt p 0,iv k,.agg #[u,v],.agg #[iv P,iv (pX w i),iv (pY w i)]]) 59 Tryz.func30 rfl rfl (Nat.le_of_ble_eq_true rfl) ?_
 have hxy:=aBq (i:=i) hw h16 hi
 have g_r:=KS.refl w0 T_r
 have g_a:=KS.refl w0 T_a
 have g_b:=KS.refl w0 T_b
 refine KM (KL (LJ (vs:=[u,v]) rfl rfl rfl rfl fun p1 w2 B4 g5 k3=>?_))
 obtain⟨b8,b9⟩:=UJ g5 h_r h_a
 obtain⟨aT,aU,cd⟩:=Od k3 h_r h_a h_b
 refine LJ (vs:=[iv P,iv (pX w i),iv (pY w i)]) rfl rfl rfl rfl fun aa dA ce aC aV=>?_
 obtain⟨cf,cg⟩:=UJ aC aT aU
 obtain⟨aW,aX,aY,ci⟩:=Pg aV aT aU cd B4
 have aZ:=((KR.refl (fun i=>T_r i\/(T_a i\/(T_b i))) w0).tr k3).tr aV
 refine LN (n:=21) (vs:=(OP 0 0 0 0 0 (fun _=>(0:Int)))) rfl rfl rfl (by kernel_rfl) fun ah a8 cj a9 ba=>?_
 have bb:=KS.new aZ a9
 obtain⟨bc,aD,aE⟩:=Us a9 aW aX aY
 obtain⟨cm,bd,be,aF,ai⟩:=O6 ba aW aX aY ci ce
 refine Lb (iv 0) LE (KQ ?_)
 have cn:=K4 (pt p 0)
 have co:=K4 (iv k)
 have cq:=K4 (undef)
 have aG:=K4 (pt p1 0)
 have aj:=K4 (pt aa 0)
 have cr:=K4 (pt ah 0)
 refine KK (KM ?_)
 refine aBL (S:=fun _=>False) [some 14,some 15,some 16,some 17,some 18,some 19,some 20,some 21,some 22,some 23,some 24,some 25,some 26,some 27,some 10,some 11,none,none] [Pc.eq (pt p1 0),Pc.eq u,Pc.eq (pt aa 1),Pc.eq (iv (pX w i)),Pc.eq (pt aa 2),Pc.eq (iv (pY w i)),Pc.eq (.agg #[iv (gX a (pX w i) (pY w i)),iv (gY a (pX w i) (pY w i))]),Pc.eq (pt p1 1),Pc.eq v,Pc.eq (pt aa 1),Pc.eq (iv (pX w i)),Pc.eq (pt aa 2),Pc.eq (iv (pY w i)),Pc.eq (.agg #[iv (gX b (pX w i) (pY w i)),iv (gY b (pX w i) (pY w i))]),Pc.blk 67 [iv 0,iv 0] 16 [iv (gX a (pX w i) (pY w i)),iv (gY a (pX w i) (pY w i))],Pc.blk 67 [iv 0,iv 0] 17 [iv (gX b (pX w i) (pY w i)),iv (gY b (pX w i) (pY w i))],Pc.turn 14,Pc.turn 15] (by kernel_rfl) (by kernel_rfl) (by kernel_rfl) rfl trivial ?_ ?_
 ·refine MD ?_ ?_
  ·refine NS.one rfl fun F_ w_ hR hout hD=>?_
   exact(L3 0 (s:=1) rfl ((hout 6 rfl (by decide)).trans aG) rfl (by omega) Tryz.underlying58 (by omega) (by kernel_rfl) (by omega) ⟨rfl,KR.refl _ _⟩)
  refine MD ?_ ?_
  ·refine NS.one rfl fun F_ w_ hR hout hD=>?_
   have ct:F_ 14=pt p1 0:=(hD.get 0 rfl rfl rfl)
   exact(KY rfl ct Tryz.underlying56 (aF.all hR id) rfl rfl ⟨rfl,KR.refl _ _⟩)
  refine MD ?_ ?_
  ·refine NS.one rfl fun F_ w_ hR hout hD=>?_
   exact(KU (n:=1) rfl ((hout 7 rfl (by decide)).trans aj) Tryz.underlying65 rfl (by kernel_rfl) (by decide) rfl ⟨rfl,KR.refl _ _⟩)
  refine MD ?_ ?_
  ·refine NS.one rfl fun F_ w_ hR hout hD=>?_
   have cu:F_ 16=pt aa 1:=(hD.get 0 rfl rfl rfl)
   exact(KY rfl cu Tryz.underlying3 (ai.all hR id) rfl rfl ⟨rfl,KR.refl _ _⟩)
  refine MD ?_ ?_
  ·refine NS.one rfl fun F_ w_ hR hout hD=>?_
   exact(KU (n:=1) rfl ((hout 7 rfl (by decide)).trans aj) Tryz.underlying65 rfl (by kernel_rfl) (by decide) rfl ⟨rfl,KR.refl _ _⟩)
  refine MD ?_ ?_
  ·refine NS.one rfl fun F_ w_ hR hout hD=>?_
   have aC:F_ 18=pt aa 2:=(hD.get 0 rfl rfl rfl)
   exact(KY rfl aC Tryz.underlying3 (ai.all hR id) rfl rfl ⟨rfl,KR.refl _ _⟩)
  refine MD ?_ ?_
  ·refine NS.one rfl fun F_ w_ hR hout hD=>?_
   have cv:F_ 15=u:=(hD.get 0 rfl rfl rfl)
   have cw:F_ 17=iv (pX w i):=(hD.get 1 rfl rfl rfl)
   have cy:F_ 19=iv (pY w i):=(hD.get 2 rfl rfl rfl)
   exact(LQ rfl rfl rfl (fun _ _=>by kernel_rfl) (K6 _) (Lo cv (Lo cw (Lo cy L5))) (XI u ca a (pX w i) (pY w i) T_a _ (by unfold inI;omega) (by unfold inI;omega) (bd.all hR KO.none) ) (fun e_ w_ h_=>⟨_,h_.1,rfl,h_.2⟩))
  refine MD ?_ ?_
  ·refine NS.one rfl fun F_ w_ hR hout hD=>?_
   exact(L3 1 (s:=1) rfl ((hout 6 rfl (by decide)).trans aG) rfl (by omega) Tryz.underlying58 (by omega) (by kernel_rfl) (by omega) ⟨rfl,KR.refl _ _⟩)
  refine MD ?_ ?_
  ·refine NS.one rfl fun F_ w_ hR hout hD=>?_
   have cz:F_ 21=pt p1 1:=(hD.get 0 rfl rfl rfl)
   exact(KY rfl cz Tryz.underlying56 (aF.all hR id) rfl rfl ⟨rfl,KR.refl _ _⟩)
  refine MD ?_ ?_
  ·refine NS.one rfl fun F_ w_ hR hout hD=>?_
   exact(KU (n:=1) rfl ((hout 7 rfl (by decide)).trans aj) Tryz.underlying65 rfl (by kernel_rfl) (by decide) rfl ⟨rfl,KR.refl _ _⟩)
  refine MD ?_ ?_
  ·refine NS.one rfl fun F_ w_ hR hout hD=>?_
   have cA:F_ 23=pt aa 1:=(hD.get 0 rfl rfl rfl)
   exact(KY rfl cA Tryz.underlying3 (ai.all hR id) rfl rfl ⟨rfl,KR.refl _ _⟩)
  refine MD ?_ ?_
  ·refine NS.one rfl fun F_ w_ hR hout hD=>?_
   exact(KU (n:=1) rfl ((hout 7 rfl (by decide)).trans aj) Tryz.underlying65 rfl (by kernel_rfl) (by decide) rfl ⟨rfl,KR.refl _ _⟩)
  refine MD ?_ ?_
  ·refine NS.one rfl fun F_ w_ hR hout hD=>?_
   have cB:F_ 25=pt aa 2:=(hD.get 0 rfl rfl rfl)
   exact(KY rfl cB Tryz.underlying3 (ai.all hR id) rfl rfl ⟨rfl,KR.refl _ _⟩)
  refine MD ?_ ?_
  ·refine NS.one rfl fun F_ w_ hR hout hD=>?_
   have cC:F_ 22=v:=(hD.get 0 rfl rfl rfl)
   have cD:F_ 24=iv (pX w i):=(hD.get 1 rfl rfl rfl)
   have cE:F_ 26=iv (pY w i):=(hD.get 2 rfl rfl rfl)
   exact(LQ rfl rfl rfl (fun _ _=>by kernel_rfl) (K6 _) (Lo cC (Lo cD (Lo cE L5))) (XI v cb b (pX w i) (pY w i) T_b _ (by unfold inI;omega) (by unfold inI;omega) (be.all hR KO.none) ) (fun e_ w_ h_=>⟨_,h_.1,rfl,h_.2⟩))
  refine MD ?_ ?_
  ·refine NS.one rfl fun F_ w_ hR hout hD=>?_
   exact OY (n:=2) (vs:=[iv 0,iv 0]) rfl (by kernel_rfl) ⟨_,rfl,Nat.le_refl _,heap_alloc_new _ _,(KR.refl _ _).alloc _⟩
  refine MD ?_ ?_
  ·refine NS.one rfl fun F_ w_ hR hout hD=>?_
   exact OY (n:=2) (vs:=[iv 0,iv 0]) rfl (by kernel_rfl) ⟨_,rfl,Nat.le_refl _,heap_alloc_new _ _,(KR.refl _ _).alloc _⟩
  refine MD ?_ ?_
  ·refine NS.one rfl fun F_ w_ hR hout hD=>?_
   obtain⟨p10_,bf,n10_,h10_⟩:∃ q_,F_ 10=pt q_ 0/\a8.heap.size<=q_/\MJ w_ q_ 67 [iv 0,iv 0]:=hD.get 0 rfl rfl rfl rfl
   have cF:F_ 20 = .agg #[iv (gX a (pX w i) (pY w i)),iv (gY a (pX w i) (pY w i))]:=(hD.get 1 rfl rfl rfl)
   exact Pr (us:=[iv (gX a (pX w i) (pY w i)),iv (gY a (pX w i) (pY w i))]) L0 rfl bf cF h10_ rfl (L4 rfl (L4 rfl MX)) fun w2_ b_ k_=>⟨10,p10_,rfl,bf,fun _ _ _ e_=>(by cases e_;exact b_),k_⟩
  refine MD ?_ ?_
  ·refine NS.one rfl fun F_ w_ hR hout hD=>?_
   obtain⟨p11_,bg,n11_,h11_⟩:∃ q_,F_ 11=pt q_ 0/\a8.heap.size<=q_/\MJ w_ q_ 67 [iv 0,iv 0]:=hD.get 0 rfl rfl rfl rfl
   have cG:F_ 27 = .agg #[iv (gX b (pX w i) (pY w i)),iv (gY b (pX w i) (pY w i))]:=(hD.get 1 rfl rfl rfl)
   exact Pr (us:=[iv (gX b (pX w i) (pY w i)),iv (gY b (pX w i) (pY w i))]) L0 rfl bg cG h11_ rfl (L4 rfl (L4 rfl MX)) fun w2_ b_ k_=>⟨11,p11_,rfl,bg,fun _ _ _ e_=>(by cases e_;exact b_),k_⟩
  exact Zs
 intro dB bh ap bi aH cH aq
 obtain⟨cI,bj,bl,cJ,cK,bm⟩:=Qh bi cm bd be aF ai cj
 have ar:=(aZ.tr ba).tr bi
 obtain⟨cL,cM,bn,bo,au,av⟩:=t6 aq 0 cn 1 co 59 cq 6 aG 7 aj 8 cr
 obtain⟨bp,cN,dD,aI⟩:=aH 14 (by decide)
 replace aI:MJ ap bp 67 [iv (gX a (pX w i) (pY w i)),iv (gY a (pX w i) (pY w i))]:=aI
 have cO:bh 10=pt bp 0:=(aq 10).trans cN
 obtain⟨bq,cP,dE,aJ⟩:=aH 15 (by decide)
 replace aJ:MJ ap bq 67 [iv (gX b (pX w i) (pY w i)),iv (gY b (pX w i) (pY w i))]:=aJ
 have cQ:bh 11=pt bq 0:=(aq 11).trans cP
 clear aH aq cH
 refine KK (KM (KL (K2 Lw cL (K2 Lw cM (KN (.agg #[iv (gX a (pX w i) (pY w i)),iv (gY a (pX w i) (pY w i))]) rr (KX L0 rfl cO aI rr) (KN (.agg #[iv (gX b (pX w i) (pY w i)),iv (gY b (pX w i) (pY w i))]) rr (KX L0 rfl cQ aJ rr) (LH (R:=fun v_ w_=>∃ (ak:Nat->Prop),.tuple #[.agg (PN ((Mt l k w i ⟨a,b,st⟩).1)).toArray,iv ((Mt l k w i ⟨a,b,st⟩).2.1)]=v_/\KR T_r ap w_/\(P2 w_ ak p l (Nq l k (gX a (pX w i) (pY w i)) (gY a (pX w i) (pY w i)) (gX b (pX w i) (pY w i)) (gY b (pX w i) (pY w i)) st)/\KS ap T_r ak)) rfl rfl (LQ rfl rfl rfl (fun _ _=>by kernel_rfl) (K6 _) (Lo rfl (Lo rfl (Lo rfl (Lo rfl L5)))) (aEg p l st k (gX a (pX w i) (pY w i)) (gY a (pX w i) (pY w i)) (gX b (pX w i) (pY w i)) (gY b (pX w i) (pY w i)) T_r _ (hA.but ar (fun i h=>h.elim (hG i) (fun h=>h.elim (hGa i) (hGb i)))) (hO.but ar (ovO (fun i h=>h.elim (hG i) (fun h=>h.elim (hGa i) (hGb i))))) hG cI ) (fun e_ w_ h_=>by obtain⟨T101_,he_,hr_⟩:=h_;exact⟨_,he_,T101_,rfl,hr_⟩)) ?_)))))))
 rintro _ dF ⟨ak,rfl,af,⟨bt,bu⟩⟩
 have bv:=bj.all af (fun i h x=>((ap_r_a.symm) i h x))
 have bz:=bl.all af (fun i h x=>((ap_r_b.symm) i h x))
 have bA:=cJ.all af (b8 p1 rfl)
 have bB:=cK.all af (cf aa rfl)
 have bC:=bm.all af (bc ah rfl)
 have bD:=ar.trans af (fun i hi x=>((KS.ok (S:=fun i=>T_r i\/(T_a i\/(T_b i))) g_r (fun _ x=>Or.inl x)) i hi x))
 have bE:=g_r.trans ar bu
 obtain⟨aK,aL,bF⟩:=aCy bu ap_r_a bj ap_r_b bl (bc.symm) bm
 refine KN (.tuple #[.agg (PN ((Mt l k w i ⟨a,b,st⟩).1)).toArray,iv ((Mt l k w i ⟨a,b,st⟩).2.1)]) rr (KT rfl rfl rr) (KN (.agg (PN ((Mt l k w i ⟨a,b,st⟩).1)).toArray) rr (LY rfl rfl rfl rr) (KN (iv ((Mt l k w i ⟨a,b,st⟩).2.1)) rr (LY rfl rfl rfl rr) (LN (n:=21) (vs:=(OP 0 0 0 0 0 (fun _=>(0:Int)))) rfl rfl rfl (by kernel_rfl) fun am dG cR bG bH=>?_)))
 obtain⟨cS,bI,bJ,cT,cU,cV⟩:=WS bG bt bv bz bA bB bC
 obtain⟨cW,cX,cY,cZ,c5,c6⟩:=Qh bH bt bv bz bA bB bC
 refine Ll (us:=(PN ((Mt l k w i ⟨a,b,st⟩).1))) LM rfl rfl rfl rfl rfl cR rfl (MS Li (MS Li (MS Li (MS Li (L4 rfl MX))))) fun bK bL ac=>?_
 have aM:=cW.all ac cS.symm
 have bM:=cX.all ac bI.symm
 have aN:=cY.all ac bJ.symm
 have bN:=cZ.all ac (cT.symm p1 rfl)
 have aO:=c5.all ac (cU.symm aa rfl)
 have aP:=c6.all ac (cV.symm ah rfl)
 have aQ:=(bD.tr bH).trans ac (KS.ok (S:=fun i=>T_r i\/(T_a i\/(T_b i))) (KS.new bD bG) KZ)
 refine Lb (iv ((Mt l k w i ⟨a,b,st⟩).2.1)) LE (KQ ?_)
 have aR:=K4 (pt am 0)
 have bO:=K4 (iv ((Mt l k w i ⟨a,b,st⟩).2.1))
 refine KK (KM (KM (KL (K2 Lw bO (KN (.bool (decide (((Mt l k w i ⟨a,b,st⟩).2.1)≠0))) rr (Mw rfl rfl rfl rfl rr) (KQ ?_))))))
 have c7:=K4 (.bool (decide (((Mt l k w i ⟨a,b,st⟩).2.1)≠0)))
 refine KK ?_
 refine K5 c7 (fun an=>?_) (fun an=>?_)
 ·replace an:=of_decide_eq_true an
  refine KM ?_
  have hR:=aFl (l:=l) (k:=k) (w:=w) (i:=i) (t:=⟨a,b,st⟩) (by assumption)
  refine KL (KN (.agg (OP 0 0 0 0 0 (fun _=>(0:Int))).toArray) rr (Ma (l':=[]) (cells:=(OP 0 0 0 0 0 (fun _=>(0:Int))).toArray) rfl Rj (by kernel_rfl) rfl rr) (K2 Lw bO (Ll (us:=(OP 0 0 0 0 0 (fun _=>(0:Int)))) LM rfl rfl rfl av rfl aP rfl (MS Li (MS Li (MS Li (MS Li (L4 rfl MX))))) fun dH c9 aw=>?_)))
  have da:=aM.all aw bF
  have db:=bM.all aw aD.symm
  have dc:=aN.all aw aE.symm
  refine Lb (iv ((Mt l k w i ⟨a,b,st⟩).2.1)) LE (KQ ?_)
  have dd:=K4 (iv ((Mt l k w i ⟨a,b,st⟩).2.1))
  refine KK (Le (Lx ?_))
  exact Mo bn rfl (M6 (vs:=(OP 0 0 0 0 0 (fun _=>(0:Int)))) LM rfl av c9) (LF (v:=iv ((Mt l k w i ⟨a,b,st⟩).2.1)) rfl dd) ⟨ak,T_a,T_b,(by first|rw[hR.1,he0]|(rw[hR.1] <;> rfl)),(aQ.trans aw (KS.ok (S:=fun i=>T_r i\/(T_a i\/(T_b i))) bb KZ)),⟨(by rw[← aBF];exact da),bE⟩,⟨(by rw[hR.2];exact db),g_a⟩,⟨(by rw[hR.2];exact dc),g_b⟩,aK,aL,ap_a_b⟩
 ·replace an:=of_decide_eq_false an
  refine Lf (KK (KM ?_))
  have he0:(Mt l k w i ⟨a,b,st⟩).2.1=0:=by first|assumption|(apply Decidable.byContradiction;assumption)
  have hR:=YF (l:=l) (k:=k) (w:=w) (i:=i) (t:=⟨a,b,st⟩) (by first|assumption|(apply Decidable.byContradiction;assumption))
  refine KL (KN (pt p1 0) rr (L3 0 (s:=1) rfl bo rfl (by omega) Tryz.underlying58 (by omega) (by kernel_rfl) (by omega) rr) (KN u rr (KY rfl rfl Tryz.underlying56 bN rfl rfl rr) (KN (pt aa 1) rr (KU (n:=1) rfl au Tryz.underlying65 rfl (by kernel_rfl) (by decide) rfl rr) (KN (iv (pX w i)) rr (KY rfl rfl Tryz.underlying3 aO rfl rfl rr) (KN (pt aa 2) rr (KU (n:=1) rfl au Tryz.underlying65 rfl (by kernel_rfl) (by decide) rfl rr) (KN (iv (pY w i)) rr (KY rfl rfl Tryz.underlying3 aO rfl rfl rr) (KN (pt am 1) rr (KU (n:=2) rfl aR Tryz.underlying71 rfl (by kernel_rfl) (by decide) rfl rr) (KN (.agg #[iv (((Mt l k w i ⟨a,b,st⟩).1).px),iv (((Mt l k w i ⟨a,b,st⟩).1).py)]) rr (PO (n:=2) L0 rfl rfl bL (Nat.le_of_ble_eq_true rfl) rfl rr) (LH (R:=fun v_ w_=>∃ (az:Nat->Prop),iv (ZA a (pX w i) (pY w i) (((Mt l k w i ⟨a,b,st⟩).1).px) (((Mt l k w i ⟨a,b,st⟩).1).py))=v_/\KR T_a bK w_/\(PR w_ az u ca (RA a (pX w i) (pY w i) (((Mt l k w i ⟨a,b,st⟩).1).px) (((Mt l k w i ⟨a,b,st⟩).1).py))/\KS bK T_a az)) rfl rfl (LQ rfl rfl rfl (fun _ _=>by kernel_rfl) (K6 _) (Lo rfl (Lo rfl (Lo rfl (Lo rfl L5)))) (azL u ca a (pX w i) (pY w i) (((Mt l k w i ⟨a,b,st⟩).1).px) (((Mt l k w i ⟨a,b,st⟩).1).py) T_a _  bM ) (fun e_ w_ h_=>by obtain⟨T192_,he_,hr_⟩:=h_;exact⟨_,he_,T192_,rfl,hr_⟩)) ?_)))))))))
  rintro _ bP ⟨az,rfl,ae,⟨bQ,bR⟩⟩
  have bS:=aM.all ae aK
  have de:=aN.all ae (fun i h x=>((ap_a_b.symm) i h x))
  have df:=bN.all ae (b9 p1 rfl)
  have bT:=aO.all ae (cg aa rfl)
  have bU:=aP.all ae (aD ah rfl)
  have bV:=bL.all ae (bI am rfl)
  have bW:=aQ.trans ae (fun i hi x=>((KS.ok (S:=fun i=>T_r i\/(T_a i\/(T_b i))) g_a (fun _ x=>Or.inr (Or.inl x))) i hi x))
  obtain⟨dg,bX,dh⟩:=aCy bR (aK.symm) aM ap_a_b aN (aD.symm) aP
  refine KQ ?_
  refine KK (KM (KL (KN (pt p1 1) rr (L3 1 (s:=1) rfl bo rfl (by omega) Tryz.underlying58 (by omega) (by kernel_rfl) (by omega) rr) (KN v rr (KY rfl rfl Tryz.underlying56 df rfl rfl rr) (KN (pt aa 1) rr (KU (n:=1) rfl au Tryz.underlying65 rfl (by kernel_rfl) (by decide) rfl rr) (KN (iv (pX w i)) rr (KY rfl rfl Tryz.underlying3 bT rfl rfl rr) (KN (pt aa 2) rr (KU (n:=1) rfl au Tryz.underlying65 rfl (by kernel_rfl) (by decide) rfl rr) (KN (iv (pY w i)) rr (KY rfl rfl Tryz.underlying3 bT rfl rfl rr) (KN (pt am 3) rr (KU (n:=2) rfl aR Tryz.underlying71 rfl (by kernel_rfl) (by decide) rfl rr) (KN (.agg #[iv (((Mt l k w i ⟨a,b,st⟩).1).nx),iv (((Mt l k w i ⟨a,b,st⟩).1).ny)]) rr (PO (n:=2) L0 rfl rfl bV (Nat.le_of_ble_eq_true rfl) rfl rr) (LH (R:=fun v_ w_=>∃ (aA:Nat->Prop),iv (ZA b (pX w i) (pY w i) (((Mt l k w i ⟨a,b,st⟩).1).nx) (((Mt l k w i ⟨a,b,st⟩).1).ny))=v_/\KR T_b bP w_/\(PR w_ aA v cb (RA b (pX w i) (pY w i) (((Mt l k w i ⟨a,b,st⟩).1).nx) (((Mt l k w i ⟨a,b,st⟩).1).ny))/\KS bP T_b aA)) rfl rfl (LQ rfl rfl rfl (fun _ _=>by kernel_rfl) (K6 _) (Lo rfl (Lo rfl (Lo rfl (Lo rfl L5)))) (azL v cb b (pX w i) (pY w i) (((Mt l k w i ⟨a,b,st⟩).1).nx) (((Mt l k w i ⟨a,b,st⟩).1).ny) T_b _  de ) (fun e_ w_ h_=>by obtain⟨T222_,he_,hr_⟩:=h_;exact⟨_,he_,T222_,rfl,hr_⟩)) ?_)))))))))))
  rintro _ dI ⟨aA,rfl,ao,⟨di,bY⟩⟩
  have dj:=bS.all ao aL
  have dk:=bQ.all ao bX
  have dl:=bU.all ao (aE ah rfl)
  have dm:=bV.all ao (bJ am rfl)
  obtain⟨dn,dp,dq⟩:=aCy bY (aL.symm) bS (bX.symm) bQ (aE.symm) bU
  refine KQ ?_
  refine KK (KM (KL (KN (.agg (PN ((Mt l k w i ⟨a,b,st⟩).1)).toArray) rr (KX LM rfl aR dm rr) (Ll (us:=(PN ((Mt l k w i ⟨a,b,st⟩).1))) LM rfl rfl rfl av rfl dl rfl (MS Li (MS Li (MS Li (MS Li (L4 rfl MX))))) fun dJ dr aB=>?_))))
  have dt:=dj.all aB bF
  have du:=dk.all aB dh
  have dv:=di.all aB dq
  have dw:=(bW.trans ao (fun i hi x=>((KS.ok (S:=fun i=>T_r i\/(T_a i\/(T_b i))) g_b (fun _ x=>Or.inr (Or.inr x))) i hi x))).trans aB (KS.ok (S:=fun i=>T_r i\/(T_a i\/(T_b i))) bb KZ)
  refine Lb (iv 0) LE (KQ ?_)
  have dy:=K4 (iv 0)
  refine KK (Le ?_)
  exact Mo bn rfl (M6 (vs:=(PN ((Mt l k w i ⟨a,b,st⟩).1))) LM rfl av dr) (LF (v:=iv 0) rfl dy) ⟨ak,az,aA,(by first|rw[hR.1,he0]|(rw[hR.1] <;> rfl)),dw,⟨(by rw[← aBF];exact dt),bE⟩,⟨(by rw[hR.2];exact du),(g_a.trans aQ bR)⟩,⟨(by rw[hR.2];exact dv),(g_b.trans bW bY)⟩,dg.symm,dn.symm,dp.symm⟩
theorem aC9(W H R B:Int)(w0:World)(hs:PU W H R B) :
  Calls Tryz.prog 28 #[.agg #[.int .i64 (W),.int .i64 (H),.int .i64 (R),.int .i64 (B)]] w0 fun e w'=>∃ (v1:Value) (T1:Nat->Prop) (v2:Value) (T2:Nat->Prop) (v3:Value) (T3:Nat->Prop) (v4:Value) (T4:Nat->Prop) (v5:Value) (T5:Nat->Prop) (v6:Value) (T6:Nat->Prop),e = .returned (.agg #[v1,v2,v3,v4,v5,v6])/\KR (fun _=>False) w0 w'/\(Qn w' T1 v1 (some (Qo ((Lk W 0:Nat):Int) ((Lk H 0:Nat):Int)))/\KS w0 Mb T1)/\(Qn w' T2 v2 (some (Qo ((Lk W 0:Nat):Int) ((Lk H 0:Nat):Int)))/\KS w0 Mb T2)/\(Qn w' T3 v3 (some (Qo ((Lk W 1:Nat):Int) ((Lk H 1:Nat):Int)))/\KS w0 Mb T3)/\(Qn w' T4 v4 (some (Qo ((Lk W 1:Nat):Int) ((Lk H 1:Nat):Int)))/\KS w0 Mb T4)/\(Qn w' T5 v5 (some (Qo ((Lk W 2:Nat):Int) ((Lk H 2:Nat):Int)))/\KS w0 Mb T5)/\(Qn w' T6 v6 (some (Qo ((Lk W 2:Nat):Int) ((Lk H 2:Nat):Int)))/\KS w0 Mb T6)/\KO T1 T2/\KO T1 T3/\KO T1 T4/\KO T1 T5/\KO T1 T6/\KO T2 T3/\KO T2 T4/\KO T2 T5/\KO T2 T6/\KO T3 T4/\KO T3 T5/\KO T3 T6/\KO T4 T5/\KO T4 T6/\KO T5 T6:=by
 refine Ly (args:=[.agg #[iv W,iv H,iv R,iv B]]) 33 Tryz.func28 rfl rfl (Nat.le_of_ble_eq_true rfl) ?_
 have hsd:=SJ hs
 refine KM (KL (LJ (vs:=[iv W,iv H,iv R,iv B]) rfl rfl rfl rfl fun p1 w2 B4 g5 k3=>?_))
 have K7:=(KR.refl (fun _=>False) w0).tr k3
 refine LN (n:=6) (vs:=[.pointer none,.pointer none,.pointer none,.pointer none,.pointer none,.pointer none]) rfl rfl rfl (by kernel_rfl) fun p8 w9 bI db bJ=>?_
 have bK:=B4.all bJ id
 have bL:=K7.tr bJ
 refine KQ ?_
 have dc:=K4 (undef)
 have bM:=K4 (pt p1 0)
 have dd:=K4 (pt p8 0)
 refine KK (KM (KL (LN (n:=6) (vs:=[.pointer none,.pointer none,.pointer none,.pointer none,.pointer none,.pointer none]) rfl rfl rfl (by kernel_rfl) fun aa gm de ah bN=>?_)))
 have az:=KS.new bL ah
 obtain⟨aL,aA⟩:=UJ ah bK bI
 obtain⟨bO,df⟩:=Oe bN bK bI
 refine KQ ?_
 have bP:=K4 (pt aa 0)
 refine KK (KM (KM (KL (KN (iv 0) rr (KT rfl rfl rr) (KQ ?_)))))
 have a8:=K4 (iv 0)
 refine KK (Lm (OL 4 (Mh (KM (KL (KN (.bool true) rr (Mc rfl a8 rfl rfl rr) (KQ ?_)))))))
 have dg:=K4 (.bool true)
 refine KK (KM ?_)
 refine K5 (t:=true) dg (fun _=>?_) (fun e=>by cases e)
 refine Lf (KK (KM (Lm (KM (KL (K2 Lw a8 (Lb (iv 0) LE (KQ ?_))))))))
 have a9:=K4 (iv 0)
 refine KK (KM (KL (KN (.agg #[iv W,iv H,iv R,iv B]) rr (KX MR rfl bM bO rr) (K2 Lw a9 (L9 rfl rfl rfl rfl rfl (fun _ _=>by kernel_rfl) (Lo rfl (Lo rfl L5)) (Te W H R B 0  _ (by assumption)  ) fun ba bQ=>?_)))))
 obtain⟨dh,bR,bS⟩:=Od bQ bO df de
 have bT:=(bL.tr bN).tr bQ
 refine KN (.tuple #[iv ((Lk W 0:Nat):Int),iv ((Lk H 0:Nat):Int)]) rr (KT rfl rfl rr) (KN (iv ((Lk W 0:Nat):Int)) rr (LY rfl rfl rfl rr) (KN (iv ((Lk H 0:Nat):Int)) rr (LY rfl rfl rfl rr) (Lb (iv ((Lk W 0:Nat):Int)) LE (Lb (iv ((Lk H 0:Nat):Int)) LE (KQ ?_)))))
 have bU:=K4 (iv ((Lk W 0:Nat):Int))
 have bV:=K4 (iv ((Lk H 0:Nat):Int))
 refine KK (KM (KL (KN (iv 0) rr (KT rfl rfl rr) (KQ ?_))))
 have bb:=K4 (iv 0)
 refine KK (Lm (OL 3 (Mh (KM (KL (KN (.bool true) rr (Mc rfl bb rfl rfl rr) (KQ ?_)))))))
 have di:=K4 (.bool true)
 refine KK (KM ?_)
 refine K5 (t:=true) di (fun _=>?_) (fun e=>by cases e)
 refine Lf (KK (KM (Lm (KM (KL (K2 Lw bb (Lb (iv 0) LE (KQ ?_))))))))
 have dj:=K4 (iv 0)
 refine KK ?_
 refine Rr (γ:=Value×(Nat->Prop)) [(5,4),(6,4),(7,4),(9,4),(10,4)] [some 21,some 22,some 23,some 24,some 25,some 20,some 26,some 27,some 28,some 29,none] ⟨fun w_=>True,fun _=>False,fun g_ w_=>(Qn w_ (g_.2) (g_.1) (Tm ((Lk W 0:Nat):Int) ((Lk H 0:Nat):Int))/\KS ba Mb (g_.2)),fun g_=>(g_.2),fun p_ w_=>MJ w_ p_ 59 [.pointer none,.pointer none,.pointer none,.pointer none,.pointer none,.pointer none],fun g_ p_ w_=>MJ w_ p_ 59 [g_.1,.pointer none,.pointer none,.pointer none,.pointer none,.pointer none]⟩ (Lh aa) (fun p_=>aa=p_) [fun g_=>iv 0,fun g_=>iv 0,fun g_=>iv ((Lk W 0:Nat):Int),fun g_=>iv ((Lk H 0:Nat):Int),fun g_=>.tuple #[g_.1,iv (Ns ((Lk W 0:Nat):Int) ((Lk H 0:Nat):Int))],fun g_=>.tuple #[g_.1,iv (Ns ((Lk W 0:Nat):Int) ((Lk H 0:Nat):Int))],fun g_=>g_.1,fun g_=>iv (Ns ((Lk W 0:Nat):Int) ((Lk H 0:Nat):Int)),fun g_=>pt aa 0,fun g_=>pt aa 0,fun _=>undef] 4 10 none (undef,Mb) aa (by kernel_rfl) (by kernel_rfl) (by kernel_rfl) (by kernel_rfl) ⟨.inr (.inr fun _ _=>rfl),⟨.inr (.inr fun _ _=>rfl),⟨.inr (.inr fun _ _=>rfl),⟨.inr (.inr fun _ _=>rfl),⟨.inr (.inl rfl),⟨.inl rfl,⟨.inl rfl,⟨.inl rfl,⟨.inr (.inr fun _ _=>rfl),⟨.inl rfl,⟨.inl rfl,trivial⟩⟩⟩⟩⟩⟩⟩⟩⟩⟩⟩ ⟨trivial,fun _ _ _ _ _ _=>trivial,fun _ _ _ z=>z.elim,fun g w w1 S1 h k a=>by obtain⟨b0_,g0_⟩:=h;exact⟨b0_.all k (fun i z=>a i z),g0_⟩,fun g w h i z=>by obtain⟨b0_,g0_⟩:=h;exact b0_.live i z,fun _ _ _ _ h k z=>h.all k z,fun _ _ h=>h.lt,fun _ _ _ _ _ h k z=>h.all k z,fun _ z=>z.elim,fun _ h=>.inl h.symm,fun _ _ z=>z⟩ (fun _ e=>by cases e) (fun _=>⟨rfl,bS⟩) ?_ ?_
 ·refine KV ?_ ?_
  ·refine Lr.one rfl rfl rfl rfl fun g_ p_ F_ w_ hR hout hD=>?_
   exact(KT rfl ((hout 4 rfl (by decide)).trans a9) ⟨rfl,KR.refl _ _⟩)
  refine KV ?_ ?_
  ·refine Lr.one rfl rfl rfl rfl fun g_ p_ F_ w_ hR hout hD=>?_
   exact(KT rfl ((hout 7 rfl (by decide)).trans dj) ⟨rfl,KR.refl _ _⟩)
  refine KV ?_ ?_
  ·refine Lr.one rfl rfl rfl rfl fun g_ p_ F_ w_ hR hout hD=>?_
   exact(KT rfl ((hout 5 rfl (by decide)).trans bU) ⟨rfl,KR.refl _ _⟩)
  refine KV ?_ ?_
  ·refine Lr.one rfl rfl rfl rfl fun g_ p_ F_ w_ hR hout hD=>?_
   exact(KT rfl ((hout 6 rfl (by decide)).trans bV) ⟨rfl,KR.refl _ _⟩)
  refine KV ?_ ?_
  ·refine Lr.call rfl rfl rfl rfl fun g_ p_ F_ w_ hR hout hD hP_=>?_
   have aj:F_ 23=iv ((Lk W 0:Nat):Int):=(hD.get 0 rfl rfl rfl).2 (by decide)
   have ak:F_ 24=iv ((Lk H 0:Nat):Int):=(hD.get 1 rfl rfl rfl).2 (by decide)
   exact(LQ rfl rfl rfl (fun _ _=>by kernel_rfl) (K6 _) (Lo aj (Lo ak L5)) (UR ((Lk W 0:Nat):Int) ((Lk H 0:Nat):Int)  _   ) (fun e_ w_ h_=>by obtain⟨x0_,x1_,he_,hk_,⟨b0_,g0_⟩⟩:=h_;exact⟨_,he_,⟨x0_,x1_⟩,rfl,hk_,⟨b0_,(KS.refl ba _).trans hR g0_⟩,fun b hb=>(g0_ b hb).elim (fun z=>z.elim) .inr⟩))
  refine KV ?_ ?_
  ·refine Lr.one rfl rfl rfl rfl fun g_ p_ F_ w_ hR hout hD=>?_
   have am:F_ 25 = .tuple #[g_.1,iv (Ns ((Lk W 0:Nat):Int) ((Lk H 0:Nat):Int))]:=(hD.get 0 rfl rfl rfl).2 (by decide)
   exact(KT rfl am ⟨rfl,KR.refl _ _⟩)
  refine KV ?_ ?_
  ·refine Lr.one rfl rfl rfl rfl fun g_ p_ F_ w_ hR hout hD=>?_
   have ab:F_ 20 = .tuple #[g_.1,iv (Ns ((Lk W 0:Nat):Int) ((Lk H 0:Nat):Int))]:=(hD.get 0 rfl rfl rfl).2 (by decide)
   exact(LY rfl ab rfl ⟨rfl,KR.refl _ _⟩)
  refine KV ?_ ?_
  ·refine Lr.one rfl rfl rfl rfl fun g_ p_ F_ w_ hR hout hD=>?_
   have ab:F_ 20 = .tuple #[g_.1,iv (Ns ((Lk W 0:Nat):Int) ((Lk H 0:Nat):Int))]:=(hD.get 0 rfl rfl rfl).2 (by decide)
   exact(LY rfl ab rfl ⟨rfl,KR.refl _ _⟩)
  refine KV ?_ ?_
  ·refine Lr.one rfl rfl rfl rfl fun g_ p_ F_ w_ hR hout hD=>?_
   have an:F_ 21=iv 0:=(hD.get 0 rfl rfl rfl).2 (by decide)
   exact(L3 0 (s:=2) rfl ((hout 3 rfl (by decide)).trans bP) an (by omega) Tryz.underlying59 (by omega) (by kernel_rfl) (by omega) ⟨rfl,KR.refl _ _⟩)
  refine KV ?_ ?_
  ·refine Lr.one rfl rfl rfl rfl fun g_ p_ F_ w_ hR hout hD=>?_
   have ao:F_ 28=pt aa 0:=(hD.get 0 rfl rfl rfl).2 (by decide)
   have ap:F_ 22=iv 0:=(hD.get 1 rfl rfl rfl).2 (by decide)
   exact(L3 0 (s:=1) rfl ao ap (by omega) Tryz.underlying58 (by omega) (by kernel_rfl) (by omega) ⟨rfl,KR.refl _ _⟩)
  refine KV ?_ ?_
  ·refine Lr.store rfl rfl rfl rfl fun g_ p_ F_ w_ hR hout hD hO_ hZ_ hQ_=>?_
   subst hO_
   have aq:F_ 29=pt aa 0:=(hD.get 0 rfl rfl rfl).2 (by decide)
   have ah:F_ 26=g_.1:=(hD.get 1 rfl rfl rfl).2 (by decide)
   exact Qk rfl aq ah hZ_ rfl (hQ_.1).oneC (by kernel_rfl) fun w2_ b_ k_=>⟨rfl,k_,b_⟩
  exact NT
 intro dk gn go gp aG bc dl dm dn aM dp dq dr bW
 obtain⟨ac,bd⟩:=dk
 have dt:=dh.all bc (aL.symm p1 rfl)
 have bX:=bR.all bc (aA.symm p8 rfl)
 have bY:=bT.trans bc (fun i hi x=>((KS.ok (S:=fun _=>False) az KZ) i hi x))
 obtain⟨aN,aO⟩:=dm
 replace aN:Qn aG bd ac (Tm ((Lk W 0:Nat):Int) ((Lk H 0:Nat):Int)):=aN
 replace aO:KS ba Mb bd:=aO
 obtain⟨du,aH⟩:=UJ aO bR bS
 cases dl
 replace aM:MJ aG aa 59 [ac,.pointer none,.pointer none,.pointer none,.pointer none,.pointer none]:=aM
 obtain⟨dv,dw,dy,bZ,dz,dA,dB,dC,dD⟩:=t9 bW 33 dc 1 bM 2 dd 3 bP 8 a8 4 a9 5 bU 6 bV 17 bb
 clear bW dr dq dp dn
 refine Lz (KK (KL (KN (iv ((1:Nat):Int)) rr (LS rfl dD rfl (LX (by omega) (by omega)) rr) (KN (iv ((1:Nat):Int)) rr (KT rfl rfl rr) (KQ ?_)))))
 have be:=K4 (iv ((1:Nat):Int))
 refine KK (Mh (KM (KL (KN (.bool true) rr (Mc rfl be rfl rfl rr) (KQ ?_)))))
 have dF:=K4 (.bool true)
 refine KK (KM ?_)
 refine K5 (t:=true) dF (fun _=>?_) (fun e=>by cases e)
 refine Lf (KK (KM (Lm (KM (KL (K2 Lw be (Lb (iv ((1:Nat):Int)) LE (KQ ?_))))))))
 have dG:=K4 (iv ((1:Nat):Int))
 refine KK ?_
 refine Rr (γ:=Value×(Nat->Prop)) [(5,4),(6,4),(7,4),(9,4),(10,4)] [some 21,some 22,some 23,some 24,some 25,some 20,some 26,some 27,some 28,some 29,none] ⟨fun w_=>True,fun _=>False,fun g_ w_=>(Qn w_ (g_.2) (g_.1) (Tm ((Lk W 0:Nat):Int) ((Lk H 0:Nat):Int))/\KS aG Mb (g_.2)),fun g_=>(g_.2),fun p_ w_=>MJ w_ p_ 59 [ac,.pointer none,.pointer none,.pointer none,.pointer none,.pointer none],fun g_ p_ w_=>MJ w_ p_ 59 [ac,g_.1,.pointer none,.pointer none,.pointer none,.pointer none]⟩ (Lh aa) (fun p_=>aa=p_) [fun g_=>iv 0,fun g_=>iv ((1:Nat):Int),fun g_=>iv ((Lk W 0:Nat):Int),fun g_=>iv ((Lk H 0:Nat):Int),fun g_=>.tuple #[g_.1,iv (Ns ((Lk W 0:Nat):Int) ((Lk H 0:Nat):Int))],fun g_=>.tuple #[g_.1,iv (Ns ((Lk W 0:Nat):Int) ((Lk H 0:Nat):Int))],fun g_=>g_.1,fun g_=>iv (Ns ((Lk W 0:Nat):Int) ((Lk H 0:Nat):Int)),fun g_=>pt aa 0,fun g_=>pt aa 1,fun _=>undef] 4 10 none (undef,Mb) aa (by kernel_rfl) (by kernel_rfl) (by kernel_rfl) (by kernel_rfl) ⟨.inr (.inr fun _ _=>rfl),⟨.inr (.inr fun _ _=>rfl),⟨.inr (.inr fun _ _=>rfl),⟨.inr (.inr fun _ _=>rfl),⟨.inr (.inl rfl),⟨.inl rfl,⟨.inl rfl,⟨.inl rfl,⟨.inr (.inr fun _ _=>rfl),⟨.inl rfl,⟨.inl rfl,trivial⟩⟩⟩⟩⟩⟩⟩⟩⟩⟩⟩ ⟨trivial,fun _ _ _ _ _ _=>trivial,fun _ _ _ z=>z.elim,fun g w w1 S1 h k a=>by obtain⟨b0_,g0_⟩:=h;exact⟨b0_.all k (fun i z=>a i z),g0_⟩,fun g w h i z=>by obtain⟨b0_,g0_⟩:=h;exact b0_.live i z,fun _ _ _ _ h k z=>h.all k z,fun _ _ h=>h.lt,fun _ _ _ _ _ h k z=>h.all k z,fun _ z=>z.elim,fun _ h=>.inl h.symm,fun _ _ z=>z⟩ (fun _ e=>by cases e) (fun _=>⟨rfl,aM⟩) ?_ ?_
 ·refine KV ?_ ?_
  ·refine Lr.one rfl rfl rfl rfl fun g_ p_ F_ w_ hR hout hD=>?_
   exact(KT rfl ((hout 4 rfl (by decide)).trans dA) ⟨rfl,KR.refl _ _⟩)
  refine KV ?_ ?_
  ·refine Lr.one rfl rfl rfl rfl fun g_ p_ F_ w_ hR hout hD=>?_
   exact(KT rfl ((hout 7 rfl (by decide)).trans dG) ⟨rfl,KR.refl _ _⟩)
  refine KV ?_ ?_
  ·refine Lr.one rfl rfl rfl rfl fun g_ p_ F_ w_ hR hout hD=>?_
   exact(KT rfl ((hout 5 rfl (by decide)).trans dB) ⟨rfl,KR.refl _ _⟩)
  refine KV ?_ ?_
  ·refine Lr.one rfl rfl rfl rfl fun g_ p_ F_ w_ hR hout hD=>?_
   exact(KT rfl ((hout 6 rfl (by decide)).trans dC) ⟨rfl,KR.refl _ _⟩)
  refine KV ?_ ?_
  ·refine Lr.call rfl rfl rfl rfl fun g_ p_ F_ w_ hR hout hD hP_=>?_
   have aj:F_ 23=iv ((Lk W 0:Nat):Int):=(hD.get 0 rfl rfl rfl).2 (by decide)
   have ak:F_ 24=iv ((Lk H 0:Nat):Int):=(hD.get 1 rfl rfl rfl).2 (by decide)
   exact(LQ rfl rfl rfl (fun _ _=>by kernel_rfl) (K6 _) (Lo aj (Lo ak L5)) (UR ((Lk W 0:Nat):Int) ((Lk H 0:Nat):Int)  _   ) (fun e_ w_ h_=>by obtain⟨x0_,x1_,he_,hk_,⟨b0_,g0_⟩⟩:=h_;exact⟨_,he_,⟨x0_,x1_⟩,rfl,hk_,⟨b0_,(KS.refl aG _).trans hR g0_⟩,fun b hb=>(g0_ b hb).elim (fun z=>z.elim) .inr⟩))
  refine KV ?_ ?_
  ·refine Lr.one rfl rfl rfl rfl fun g_ p_ F_ w_ hR hout hD=>?_
   have am:F_ 25 = .tuple #[g_.1,iv (Ns ((Lk W 0:Nat):Int) ((Lk H 0:Nat):Int))]:=(hD.get 0 rfl rfl rfl).2 (by decide)
   exact(KT rfl am ⟨rfl,KR.refl _ _⟩)
  refine KV ?_ ?_
  ·refine Lr.one rfl rfl rfl rfl fun g_ p_ F_ w_ hR hout hD=>?_
   have ab:F_ 20 = .tuple #[g_.1,iv (Ns ((Lk W 0:Nat):Int) ((Lk H 0:Nat):Int))]:=(hD.get 0 rfl rfl rfl).2 (by decide)
   exact(LY rfl ab rfl ⟨rfl,KR.refl _ _⟩)
  refine KV ?_ ?_
  ·refine Lr.one rfl rfl rfl rfl fun g_ p_ F_ w_ hR hout hD=>?_
   have ab:F_ 20 = .tuple #[g_.1,iv (Ns ((Lk W 0:Nat):Int) ((Lk H 0:Nat):Int))]:=(hD.get 0 rfl rfl rfl).2 (by decide)
   exact(LY rfl ab rfl ⟨rfl,KR.refl _ _⟩)
  refine KV ?_ ?_
  ·refine Lr.one rfl rfl rfl rfl fun g_ p_ F_ w_ hR hout hD=>?_
   have an:F_ 21=iv 0:=(hD.get 0 rfl rfl rfl).2 (by decide)
   exact(L3 0 (s:=2) rfl ((hout 3 rfl (by decide)).trans bZ) an (by omega) Tryz.underlying59 (by omega) (by kernel_rfl) (by omega) ⟨rfl,KR.refl _ _⟩)
  refine KV ?_ ?_
  ·refine Lr.one rfl rfl rfl rfl fun g_ p_ F_ w_ hR hout hD=>?_
   have ao:F_ 28=pt aa 0:=(hD.get 0 rfl rfl rfl).2 (by decide)
   have ap:F_ 22=iv ((1:Nat):Int):=(hD.get 1 rfl rfl rfl).2 (by decide)
   exact(L3 1 (s:=1) rfl ao ap (by omega) Tryz.underlying58 (by omega) (by kernel_rfl) (by omega) ⟨rfl,KR.refl _ _⟩)
  refine KV ?_ ?_
  ·refine Lr.store rfl rfl rfl rfl fun g_ p_ F_ w_ hR hout hD hO_ hZ_ hQ_=>?_
   subst hO_
   have aq:F_ 29=pt aa 1:=(hD.get 0 rfl rfl rfl).2 (by decide)
   have ah:F_ 26=g_.1:=(hD.get 1 rfl rfl rfl).2 (by decide)
   exact Qk rfl aq ah hZ_ rfl (hQ_.1).oneC (by kernel_rfl) fun w2_ b_ k_=>⟨rfl,k_,b_⟩
  exact NT
 intro dH gq gr gt b7 aP dI dJ dK bf dL dM dN b8
 obtain⟨ae,bg⟩:=dH
 have b9:=dt.all aP (aL.symm p1 rfl)
 have dO:=bX.all aP (aA.symm p8 rfl)
 have dP:=aN.all aP aH
 obtain⟨bh,aQ⟩:=dJ
 replace bh:Qn b7 bg ae (Tm ((Lk W 0:Nat):Int) ((Lk H 0:Nat):Int)):=bh
 replace aQ:KS aG Mb bg:=aQ
 obtain⟨dQ,aR,dR⟩:=Us aQ bX aM aN
 cases dI
 replace bf:MJ b7 aa 59 [ac,ae,.pointer none,.pointer none,.pointer none,.pointer none]:=bf
 obtain⟨dS,cd,dT,ce,dU,dV⟩:=t6 b8 33 dv 1 dw 2 dy 3 bZ 8 dz 17 be
 clear b8 dN dM dL dK
 refine Lz (KK (KL (KN (iv ((2:Nat):Int)) rr (LS rfl dV rfl (LX (by omega) (by omega)) rr) (KN (iv ((2:Nat):Int)) rr (KT rfl rfl rr) (KQ ?_)))))
 have dX:=K4 (iv ((2:Nat):Int))
 refine KK (Mh (KM (KL (KN (.bool false) rr (Mc rfl dX rfl rfl rr) (KQ ?_)))))
 have dY:=K4 (.bool false)
 refine KK (KM ?_)
 refine K5 (t:=false) dY (fun e=>by cases e) (fun _=>?_)
 refine Mm (Lp (Lp (Mk (Lz (KK (KL (KN (iv ((1:Nat):Int)) rr (LS rfl dU rfl (LX (by omega) (by omega)) rr) (KN (iv ((1:Nat):Int)) rr (KT rfl rfl rr) (KQ ?_)))))))))
 have bi:=K4 (iv ((1:Nat):Int))
 refine KK (Mh (KM (KL (KN (.bool true) rr (Mc rfl bi rfl rfl rr) (KQ ?_)))))
 have dZ:=K4 (.bool true)
 refine KK (KM ?_)
 refine K5 (t:=true) dZ (fun _=>?_) (fun e=>by cases e)
 refine Lf (KK (KM (Lm (KM (KL (K2 Lw bi (Lb (iv ((1:Nat):Int)) LE (KQ ?_))))))))
 have bj:=K4 (iv ((1:Nat):Int))
 refine KK (KM (KL (KN (.agg #[iv W,iv H,iv R,iv B]) rr (KX MR rfl cd b9 rr) (K2 Lw bj (L9 rfl rfl rfl rfl rfl (fun _ _=>by kernel_rfl) (Lo rfl (Lo rfl L5)) (Te W H R B 1  _ (by assumption)  ) fun bl cf=>?_)))))
 obtain⟨d8,cg,ci,cj,cm⟩:=O6 cf b9 dO bf dP bh
 have cn:=(bY.trans aP (fun i hi x=>((KS.ok (S:=fun _=>False) az KZ) i hi x))).tr cf
 refine KN (.tuple #[iv ((Lk W 1:Nat):Int),iv ((Lk H 1:Nat):Int)]) rr (KT rfl rfl rr) (KN (iv ((Lk W 1:Nat):Int)) rr (LY rfl rfl rfl rr) (KN (iv ((Lk H 1:Nat):Int)) rr (LY rfl rfl rfl rr) (Lb (iv ((Lk W 1:Nat):Int)) LE (Lb (iv ((Lk H 1:Nat):Int)) LE (KQ ?_)))))
 have co:=K4 (iv ((Lk W 1:Nat):Int))
 have cq:=K4 (iv ((Lk H 1:Nat):Int))
 refine KK (KM (KL (KN (iv 0) rr (KT rfl rfl rr) (KQ ?_))))
 have bm:=K4 (iv 0)
 refine KK (Lm (OL 3 (Mh (KM (KL (KN (.bool true) rr (Mc rfl bm rfl rfl rr) (KQ ?_)))))))
 have d9:=K4 (.bool true)
 refine KK (KM ?_)
 refine K5 (t:=true) d9 (fun _=>?_) (fun e=>by cases e)
 refine Lf (KK (KM (Lm (KM (KL (K2 Lw bm (Lb (iv 0) LE (KQ ?_))))))))
 have eb:=K4 (iv 0)
 refine KK ?_
 refine Rr (γ:=Value×(Nat->Prop)) [(5,4),(6,4),(7,4),(9,4),(10,4)] [some 21,some 22,some 23,some 24,some 25,some 20,some 26,some 27,some 28,some 29,none] ⟨fun w_=>True,fun _=>False,fun g_ w_=>(Qn w_ (g_.2) (g_.1) (Tm ((Lk W 1:Nat):Int) ((Lk H 1:Nat):Int))/\KS bl Mb (g_.2)),fun g_=>(g_.2),fun p_ w_=>MJ w_ p_ 59 [ac,ae,.pointer none,.pointer none,.pointer none,.pointer none],fun g_ p_ w_=>MJ w_ p_ 59 [ac,ae,g_.1,.pointer none,.pointer none,.pointer none]⟩ (Lh aa) (fun p_=>aa=p_) [fun g_=>iv ((1:Nat):Int),fun g_=>iv 0,fun g_=>iv ((Lk W 1:Nat):Int),fun g_=>iv ((Lk H 1:Nat):Int),fun g_=>.tuple #[g_.1,iv (Ns ((Lk W 1:Nat):Int) ((Lk H 1:Nat):Int))],fun g_=>.tuple #[g_.1,iv (Ns ((Lk W 1:Nat):Int) ((Lk H 1:Nat):Int))],fun g_=>g_.1,fun g_=>iv (Ns ((Lk W 1:Nat):Int) ((Lk H 1:Nat):Int)),fun g_=>pt aa 2,fun g_=>pt aa 2,fun _=>undef] 4 10 none (undef,Mb) aa (by kernel_rfl) (by kernel_rfl) (by kernel_rfl) (by kernel_rfl) ⟨.inr (.inr fun _ _=>rfl),⟨.inr (.inr fun _ _=>rfl),⟨.inr (.inr fun _ _=>rfl),⟨.inr (.inr fun _ _=>rfl),⟨.inr (.inl rfl),⟨.inl rfl,⟨.inl rfl,⟨.inl rfl,⟨.inr (.inr fun _ _=>rfl),⟨.inl rfl,⟨.inl rfl,trivial⟩⟩⟩⟩⟩⟩⟩⟩⟩⟩⟩ ⟨trivial,fun _ _ _ _ _ _=>trivial,fun _ _ _ z=>z.elim,fun g w w1 S1 h k a=>by obtain⟨b0_,g0_⟩:=h;exact⟨b0_.all k (fun i z=>a i z),g0_⟩,fun g w h i z=>by obtain⟨b0_,g0_⟩:=h;exact b0_.live i z,fun _ _ _ _ h k z=>h.all k z,fun _ _ h=>h.lt,fun _ _ _ _ _ h k z=>h.all k z,fun _ z=>z.elim,fun _ h=>.inl h.symm,fun _ _ z=>z⟩ (fun _ e=>by cases e) (fun _=>⟨rfl,ci⟩) ?_ ?_
 ·refine KV ?_ ?_
  ·refine Lr.one rfl rfl rfl rfl fun g_ p_ F_ w_ hR hout hD=>?_
   exact(KT rfl ((hout 4 rfl (by decide)).trans bj) ⟨rfl,KR.refl _ _⟩)
  refine KV ?_ ?_
  ·refine Lr.one rfl rfl rfl rfl fun g_ p_ F_ w_ hR hout hD=>?_
   exact(KT rfl ((hout 7 rfl (by decide)).trans eb) ⟨rfl,KR.refl _ _⟩)
  refine KV ?_ ?_
  ·refine Lr.one rfl rfl rfl rfl fun g_ p_ F_ w_ hR hout hD=>?_
   exact(KT rfl ((hout 5 rfl (by decide)).trans co) ⟨rfl,KR.refl _ _⟩)
  refine KV ?_ ?_
  ·refine Lr.one rfl rfl rfl rfl fun g_ p_ F_ w_ hR hout hD=>?_
   exact(KT rfl ((hout 6 rfl (by decide)).trans cq) ⟨rfl,KR.refl _ _⟩)
  refine KV ?_ ?_
  ·refine Lr.call rfl rfl rfl rfl fun g_ p_ F_ w_ hR hout hD hP_=>?_
   have aj:F_ 23=iv ((Lk W 1:Nat):Int):=(hD.get 0 rfl rfl rfl).2 (by decide)
   have ak:F_ 24=iv ((Lk H 1:Nat):Int):=(hD.get 1 rfl rfl rfl).2 (by decide)
   exact(LQ rfl rfl rfl (fun _ _=>by kernel_rfl) (K6 _) (Lo aj (Lo ak L5)) (UR ((Lk W 1:Nat):Int) ((Lk H 1:Nat):Int)  _   ) (fun e_ w_ h_=>by obtain⟨x0_,x1_,he_,hk_,⟨b0_,g0_⟩⟩:=h_;exact⟨_,he_,⟨x0_,x1_⟩,rfl,hk_,⟨b0_,(KS.refl bl _).trans hR g0_⟩,fun b hb=>(g0_ b hb).elim (fun z=>z.elim) .inr⟩))
  refine KV ?_ ?_
  ·refine Lr.one rfl rfl rfl rfl fun g_ p_ F_ w_ hR hout hD=>?_
   have am:F_ 25 = .tuple #[g_.1,iv (Ns ((Lk W 1:Nat):Int) ((Lk H 1:Nat):Int))]:=(hD.get 0 rfl rfl rfl).2 (by decide)
   exact(KT rfl am ⟨rfl,KR.refl _ _⟩)
  refine KV ?_ ?_
  ·refine Lr.one rfl rfl rfl rfl fun g_ p_ F_ w_ hR hout hD=>?_
   have ab:F_ 20 = .tuple #[g_.1,iv (Ns ((Lk W 1:Nat):Int) ((Lk H 1:Nat):Int))]:=(hD.get 0 rfl rfl rfl).2 (by decide)
   exact(LY rfl ab rfl ⟨rfl,KR.refl _ _⟩)
  refine KV ?_ ?_
  ·refine Lr.one rfl rfl rfl rfl fun g_ p_ F_ w_ hR hout hD=>?_
   have ab:F_ 20 = .tuple #[g_.1,iv (Ns ((Lk W 1:Nat):Int) ((Lk H 1:Nat):Int))]:=(hD.get 0 rfl rfl rfl).2 (by decide)
   exact(LY rfl ab rfl ⟨rfl,KR.refl _ _⟩)
  refine KV ?_ ?_
  ·refine Lr.one rfl rfl rfl rfl fun g_ p_ F_ w_ hR hout hD=>?_
   have an:F_ 21=iv ((1:Nat):Int):=(hD.get 0 rfl rfl rfl).2 (by decide)
   exact(L3 1 (s:=2) rfl ((hout 3 rfl (by decide)).trans ce) an (by omega) Tryz.underlying59 (by omega) (by kernel_rfl) (by omega) ⟨rfl,KR.refl _ _⟩)
  refine KV ?_ ?_
  ·refine Lr.one rfl rfl rfl rfl fun g_ p_ F_ w_ hR hout hD=>?_
   have ao:F_ 28=pt aa 2:=(hD.get 0 rfl rfl rfl).2 (by decide)
   have ap:F_ 22=iv 0:=(hD.get 1 rfl rfl rfl).2 (by decide)
   exact(L3 0 (s:=1) rfl ao ap (by omega) Tryz.underlying58 (by omega) (by kernel_rfl) (by omega) ⟨rfl,KR.refl _ _⟩)
  refine KV ?_ ?_
  ·refine Lr.store rfl rfl rfl rfl fun g_ p_ F_ w_ hR hout hD hO_ hZ_ hQ_=>?_
   subst hO_
   have aq:F_ 29=pt aa 2:=(hD.get 0 rfl rfl rfl).2 (by decide)
   have ah:F_ 26=g_.1:=(hD.get 1 rfl rfl rfl).2 (by decide)
   exact Qk rfl aq ah hZ_ rfl (hQ_.1).oneC (by kernel_rfl) fun w2_ b_ k_=>⟨rfl,k_,b_⟩
  exact NT
 intro ee gu gv gw aI aJ eh ei en aS eo ep er cr
 obtain⟨af,bn⟩:=ee
 have et:=d8.all aJ (aL.symm p1 rfl)
 have ct:=cg.all aJ (aA.symm p8 rfl)
 have cu:=cj.all aJ aH
 have cv:=cm.all aJ aR
 have cw:=cn.trans aJ (fun i hi x=>((KS.ok (S:=fun _=>False) az KZ) i hi x))
 obtain⟨aT,aU⟩:=ei
 replace aT:Qn aI bn af (Tm ((Lk W 1:Nat):Int) ((Lk H 1:Nat):Int)):=aT
 replace aU:KS bl Mb bn:=aU
 obtain⟨eu,bo,ew,ex⟩:=WI aU cg ci cj cm
 cases eh
 replace aS:MJ aI aa 59 [ac,ae,af,.pointer none,.pointer none,.pointer none]:=aS
 obtain⟨ey,ez,eA,cy,eB,eC,eD,eE,eF⟩:=t9 cr 33 dS 1 cd 2 dT 3 ce 8 bi 4 bj 5 co 6 cq 17 bm
 clear cr er ep eo en
 refine Lz (KK (KL (KN (iv ((1:Nat):Int)) rr (LS rfl eF rfl (LX (by omega) (by omega)) rr) (KN (iv ((1:Nat):Int)) rr (KT rfl rfl rr) (KQ ?_)))))
 have bp:=K4 (iv ((1:Nat):Int))
 refine KK (Mh (KM (KL (KN (.bool true) rr (Mc rfl bp rfl rfl rr) (KQ ?_)))))
 have eG:=K4 (.bool true)
 refine KK (KM ?_)
 refine K5 (t:=true) eG (fun _=>?_) (fun e=>by cases e)
 refine Lf (KK (KM (Lm (KM (KL (K2 Lw bp (Lb (iv ((1:Nat):Int)) LE (KQ ?_))))))))
 have eH:=K4 (iv ((1:Nat):Int))
 refine KK ?_
 refine Rr (γ:=Value×(Nat->Prop)) [(5,4),(6,4),(7,4),(9,4),(10,4)] [some 21,some 22,some 23,some 24,some 25,some 20,some 26,some 27,some 28,some 29,none] ⟨fun w_=>True,fun _=>False,fun g_ w_=>(Qn w_ (g_.2) (g_.1) (Tm ((Lk W 1:Nat):Int) ((Lk H 1:Nat):Int))/\KS aI Mb (g_.2)),fun g_=>(g_.2),fun p_ w_=>MJ w_ p_ 59 [ac,ae,af,.pointer none,.pointer none,.pointer none],fun g_ p_ w_=>MJ w_ p_ 59 [ac,ae,af,g_.1,.pointer none,.pointer none]⟩ (Lh aa) (fun p_=>aa=p_) [fun g_=>iv ((1:Nat):Int),fun g_=>iv ((1:Nat):Int),fun g_=>iv ((Lk W 1:Nat):Int),fun g_=>iv ((Lk H 1:Nat):Int),fun g_=>.tuple #[g_.1,iv (Ns ((Lk W 1:Nat):Int) ((Lk H 1:Nat):Int))],fun g_=>.tuple #[g_.1,iv (Ns ((Lk W 1:Nat):Int) ((Lk H 1:Nat):Int))],fun g_=>g_.1,fun g_=>iv (Ns ((Lk W 1:Nat):Int) ((Lk H 1:Nat):Int)),fun g_=>pt aa 2,fun g_=>pt aa 3,fun _=>undef] 4 10 none (undef,Mb) aa (by kernel_rfl) (by kernel_rfl) (by kernel_rfl) (by kernel_rfl) ⟨.inr (.inr fun _ _=>rfl),⟨.inr (.inr fun _ _=>rfl),⟨.inr (.inr fun _ _=>rfl),⟨.inr (.inr fun _ _=>rfl),⟨.inr (.inl rfl),⟨.inl rfl,⟨.inl rfl,⟨.inl rfl,⟨.inr (.inr fun _ _=>rfl),⟨.inl rfl,⟨.inl rfl,trivial⟩⟩⟩⟩⟩⟩⟩⟩⟩⟩⟩ ⟨trivial,fun _ _ _ _ _ _=>trivial,fun _ _ _ z=>z.elim,fun g w w1 S1 h k a=>by obtain⟨b0_,g0_⟩:=h;exact⟨b0_.all k (fun i z=>a i z),g0_⟩,fun g w h i z=>by obtain⟨b0_,g0_⟩:=h;exact b0_.live i z,fun _ _ _ _ h k z=>h.all k z,fun _ _ h=>h.lt,fun _ _ _ _ _ h k z=>h.all k z,fun _ z=>z.elim,fun _ h=>.inl h.symm,fun _ _ z=>z⟩ (fun _ e=>by cases e) (fun _=>⟨rfl,aS⟩) ?_ ?_
 ·refine KV ?_ ?_
  ·refine Lr.one rfl rfl rfl rfl fun g_ p_ F_ w_ hR hout hD=>?_
   exact(KT rfl ((hout 4 rfl (by decide)).trans eC) ⟨rfl,KR.refl _ _⟩)
  refine KV ?_ ?_
  ·refine Lr.one rfl rfl rfl rfl fun g_ p_ F_ w_ hR hout hD=>?_
   exact(KT rfl ((hout 7 rfl (by decide)).trans eH) ⟨rfl,KR.refl _ _⟩)
  refine KV ?_ ?_
  ·refine Lr.one rfl rfl rfl rfl fun g_ p_ F_ w_ hR hout hD=>?_
   exact(KT rfl ((hout 5 rfl (by decide)).trans eD) ⟨rfl,KR.refl _ _⟩)
  refine KV ?_ ?_
  ·refine Lr.one rfl rfl rfl rfl fun g_ p_ F_ w_ hR hout hD=>?_
   exact(KT rfl ((hout 6 rfl (by decide)).trans eE) ⟨rfl,KR.refl _ _⟩)
  refine KV ?_ ?_
  ·refine Lr.call rfl rfl rfl rfl fun g_ p_ F_ w_ hR hout hD hP_=>?_
   have aj:F_ 23=iv ((Lk W 1:Nat):Int):=(hD.get 0 rfl rfl rfl).2 (by decide)
   have ak:F_ 24=iv ((Lk H 1:Nat):Int):=(hD.get 1 rfl rfl rfl).2 (by decide)
   exact(LQ rfl rfl rfl (fun _ _=>by kernel_rfl) (K6 _) (Lo aj (Lo ak L5)) (UR ((Lk W 1:Nat):Int) ((Lk H 1:Nat):Int)  _   ) (fun e_ w_ h_=>by obtain⟨x0_,x1_,he_,hk_,⟨b0_,g0_⟩⟩:=h_;exact⟨_,he_,⟨x0_,x1_⟩,rfl,hk_,⟨b0_,(KS.refl aI _).trans hR g0_⟩,fun b hb=>(g0_ b hb).elim (fun z=>z.elim) .inr⟩))
  refine KV ?_ ?_
  ·refine Lr.one rfl rfl rfl rfl fun g_ p_ F_ w_ hR hout hD=>?_
   have am:F_ 25 = .tuple #[g_.1,iv (Ns ((Lk W 1:Nat):Int) ((Lk H 1:Nat):Int))]:=(hD.get 0 rfl rfl rfl).2 (by decide)
   exact(KT rfl am ⟨rfl,KR.refl _ _⟩)
  refine KV ?_ ?_
  ·refine Lr.one rfl rfl rfl rfl fun g_ p_ F_ w_ hR hout hD=>?_
   have ab:F_ 20 = .tuple #[g_.1,iv (Ns ((Lk W 1:Nat):Int) ((Lk H 1:Nat):Int))]:=(hD.get 0 rfl rfl rfl).2 (by decide)
   exact(LY rfl ab rfl ⟨rfl,KR.refl _ _⟩)
  refine KV ?_ ?_
  ·refine Lr.one rfl rfl rfl rfl fun g_ p_ F_ w_ hR hout hD=>?_
   have ab:F_ 20 = .tuple #[g_.1,iv (Ns ((Lk W 1:Nat):Int) ((Lk H 1:Nat):Int))]:=(hD.get 0 rfl rfl rfl).2 (by decide)
   exact(LY rfl ab rfl ⟨rfl,KR.refl _ _⟩)
  refine KV ?_ ?_
  ·refine Lr.one rfl rfl rfl rfl fun g_ p_ F_ w_ hR hout hD=>?_
   have an:F_ 21=iv ((1:Nat):Int):=(hD.get 0 rfl rfl rfl).2 (by decide)
   exact(L3 1 (s:=2) rfl ((hout 3 rfl (by decide)).trans cy) an (by omega) Tryz.underlying59 (by omega) (by kernel_rfl) (by omega) ⟨rfl,KR.refl _ _⟩)
  refine KV ?_ ?_
  ·refine Lr.one rfl rfl rfl rfl fun g_ p_ F_ w_ hR hout hD=>?_
   have ao:F_ 28=pt aa 2:=(hD.get 0 rfl rfl rfl).2 (by decide)
   have ap:F_ 22=iv ((1:Nat):Int):=(hD.get 1 rfl rfl rfl).2 (by decide)
   exact(L3 1 (s:=1) rfl ao ap (by omega) Tryz.underlying58 (by omega) (by kernel_rfl) (by omega) ⟨rfl,KR.refl _ _⟩)
  refine KV ?_ ?_
  ·refine Lr.store rfl rfl rfl rfl fun g_ p_ F_ w_ hR hout hD hO_ hZ_ hQ_=>?_
   subst hO_
   have aq:F_ 29=pt aa 3:=(hD.get 0 rfl rfl rfl).2 (by decide)
   have ah:F_ 26=g_.1:=(hD.get 1 rfl rfl rfl).2 (by decide)
   exact Qk rfl aq ah hZ_ rfl (hQ_.1).oneC (by kernel_rfl) fun w2_ b_ k_=>⟨rfl,k_,b_⟩
  exact NT
 intro eI gz gA gB cz aB eJ eK eL bq eM eN eO cA
 obtain⟨ai,bt⟩:=eI
 have eP:=et.all aB (aL.symm p1 rfl)
 have eQ:=ct.all aB (aA.symm p8 rfl)
 have eR:=cu.all aB aH
 have eS:=cv.all aB aR
 have eT:=aT.all aB bo
 obtain⟨bu,aV⟩:=eK
 replace bu:Qn cz bt ai (Tm ((Lk W 1:Nat):Int) ((Lk H 1:Nat):Int)):=bu
 replace aV:KS aI Mb bt:=aV
 obtain⟨eU,cB,eV,eW,eX⟩:=azg aV ct aS cu cv aT
 cases eJ
 replace bq:MJ cz aa 59 [ac,ae,af,ai,.pointer none,.pointer none]:=bq
 obtain⟨eY,eZ,e6,cC,e7,e8⟩:=t6 cA 33 ey 1 ez 2 eA 3 cy 8 eB 17 bp
 clear cA eO eN eM eL
 refine Lz (KK (KL (KN (iv ((2:Nat):Int)) rr (LS rfl e8 rfl (LX (by omega) (by omega)) rr) (KN (iv ((2:Nat):Int)) rr (KT rfl rfl rr) (KQ ?_)))))
 have e9:=K4 (iv ((2:Nat):Int))
 refine KK (Mh (KM (KL (KN (.bool false) rr (Mc rfl e9 rfl rfl rr) (KQ ?_)))))
 have fa:=K4 (.bool false)
 refine KK (KM ?_)
 refine K5 (t:=false) fa (fun e=>by cases e) (fun _=>?_)
 refine Mm (Lp (Lp (Mk (Lz (KK (KL (KN (iv ((2:Nat):Int)) rr (LS rfl e7 rfl (LX (by omega) (by omega)) rr) (KN (iv ((2:Nat):Int)) rr (KT rfl rfl rr) (KQ ?_)))))))))
 have bv:=K4 (iv ((2:Nat):Int))
 refine KK (Mh (KM (KL (KN (.bool true) rr (Mc rfl bv rfl rfl rr) (KQ ?_)))))
 have fb:=K4 (.bool true)
 refine KK (KM ?_)
 refine K5 (t:=true) fb (fun _=>?_) (fun e=>by cases e)
 refine Lf (KK (KM (Lm (KM (KL (K2 Lw bv (Lb (iv ((2:Nat):Int)) LE (KQ ?_))))))))
 have bz:=K4 (iv ((2:Nat):Int))
 refine KK (KM (KL (KN (.agg #[iv W,iv H,iv R,iv B]) rr (KX MR rfl eZ eP rr) (K2 Lw bz (L9 rfl rfl rfl rfl rfl (fun _ _=>by kernel_rfl) (Lo rfl (Lo rfl L5)) (Te W H R B 2  _ (by assumption)  ) fun bA cD=>?_)))))
 obtain⟨cE,cF,cG,cH,cI,cJ⟩:=Qh cD eQ bq eR eS eT bu
 have cK:=(cw.trans aB (fun i hi x=>((KS.ok (S:=fun _=>False) az KZ) i hi x))).tr cD
 refine KN (.tuple #[iv ((Lk W 2:Nat):Int),iv ((Lk H 2:Nat):Int)]) rr (KT rfl rfl rr) (KN (iv ((Lk W 2:Nat):Int)) rr (LY rfl rfl rfl rr) (KN (iv ((Lk H 2:Nat):Int)) rr (LY rfl rfl rfl rr) (Lb (iv ((Lk W 2:Nat):Int)) LE (Lb (iv ((Lk H 2:Nat):Int)) LE (KQ ?_)))))
 have cL:=K4 (iv ((Lk W 2:Nat):Int))
 have cM:=K4 (iv ((Lk H 2:Nat):Int))
 refine KK (KM (KL (KN (iv 0) rr (KT rfl rfl rr) (KQ ?_))))
 have bB:=K4 (iv 0)
 refine KK (Lm (OL 3 (Mh (KM (KL (KN (.bool true) rr (Mc rfl bB rfl rfl rr) (KQ ?_)))))))
 have fc:=K4 (.bool true)
 refine KK (KM ?_)
 refine K5 (t:=true) fc (fun _=>?_) (fun e=>by cases e)
 refine Lf (KK (KM (Lm (KM (KL (K2 Lw bB (Lb (iv 0) LE (KQ ?_))))))))
 have fd:=K4 (iv 0)
 refine KK ?_
 refine Rr (γ:=Value×(Nat->Prop)) [(5,4),(6,4),(7,4),(9,4),(10,4)] [some 21,some 22,some 23,some 24,some 25,some 20,some 26,some 27,some 28,some 29,none] ⟨fun w_=>True,fun _=>False,fun g_ w_=>(Qn w_ (g_.2) (g_.1) (Tm ((Lk W 2:Nat):Int) ((Lk H 2:Nat):Int))/\KS bA Mb (g_.2)),fun g_=>(g_.2),fun p_ w_=>MJ w_ p_ 59 [ac,ae,af,ai,.pointer none,.pointer none],fun g_ p_ w_=>MJ w_ p_ 59 [ac,ae,af,ai,g_.1,.pointer none]⟩ (Lh aa) (fun p_=>aa=p_) [fun g_=>iv ((2:Nat):Int),fun g_=>iv 0,fun g_=>iv ((Lk W 2:Nat):Int),fun g_=>iv ((Lk H 2:Nat):Int),fun g_=>.tuple #[g_.1,iv (Ns ((Lk W 2:Nat):Int) ((Lk H 2:Nat):Int))],fun g_=>.tuple #[g_.1,iv (Ns ((Lk W 2:Nat):Int) ((Lk H 2:Nat):Int))],fun g_=>g_.1,fun g_=>iv (Ns ((Lk W 2:Nat):Int) ((Lk H 2:Nat):Int)),fun g_=>pt aa 4,fun g_=>pt aa 4,fun _=>undef] 4 10 none (undef,Mb) aa (by kernel_rfl) (by kernel_rfl) (by kernel_rfl) (by kernel_rfl) ⟨.inr (.inr fun _ _=>rfl),⟨.inr (.inr fun _ _=>rfl),⟨.inr (.inr fun _ _=>rfl),⟨.inr (.inr fun _ _=>rfl),⟨.inr (.inl rfl),⟨.inl rfl,⟨.inl rfl,⟨.inl rfl,⟨.inr (.inr fun _ _=>rfl),⟨.inl rfl,⟨.inl rfl,trivial⟩⟩⟩⟩⟩⟩⟩⟩⟩⟩⟩ ⟨trivial,fun _ _ _ _ _ _=>trivial,fun _ _ _ z=>z.elim,fun g w w1 S1 h k a=>by obtain⟨b0_,g0_⟩:=h;exact⟨b0_.all k (fun i z=>a i z),g0_⟩,fun g w h i z=>by obtain⟨b0_,g0_⟩:=h;exact b0_.live i z,fun _ _ _ _ h k z=>h.all k z,fun _ _ h=>h.lt,fun _ _ _ _ _ h k z=>h.all k z,fun _ z=>z.elim,fun _ h=>.inl h.symm,fun _ _ z=>z⟩ (fun _ e=>by cases e) (fun _=>⟨rfl,cF⟩) ?_ ?_
 ·refine KV ?_ ?_
  ·refine Lr.one rfl rfl rfl rfl fun g_ p_ F_ w_ hR hout hD=>?_
   exact(KT rfl ((hout 4 rfl (by decide)).trans bz) ⟨rfl,KR.refl _ _⟩)
  refine KV ?_ ?_
  ·refine Lr.one rfl rfl rfl rfl fun g_ p_ F_ w_ hR hout hD=>?_
   exact(KT rfl ((hout 7 rfl (by decide)).trans fd) ⟨rfl,KR.refl _ _⟩)
  refine KV ?_ ?_
  ·refine Lr.one rfl rfl rfl rfl fun g_ p_ F_ w_ hR hout hD=>?_
   exact(KT rfl ((hout 5 rfl (by decide)).trans cL) ⟨rfl,KR.refl _ _⟩)
  refine KV ?_ ?_
  ·refine Lr.one rfl rfl rfl rfl fun g_ p_ F_ w_ hR hout hD=>?_
   exact(KT rfl ((hout 6 rfl (by decide)).trans cM) ⟨rfl,KR.refl _ _⟩)
  refine KV ?_ ?_
  ·refine Lr.call rfl rfl rfl rfl fun g_ p_ F_ w_ hR hout hD hP_=>?_
   have aj:F_ 23=iv ((Lk W 2:Nat):Int):=(hD.get 0 rfl rfl rfl).2 (by decide)
   have ak:F_ 24=iv ((Lk H 2:Nat):Int):=(hD.get 1 rfl rfl rfl).2 (by decide)
   exact(LQ rfl rfl rfl (fun _ _=>by kernel_rfl) (K6 _) (Lo aj (Lo ak L5)) (UR ((Lk W 2:Nat):Int) ((Lk H 2:Nat):Int)  _   ) (fun e_ w_ h_=>by obtain⟨x0_,x1_,he_,hk_,⟨b0_,g0_⟩⟩:=h_;exact⟨_,he_,⟨x0_,x1_⟩,rfl,hk_,⟨b0_,(KS.refl bA _).trans hR g0_⟩,fun b hb=>(g0_ b hb).elim (fun z=>z.elim) .inr⟩))
  refine KV ?_ ?_
  ·refine Lr.one rfl rfl rfl rfl fun g_ p_ F_ w_ hR hout hD=>?_
   have am:F_ 25 = .tuple #[g_.1,iv (Ns ((Lk W 2:Nat):Int) ((Lk H 2:Nat):Int))]:=(hD.get 0 rfl rfl rfl).2 (by decide)
   exact(KT rfl am ⟨rfl,KR.refl _ _⟩)
  refine KV ?_ ?_
  ·refine Lr.one rfl rfl rfl rfl fun g_ p_ F_ w_ hR hout hD=>?_
   have ab:F_ 20 = .tuple #[g_.1,iv (Ns ((Lk W 2:Nat):Int) ((Lk H 2:Nat):Int))]:=(hD.get 0 rfl rfl rfl).2 (by decide)
   exact(LY rfl ab rfl ⟨rfl,KR.refl _ _⟩)
  refine KV ?_ ?_
  ·refine Lr.one rfl rfl rfl rfl fun g_ p_ F_ w_ hR hout hD=>?_
   have ab:F_ 20 = .tuple #[g_.1,iv (Ns ((Lk W 2:Nat):Int) ((Lk H 2:Nat):Int))]:=(hD.get 0 rfl rfl rfl).2 (by decide)
   exact(LY rfl ab rfl ⟨rfl,KR.refl _ _⟩)
  refine KV ?_ ?_
  ·refine Lr.one rfl rfl rfl rfl fun g_ p_ F_ w_ hR hout hD=>?_
   have an:F_ 21=iv ((2:Nat):Int):=(hD.get 0 rfl rfl rfl).2 (by decide)
   exact(L3 2 (s:=2) rfl ((hout 3 rfl (by decide)).trans cC) an (by omega) Tryz.underlying59 (by omega) (by kernel_rfl) (by omega) ⟨rfl,KR.refl _ _⟩)
  refine KV ?_ ?_
  ·refine Lr.one rfl rfl rfl rfl fun g_ p_ F_ w_ hR hout hD=>?_
   have ao:F_ 28=pt aa 4:=(hD.get 0 rfl rfl rfl).2 (by decide)
   have ap:F_ 22=iv 0:=(hD.get 1 rfl rfl rfl).2 (by decide)
   exact(L3 0 (s:=1) rfl ao ap (by omega) Tryz.underlying58 (by omega) (by kernel_rfl) (by omega) ⟨rfl,KR.refl _ _⟩)
  refine KV ?_ ?_
  ·refine Lr.store rfl rfl rfl rfl fun g_ p_ F_ w_ hR hout hD hO_ hZ_ hQ_=>?_
   subst hO_
   have aq:F_ 29=pt aa 4:=(hD.get 0 rfl rfl rfl).2 (by decide)
   have ah:F_ 26=g_.1:=(hD.get 1 rfl rfl rfl).2 (by decide)
   exact Qk rfl aq ah hZ_ rfl (hQ_.1).oneC (by kernel_rfl) fun w2_ b_ k_=>⟨rfl,k_,b_⟩
  exact NT
 intro fe gC gD gE aK aC ff fg fh bC fi fj fk cN
 obtain⟨ar,bD⟩:=fe
 have cO:=cE.all aC (aA.symm p8 rfl)
 have cP:=cG.all aC aH
 have cQ:=cH.all aC aR
 have cR:=cI.all aC bo
 have cS:=cJ.all aC cB
 have cT:=cK.trans aC (fun i hi x=>((KS.ok (S:=fun _=>False) az KZ) i hi x))
 obtain⟨aW,aX⟩:=fg
 replace aW:Qn aK bD ar (Tm ((Lk W 2:Nat):Int) ((Lk H 2:Nat):Int)):=aW
 replace aX:KS bA Mb bD:=aX
 obtain⟨fm,fo,fp,fq,ft,fu⟩:=WS aX cE cF cG cH cI cJ
 cases ff
 replace bC:MJ aK aa 59 [ac,ae,af,ai,ar,.pointer none]:=bC
 obtain⟨fw,fx,cU,fy,fA,fB,fC,fD⟩:=t8 cN 33 eY 2 e6 3 cC 8 bv 4 bz 5 cL 6 cM 17 bB
 clear cN fk fj fi fh
 refine Lz (KK (KL (KN (iv ((1:Nat):Int)) rr (LS rfl fD rfl (LX (by omega) (by omega)) rr) (KN (iv ((1:Nat):Int)) rr (KT rfl rfl rr) (KQ ?_)))))
 have bE:=K4 (iv ((1:Nat):Int))
 refine KK (Mh (KM (KL (KN (.bool true) rr (Mc rfl bE rfl rfl rr) (KQ ?_)))))
 have fE:=K4 (.bool true)
 refine KK (KM ?_)
 refine K5 (t:=true) fE (fun _=>?_) (fun e=>by cases e)
 refine Lf (KK (KM (Lm (KM (KL (K2 Lw bE (Lb (iv ((1:Nat):Int)) LE (KQ ?_))))))))
 have fF:=K4 (iv ((1:Nat):Int))
 refine KK ?_
 refine Rr (γ:=Value×(Nat->Prop)) [(5,4),(6,4),(7,4),(9,4),(10,4)] [some 21,some 22,some 23,some 24,some 25,some 20,some 26,some 27,some 28,some 29,none] ⟨fun w_=>True,fun _=>False,fun g_ w_=>(Qn w_ (g_.2) (g_.1) (Tm ((Lk W 2:Nat):Int) ((Lk H 2:Nat):Int))/\KS aK Mb (g_.2)),fun g_=>(g_.2),fun p_ w_=>MJ w_ p_ 59 [ac,ae,af,ai,ar,.pointer none],fun g_ p_ w_=>MJ w_ p_ 59 [ac,ae,af,ai,ar,g_.1]⟩ (Lh aa) (fun p_=>aa=p_) [fun g_=>iv ((2:Nat):Int),fun g_=>iv ((1:Nat):Int),fun g_=>iv ((Lk W 2:Nat):Int),fun g_=>iv ((Lk H 2:Nat):Int),fun g_=>.tuple #[g_.1,iv (Ns ((Lk W 2:Nat):Int) ((Lk H 2:Nat):Int))],fun g_=>.tuple #[g_.1,iv (Ns ((Lk W 2:Nat):Int) ((Lk H 2:Nat):Int))],fun g_=>g_.1,fun g_=>iv (Ns ((Lk W 2:Nat):Int) ((Lk H 2:Nat):Int)),fun g_=>pt aa 4,fun g_=>pt aa 5,fun _=>undef] 4 10 none (undef,Mb) aa (by kernel_rfl) (by kernel_rfl) (by kernel_rfl) (by kernel_rfl) ⟨.inr (.inr fun _ _=>rfl),⟨.inr (.inr fun _ _=>rfl),⟨.inr (.inr fun _ _=>rfl),⟨.inr (.inr fun _ _=>rfl),⟨.inr (.inl rfl),⟨.inl rfl,⟨.inl rfl,⟨.inl rfl,⟨.inr (.inr fun _ _=>rfl),⟨.inl rfl,⟨.inl rfl,trivial⟩⟩⟩⟩⟩⟩⟩⟩⟩⟩⟩ ⟨trivial,fun _ _ _ _ _ _=>trivial,fun _ _ _ z=>z.elim,fun g w w1 S1 h k a=>by obtain⟨b0_,g0_⟩:=h;exact⟨b0_.all k (fun i z=>a i z),g0_⟩,fun g w h i z=>by obtain⟨b0_,g0_⟩:=h;exact b0_.live i z,fun _ _ _ _ h k z=>h.all k z,fun _ _ h=>h.lt,fun _ _ _ _ _ h k z=>h.all k z,fun _ z=>z.elim,fun _ h=>.inl h.symm,fun _ _ z=>z⟩ (fun _ e=>by cases e) (fun _=>⟨rfl,bC⟩) ?_ ?_
 ·refine KV ?_ ?_
  ·refine Lr.one rfl rfl rfl rfl fun g_ p_ F_ w_ hR hout hD=>?_
   exact(KT rfl ((hout 4 rfl (by decide)).trans fA) ⟨rfl,KR.refl _ _⟩)
  refine KV ?_ ?_
  ·refine Lr.one rfl rfl rfl rfl fun g_ p_ F_ w_ hR hout hD=>?_
   exact(KT rfl ((hout 7 rfl (by decide)).trans fF) ⟨rfl,KR.refl _ _⟩)
  refine KV ?_ ?_
  ·refine Lr.one rfl rfl rfl rfl fun g_ p_ F_ w_ hR hout hD=>?_
   exact(KT rfl ((hout 5 rfl (by decide)).trans fB) ⟨rfl,KR.refl _ _⟩)
  refine KV ?_ ?_
  ·refine Lr.one rfl rfl rfl rfl fun g_ p_ F_ w_ hR hout hD=>?_
   exact(KT rfl ((hout 6 rfl (by decide)).trans fC) ⟨rfl,KR.refl _ _⟩)
  refine KV ?_ ?_
  ·refine Lr.call rfl rfl rfl rfl fun g_ p_ F_ w_ hR hout hD hP_=>?_
   have aj:F_ 23=iv ((Lk W 2:Nat):Int):=(hD.get 0 rfl rfl rfl).2 (by decide)
   have ak:F_ 24=iv ((Lk H 2:Nat):Int):=(hD.get 1 rfl rfl rfl).2 (by decide)
   exact(LQ rfl rfl rfl (fun _ _=>by kernel_rfl) (K6 _) (Lo aj (Lo ak L5)) (UR ((Lk W 2:Nat):Int) ((Lk H 2:Nat):Int)  _   ) (fun e_ w_ h_=>by obtain⟨x0_,x1_,he_,hk_,⟨b0_,g0_⟩⟩:=h_;exact⟨_,he_,⟨x0_,x1_⟩,rfl,hk_,⟨b0_,(KS.refl aK _).trans hR g0_⟩,fun b hb=>(g0_ b hb).elim (fun z=>z.elim) .inr⟩))
  refine KV ?_ ?_
  ·refine Lr.one rfl rfl rfl rfl fun g_ p_ F_ w_ hR hout hD=>?_
   have am:F_ 25 = .tuple #[g_.1,iv (Ns ((Lk W 2:Nat):Int) ((Lk H 2:Nat):Int))]:=(hD.get 0 rfl rfl rfl).2 (by decide)
   exact(KT rfl am ⟨rfl,KR.refl _ _⟩)
  refine KV ?_ ?_
  ·refine Lr.one rfl rfl rfl rfl fun g_ p_ F_ w_ hR hout hD=>?_
   have ab:F_ 20 = .tuple #[g_.1,iv (Ns ((Lk W 2:Nat):Int) ((Lk H 2:Nat):Int))]:=(hD.get 0 rfl rfl rfl).2 (by decide)
   exact(LY rfl ab rfl ⟨rfl,KR.refl _ _⟩)
  refine KV ?_ ?_
  ·refine Lr.one rfl rfl rfl rfl fun g_ p_ F_ w_ hR hout hD=>?_
   have ab:F_ 20 = .tuple #[g_.1,iv (Ns ((Lk W 2:Nat):Int) ((Lk H 2:Nat):Int))]:=(hD.get 0 rfl rfl rfl).2 (by decide)
   exact(LY rfl ab rfl ⟨rfl,KR.refl _ _⟩)
  refine KV ?_ ?_
  ·refine Lr.one rfl rfl rfl rfl fun g_ p_ F_ w_ hR hout hD=>?_
   have an:F_ 21=iv ((2:Nat):Int):=(hD.get 0 rfl rfl rfl).2 (by decide)
   exact(L3 2 (s:=2) rfl ((hout 3 rfl (by decide)).trans cU) an (by omega) Tryz.underlying59 (by omega) (by kernel_rfl) (by omega) ⟨rfl,KR.refl _ _⟩)
  refine KV ?_ ?_
  ·refine Lr.one rfl rfl rfl rfl fun g_ p_ F_ w_ hR hout hD=>?_
   have ao:F_ 28=pt aa 4:=(hD.get 0 rfl rfl rfl).2 (by decide)
   have ap:F_ 22=iv ((1:Nat):Int):=(hD.get 1 rfl rfl rfl).2 (by decide)
   exact(L3 1 (s:=1) rfl ao ap (by omega) Tryz.underlying58 (by omega) (by kernel_rfl) (by omega) ⟨rfl,KR.refl _ _⟩)
  refine KV ?_ ?_
  ·refine Lr.store rfl rfl rfl rfl fun g_ p_ F_ w_ hR hout hD hO_ hZ_ hQ_=>?_
   subst hO_
   have aq:F_ 29=pt aa 5:=(hD.get 0 rfl rfl rfl).2 (by decide)
   have ah:F_ 26=g_.1:=(hD.get 1 rfl rfl rfl).2 (by decide)
   exact Qk rfl aq ah hZ_ rfl (hQ_.1).oneC (by kernel_rfl) fun w2_ b_ k_=>⟨rfl,k_,b_⟩
  exact NT
 intro fG gG gH gI cV av fH fI fJ bF fK fL fM cW
 obtain⟨aD,bG⟩:=fG
 have fN:=cO.all av (aA.symm p8 rfl)
 have cX:=cP.all av aH
 have cY:=cQ.all av aR
 have cZ:=cR.all av bo
 have c5:=cS.all av cB
 have c6:=aW.all av fo
 obtain⟨aY,aZ⟩:=fI
 replace aY:Qn cV bG aD (Tm ((Lk W 2:Nat):Int) ((Lk H 2:Nat):Int)):=aY
 replace aZ:KS aK Mb bG:=aZ
 obtain⟨fO,fP,fQ,fR,fS,fT⟩:=WS aZ cO cP cQ cR cS aW
 cases fH
 replace bF:MJ cV aa 59 [ac,ae,af,ai,ar,aD]:=bF
 obtain⟨fU,c7,fV,fW,fX⟩:=t5 cW 33 fw 2 fx 3 cU 8 fy 17 bE
 clear cW fM fL fK fJ
 refine Lz (KK (KL (KN (iv ((2:Nat):Int)) rr (LS rfl fX rfl (LX (by omega) (by omega)) rr) (KN (iv ((2:Nat):Int)) rr (KT rfl rfl rr) (KQ ?_)))))
 have fY:=K4 (iv ((2:Nat):Int))
 refine KK (Mh (KM (KL (KN (.bool false) rr (Mc rfl fY rfl rfl rr) (KQ ?_)))))
 have fZ:=K4 (.bool false)
 refine KK (KM ?_)
 refine K5 (t:=false) fZ (fun e=>by cases e) (fun _=>?_)
 refine Mm (Lp (Lp (Mk (Lz (KK (KL (KN (iv ((3:Nat):Int)) rr (LS rfl fW rfl (LX (by omega) (by omega)) rr) (KN (iv ((3:Nat):Int)) rr (KT rfl rfl rr) (KQ ?_)))))))))
 have f5:=K4 (iv ((3:Nat):Int))
 refine KK (Mh (KM (KL (KN (.bool false) rr (Mc rfl f5 rfl rfl rr) (KQ ?_)))))
 have f7:=K4 (.bool false)
 refine KK (KM ?_)
 refine K5 (t:=false) f7 (fun e=>by cases e) (fun _=>?_)
 refine Mm (Lp (Lp (Mk (KK (KM (KL (KN (.agg #[ac,ae,af,ai,ar,aD]) rr (KX Ug rfl fV bF rr) (Ll (us:=[ac,ae,af,ai,ar,aD]) Ug rfl rfl rfl c7 rfl fN rfl (L4 cX.one (L4 cY.one (L4 cZ.one (L4 c5.one (L4 c6.one (L4 aY.one MX)))))) fun gK f8 aw=>?_))))))))
 have f9:=cX.all aw du
 have ga:=cY.all aw dQ
 have gb:=cZ.all aw eu
 have gc:=c5.all aw eU
 have gd:=c6.all aw fm
 have ge:=aY.all aw fO
 have gh:=(cT.trans av (fun i hi x=>((KS.ok (S:=fun _=>False) az KZ) i hi x))).trans aw (KS.ok (S:=fun _=>False) (KS.new K7 db) KZ)
 refine KQ ?_
 refine KK (Le ?_)
 exact Po (vs:=[ac,ae,af,ai,ar,aD]) Ug fU rfl rfl c7 f8 ⟨ac,bd,ae,bg,af,bn,ai,bt,ar,bD,aD,bG,rfl,gh,⟨(by rw[← Tk ⟨hsd.1,hsd.2.1⟩ ⟨hsd.2.2.2.1,hsd.2.2.2.2.1⟩];exact f9),(KS.new bT aO)⟩,⟨(by rw[← Tk ⟨hsd.1,hsd.2.1⟩ ⟨hsd.2.2.2.1,hsd.2.2.2.2.1⟩];exact ga),(KS.new bY aQ)⟩,⟨(by rw[← Tk ⟨hsd.1,hsd.2.1⟩ ⟨hsd.2.2.2.1,hsd.2.2.2.2.1⟩];exact gb),(KS.new cn aU)⟩,⟨(by rw[← Tk ⟨hsd.1,hsd.2.1⟩ ⟨hsd.2.2.2.1,hsd.2.2.2.2.1⟩];exact gc),(KS.new cw aV)⟩,⟨(by rw[← Tk ⟨hsd.1,hsd.2.1⟩ ⟨hsd.2.2.2.1,hsd.2.2.2.2.1⟩];exact gd),(KS.new cK aX)⟩,⟨(by rw[← Tk ⟨hsd.1,hsd.2.1⟩ ⟨hsd.2.2.2.1,hsd.2.2.2.2.1⟩];exact ge),(KS.new cT aZ)⟩,dR.symm,ew.symm,eV.symm,fp.symm,fP.symm,ex.symm,eW.symm,fq.symm,fQ.symm,eX.symm,ft.symm,fR.symm,fu.symm,fS.symm,fT.symm⟩
open Go.RowKit
theorem YX{P:Program}{ops:Array Oper}{Q:Exit->Act->World->Prop}{n:Nat}(T:WB ops n) :
  ∀ (fuel k:Nat) (listed:Array Bool) (a:Act) (w:World),n<=k->k<=ops.size->ops.size-k<=fuel->listed.size=ops.size->(∀ j,j<k->listed.getD j false=true)->(∀ j,k<=j->listed.getD j false=false) →
   wpListIn (Xf (some 0)) 0 P ops Q (ops.toList.drop k) a w->wpAnyIn (Xf (some 0)) 0 P .any ops Q fuel listed a w:=by
 have none_ready:∀ (listed:Array Bool),listed.size=ops.size->(∀ j,j<ops.size->listed.getD j false=true)->Region.ready .any ops listed=[]:=by
  intro listed hls hall
  cases hr:Region.ready .any ops listed with
  | nil=>rfl
  | cons y r =>
   have hy:y∈Region.ready .any ops listed:=by rw[hr];simp
   obtain⟨q1,q2,_⟩:=NA hy
   have h1:=hall y q1
   rw[PW _ y (by omega)] at q2
   rw[q2] at h1;cases h1
 intro fuel
 induction fuel with
 | zero =>
  intro k listed a w hn hk hf hls h1 h2 hw
  have hke:k=ops.size:=by omega
  subst hke
  rw[List.drop_of_length_le (by simp)] at hw
  exact⟨none_ready listed hls h1,hw⟩
 | succ fuel ih =>
  intro k listed a w hn hk hf hls h1 h2 hw
  by_cases hke:k=ops.size
  ·subst hke
   rw[List.drop_of_length_le (by simp)] at hw
   have hr:=none_ready listed hls h1
   exact⟨fun _=>hw,fun i hi=>by rw[hr] at hi;cases hi⟩
  ·have hlt:k<ops.size:=by omega
   have hok:ops[k]? = some ops[k]:=by simp[hlt]
   have hdrop:ops.toList.drop k=ops[k]::ops.toList.drop (k+1):=by
    rw[List.drop_eq_getElem_cons (by simpa using hlt)];simp
   rw[hdrop] at hw
   have hrk:k∈Region.ready .any ops listed:=Z8 hlt hls (h2 k (Nat.le_refl _)) hok fun e he hb=>h1 _ (T.back k _ hok e he hb)
   refine⟨fun hr=>(by rw[hr] at hrk;cases hrk),fun i hi=>?_⟩
   obtain⟨q1,q2,o,ho,haft⟩:=NA hi
   rw[PW _ i (by omega)] at q2
   have hik:i=k:=by
    rcases Nat.lt_trichotomy i k with h|h|h
    ·rw[h1 i h] at q2;cases q2
    ·exact h
    ·obtain⟨e,he,hb,hon⟩:=T.line i o (by omega) ho
     have:=haft e he hb
     rw[hon,h2 (i-1) (by omega)] at this;cases this
   subst hik
   have next:∀ (a':Act) (w':World),wpListIn (Xf (some 0)) 0 P ops Q (ops.toList.drop (i+1)) a' w'->wpAnyIn (Xf (some 0)) 0 P .any ops Q fuel (listed.setIfInBounds i true) a' w':=by
    intro a' w' h'
    have hlsz:i<listed.size:=by omega
    refine ih (i+1) _ a' w' (by omega) (by omega) (by omega) (by simpa using hls) (fun j hj=>?_) (fun j hj=>?_) h'
    ·rw[LA _ _ _ hlsz];split
     ·rfl
     ·exact h1 j (by omega)
    ·rw[LA _ _ _ hlsz,if_neg (by omega)];exact h2 j (by omega)
   unfold wpListIn at hw
   unfold wpOpIn
   rw[hok]
   simp only
   split at hw
   ·rw[if_pos ‹_›]
    exact Oper.wpIn_mono next hw
   ·rw[if_neg ‹_›]
    exact⟨hw.1,next _ _ hw.2⟩
theorem ZY{P:Program}{ops:Array Oper}{Q:Exit->Act->World->Prop}{a0:Act}{w0:World}(n:Nat)(T:WB ops n)(R:World->World->Prop)(D:List (Option Tmp))(G:Nat->Value->World->Prop)
  (hpl:plain a0.tmps.size 0 D (ops.toList.take n)=true) (hrf:∀ a,R a a) (htr:∀ a b c,R a b->R b c->R a c) (hst:∀ i v w w',G i v w->R w w'->G i v w') (hsteps:Steps P R D G a0 w0 0 (ops.toList.take n))
  (hend:∀ (v:Nat->Value) (w:World),R w0 w->(∀ i,i<n->G i (v i) w)->wpListIn (Xf (some 0)) 0 P ops Q (ops.toList.drop n) (MI v 0 D a0) w) :
  ∀ (fuel:Nat) (listed:Array Bool) (v:Nat->Value) (a:Act) (w:World),Mid ops R D G a0 w0 v listed a w →
   (∀ (k:Nat) (o:Oper),ops[k]? = some o->listed.getD k false=true->∀ e∈o.after.toList,Region.binds .any e=true->listed.getD e.on false=true)->(∀ j,n<=j->listed.getD j false=false) →
   (List.range ops.size).countP (fun i => !listed.getD i false)<=fuel->wpAnyIn (Xf (some 0)) 0 P .any ops Q fuel listed a w:=by
 have hlt0:=T.lt
 obtain⟨hDl,hpa'⟩:=SO hpl
 have hlen:D.length=n:=by
  have:D.length=min n ops.size:=by simpa using hDl
  omega
 have hpa:∀ k o,k<n->ops.toList[k]? = some o->D[k]? = some o.dst/\(∀ d,o.dst=some d->d<a0.tmps.size/\∀ j,k<j->D[j]? ≠ some (some d)):=by
  intro k o hk ho
  have h:=hpa' k o (by rw[List.getElem?_take,if_pos hk];exact ho)
  exact⟨h.1,h.2.1⟩
 have hback:=T.back
 have fin:∀ (listed:Array Bool) (v:Nat->Value) (a:Act) (w:World),Mid ops R D G a0 w0 v listed a w->(∀ i,i<n->listed.getD i false=true)->wpListIn (Xf (some 0)) 0 P ops Q (ops.toList.drop n) a w:=by
  intro listed v a w hm hall
  have hp:=PM v D 0 a0
  have ha:a=MI v 0 D a0:=by
   have ht:a.tmps=(MI v 0 D a0).tmps:=by
    apply Array.ext
    ·rw[hm.size,hp.1]
    ·intro t h1 h2
     have e:a.tmps.getD t undef=(MI v 0 D a0).tmps.getD t undef:=by
      by_cases hmem:some t∈D
      ·obtain⟨j,hj⟩:=List.mem_iff_getElem?.1 hmem
       have hjs:j<n:=by rw[← hlen];exact(List.getElem?_eq_some_iff.1 hj).1
       have hjo:j<ops.size:=by omega
       obtain⟨g1,g2⟩:=hpa j ops[j] hjs (by simp[hjo])
       have hdst:ops[j].dst=some t:=by rw[hj] at g1;exact(Option.some.inj g1).symm
       obtain⟨k1,k2⟩:=g2 t hdst
       rw[hm.here j t (hall j hjs) hj,hp.2.2.2 j t hj k2 k1,Nat.zero_add]
      ·rw[hp.2.2.1 t hmem,hm.out t (fun j _ hj=>hmem (List.mem_of_getElem? hj))]
     simpa [Array.getD_eq_getD_getElem?,h1,h2] using e
   have hd:a.defers=(MI v 0 D a0).defers:=by rw[hm.defers,hp.2.1]
   cases a
   cases hq:MI v 0 D a0
   rw[hq] at ht hd
   simp only at ht hd
   rw[ht,hd]
  rw[ha]
  exact hend v w hm.rel (fun i hi=>hm.good i (hall i hi))
 intro fuel
 induction fuel with
 | zero =>
  intro listed v a w hm _ htl hcount
  exfalso
  have hz:(List.range ops.size).countP (fun i => !listed.getD i false)=0:=by omega
  rw[List.countP_eq_zero] at hz
  have:=hz n (by simpa using hlt0)
  rw[htl n (Nat.le_refl _)] at this
  exact this rfl
 | succ fuel ih =>
  intro listed v a w hm hcl htl hcount
  refine⟨fun hr=>?_,fun i hi=>?_⟩
  ·have:=Q8 hback hr hm.ls n hlt0
   rw[htl n (Nat.le_refl _)] at this;cases this
  obtain⟨hlt,hnl,o,ho,haft⟩:=NA hi
  have hlsz:i<listed.size:=by rw[hm.ls];exact hlt
  have hnl':listed.getD i false=false:=by simpa [Array.getD,hlsz] using hnl
  have hin:i<=n:=by
   rcases Nat.lt_or_ge n i with h|h
   ·obtain⟨e,he,hb,hon⟩:=T.line i o h ho
    have:=haft e he hb
    rw[hon,htl (i-1) (by omega)] at this;cases this
   ·exact h
  by_cases hine:i=n
  ·-- all others are done
   have hall:∀ j,j<n->listed.getD j false=true:=by
    suffices h:∀ m j,j+m=n->j<n->listed.getD j false=true by
     intro j hj;exact h (n-j) j (by omega) hj
    intro m
    induction m using Nat.strongRecOn with
    | _ m ihm =>
     intro j hm2 hj
     obtain⟨j',o',h1,h2,h3,e,he,hb,hon⟩:=T.cov j hj
     by_cases hj':j'=n
     ·subst hj'
      rw[← hine] at h3
      rw[ho] at h3
      cases h3
      rw[← hon];exact haft e he hb
     ·have hl:=ihm (n-j') (by omega) j' (by omega) (by omega)
      rw[← hon];exact hcl j' o' h3 hl e he hb
   have hw:=fin listed v a w hm hall
   have hfu:ops.size-n<=fuel+1:=by
    have hle:(List.range' n (ops.size-n)).countP (fun i => !listed.getD i false)<=(List.range ops.size).countP (fun i => !listed.getD i false):=by
     apply List.Sublist.countP_le
     rw[List.range_eq_range',show ops.size=n+(ops.size-n) by omega,← List.range'_append_1]
     simp
    have he:(List.range' n (ops.size-n)).countP (fun i => !listed.getD i false)=ops.size-n:=by
     rw[List.countP_eq_length.2]
     ·simp
     ·intro x hx
      have:=(List.mem_range'_1.1 hx).1
      rw[htl x this];rfl
    omega
   have hall2:=YX (P:=P) (Q:=Q) T (fuel+1) n listed a w (Nat.le_refl _) (by omega) hfu hm.ls hall htl hw
   exact hall2.2 i hi
  have hin':i<n:=by omega
  obtain⟨g1,g2⟩:=hpa i o hin' (by simpa using ho)
  have hstep:=hsteps.at i o (by rw[List.getElem?_take,if_pos hin'];simpa using ho)
  rw[Nat.zero_add] at hstep
  have hout:∀ t,some t∉D->a.eval (.tmp t)=a0.eval (.tmp t):=fun t ht=>hm.out t (fun j _ hj=>ht (List.mem_of_getElem? hj))
  have hdeps:RS D G a w o.after.toList:=RS.mk fun e he hb d hd=>by
   have hl:=haft e he hb
   have hlt':=hback i o ho e he hb
   have hDe:D[e.on]? = some (some d):=by
    have hlt2:e.on<D.length:=by rw[hlen];omega
    simp only[List.getD,List.getElem?_eq_getElem hlt2,Option.getD_some] at hd
    rw[List.getElem?_eq_getElem hlt2,hd]
   have:=hm.here e.on d hl hDe
   show G e.on (a.tmps.getD d undef) w
   rw[this];exact hm.good e.on hl
  obtain⟨s1,s2⟩:=hstep a w hm.rel hout hdeps
  -- what is left when it answers x in the world w'
  have next:∀ (x:Value) (w':World),G i x w'->R w w'->wpAnyIn (Xf (some 0)) 0 P .any ops Q fuel (listed.setIfInBounds i true) (a.put o.dst x) w':=by
   intro x w' hG hR
   have hcnt:(List.range ops.size).countP (fun j => !(listed.setIfInBounds i true).getD j false)<=fuel:=by
    have h1:(List.range ops.size).countP (fun j => !(listed.setIfInBounds i true).getD j false)<(List.range ops.size).countP (fun j => !listed.getD j false):=by
     have hmemi:i∈List.range ops.size:=by simpa using hlt
     have key:∀ (l:List Nat),i∈l->(∀ j,(!(listed.setIfInBounds i true).getD j false)=true->(!listed.getD j false)=true)->l.countP (fun j => !(listed.setIfInBounds i true).getD j false)<l.countP (fun j => !listed.getD j false):=by
      intro l
      induction l with
      | nil=>intro h;cases h
      | cons y r ihl =>
       intro hy himp
       have hle:r.countP (fun j => !(listed.setIfInBounds i true).getD j false)<=r.countP (fun j => !listed.getD j false):=List.countP_mono_left fun j _ hj=>himp j hj
       by_cases hyi:y=i
       ·subst hyi
        have e1:(!(listed.setIfInBounds y true).getD y false)=false:=by rw[LA _ _ _ hlsz,if_pos rfl];rfl
        have e2:(!listed.getD y false)=true:=by rw[hnl'];rfl
        rw[List.countP_cons,List.countP_cons]
        simp only[e1,e2,if_true,Bool.false_eq_true,if_false]
        omega
       ·have hir:i∈r:=by
         rcases List.mem_cons.1 hy with h|h
         ·exact absurd h.symm hyi
         ·exact h
        have:=ihl hir himp
        rw[List.countP_cons,List.countP_cons]
        have e3:(listed.setIfInBounds i true).getD y false=listed.getD y false:=by rw[LA _ _ _ hlsz,if_neg hyi]
        rw[e3];omega
     refine key _ hmemi fun j hj=>?_
     rw[LA _ _ _ hlsz] at hj
     by_cases hji:j=i
     ·rw[if_pos hji] at hj;cases hj
     ·rwa [if_neg hji] at hj
    omega
   have hmid:Mid ops R D G a0 w0 (fun j=>if j=i then x else v j) (listed.setIfInBounds i true) (a.put o.dst x) w':=by
    refine⟨?_,by simpa using hm.ls,?_,htr _ _ _ hm.rel hR,?_,?_,?_⟩
    ·rw[← hm.size];cases o.dst <;> simp[Act.put]
    ·rw[← hm.defers];cases o.dst <;> rfl
    ·intro t ht
     have hold:=hm.out t (fun j hj=>ht j (by rw[LA _ _ _ hlsz];split <;> first|rfl|exact hj))
     have hne:o.dst≠some t:=by
      intro e
      exact ht i (by rw[LA _ _ _ hlsz,if_pos rfl]) (by rw[g1,e])
     rw[← hold]
     cases hd:o.dst with
     | none=>rfl
     | some d =>
      have:d≠t:=fun e=>hne (by rw[hd,e])
      simp only[Act.put,Array.getD_eq_getD_getElem?,Array.getElem?_setIfInBounds_ne this]
    ·intro j d hj hD
     by_cases hji:j=i
     ·subst hji
      have hd:o.dst=some d:=by rw[g1] at hD;exact Option.some.inj hD
      have hsz:d<a.tmps.size:=by rw[hm.size];exact(g2 d hd).1
      simp[hd,Act.put,Array.getD_eq_getD_getElem?,hsz]
     ·rw[LA _ _ _ hlsz,if_neg hji] at hj
      have hold:=hm.here j d hj hD
      rw[if_neg hji,← hold]
      cases hd:o.dst with
      | none=>rfl
      | some y =>
       have hne:y≠d:=by
        rintro rfl
        rw[hd] at g1
        rcases Nat.lt_or_gt_of_ne hji with hlt2|hgt2
        ·have hjn:j<n:=by rw[← hlen];exact(List.getElem?_eq_some_iff.1 hD).1
         have hjs:j<ops.size:=by omega
         obtain⟨k1,k2⟩:=hpa j ops[j] hjn (by simp[hjs])
         have hdst:ops[j].dst=some y:=by rw[hD] at k1;exact(Option.some.inj k1).symm
         exact(k2 y hdst).2 i hlt2 g1
        ·exact(g2 y hd).2 j hgt2 hD
       simp only[Act.put,Array.getD_eq_getD_getElem?,Array.getElem?_setIfInBounds_ne hne]
    ·intro j hj
     by_cases hji:j=i
     ·subst hji;simpa using hG
     ·rw[LA _ _ _ hlsz,if_neg hji] at hj
      simp only[if_neg hji]
      exact hst _ _ _ _ (hm.good j hj) hR
   refine ih _ _ _ _ hmid ?_ ?_ hcnt
   ·intro k o' hk hl e he hb
    rw[LA _ _ _ hlsz] at hl ⊢
    by_cases hee:e.on=i
    ·rw[if_pos hee]
    ·rw[if_neg hee]
     by_cases hki:k=i
     ·subst hki
      rw[ho] at hk
      cases hk
      exact haft e he hb
     ·rw[if_neg hki] at hl
      exact hcl k o' hk hl e he hb
   ·intro j hj
    rw[LA _ _ _ hlsz,if_neg (by omega)];exact htl j hj
  have hwant:Region.wanted o (yielded ops a.tmps)=Qs D o a:=by
   unfold Region.wanted Qs
   cases hg:o.guard with
   | none=>rfl
   | some p =>
    obtain⟨j,want⟩:=p
    simp only[yielded]
    by_cases hj:j<n
    ·have hjo:j<ops.size:=by omega
     obtain⟨k1,k2⟩:=hpa j ops[j] hj (by simp[hjo])
     have hDj:D.getD j none=ops[j].dst:=by simp[List.getD,k1]
     rw[hDj]
     simp only[Array.getElem?_eq_getElem hjo,Option.bind_some]
     cases hd:ops[j].dst with
     | none=>simp
     | some d =>
      have hsz:d<a.tmps.size:=by rw[hm.size];exact(k2 d hd).1
      simp only[Option.bind_some,Array.getElem?_eq_getElem hsz]
      have he:a.eval (.tmp d)=a.tmps[d]:=by simp[Act.eval,Array.getD,hsz]
      rw[he]
      cases a.tmps[d] <;> simp
    ·exact absurd (T.guards i o hin' ho _ hg) hj
  unfold wpOpIn
  rw[ho]
  simp only[hwant]
  cases hgo:Qs D o a with
  | true =>
   simp only[if_true]
   refine Lg.wpIn (l:=some 0) ?_
   have:=s1 hgo
   revert this
   unfold Lg
   generalize (execOp a.eval o).run P w=res
   intro h
   cases res with
   | ok n w' =>
    cases n <;> simp only at h ⊢ <;> first
     | exact next _ _ h.1 h.2
     | exact h.elim
     | exact Calls.mono h (fun e w'' ⟨y,he,hk⟩=>⟨y,he,next _ _ hk.1 hk.2⟩)
   | halt y w'=>exact h.elim
  | false =>
   simp only[Bool.false_eq_true,if_false]
   exact⟨fun f _=>YJ _ f,next undef w (s2 hgo) (hrf w)⟩
theorem VB{P:Program}{id:Nat}{ops:Array Oper}{Q:Exit->Act->World->Prop}{a0:Act}{w0:World}(n:Nat)(D:List (Option Tmp))(Gs:List Pd)
  (hm:P.follows .mixedOrders=true) (hta:TL ops.toList n=true) (hpl:plain a0.tmps.size 0 D (ops.toList.take n)=true)
  (hsteps:Steps P (KR (fun _=>False)) D (RE Gs) a0 w0 0 (ops.toList.take n))
  (hend:∀ (v:Nat->Value) (w:World),KR (fun _=>False) w0 w->(∀ i,i<n->RE Gs i (v i) w)->wpListIn (Xf (some 0)) 0 P ops Q (ops.toList.drop n) (MI v 0 D a0) w):(Code.region id ops true).wpIn (Xf (some 0)) 0 P Q a0 w0:=by
 refine wpIn_region_any hm ?_
 have T:=TD hta
 have hno:∀ j,(Array.replicate ops.size false).getD j false=false:=by
  intro j
  by_cases h:j<ops.size <;> simp[Array.getD,h]
 refine ZY n T (KR (fun _=>False)) D (RE Gs) hpl (fun a=>KR.refl _ a) (fun _ _ _ h k=>h.trans k (fun _ _ x=>x)) (fun i _ _ _ h k=>(Gs.getD i Pd.any).stays _ _ _ h k) hsteps hend ops.size _ (fun _=>undef) a0 _ ⟨rfl,by simp,rfl,(KR.refl _ _).drew,fun _ _=>rfl,fun j _ hj=>?_,fun j hj=>?_⟩ ?_ ?_ ?_
 ·rw[hno] at hj;cases hj
 ·rw[hno] at hj;cases hj
 ·intro k o _ hl;rw[hno] at hl;cases hl
 ·intro j _;exact hno j
 ·exact Nat.le_trans (List.countP_le_length) (by simp)
section
variable {P:Program} {N:Nat} {F:Nat->Value} {w:World} {Q:Exit->(Nat->Value)->World->Prop}
theorem aCa{id:Nat}{ops:Array Oper}(n:Nat)(D:List (Option Tmp))(Gs:List Pd)(hm:P.follows .mixedOrders=true)(hta:TL ops.toList n=true)(hpl:plain N 0 D (ops.toList.take n)=true)(hsteps:RX N P D Gs F w 0 (ops.toList.take n))
  (hend:∀ (v:Nat->Value) (F':Nat->Value) (w':World),KR (fun _=>False) w w'->(∀ i,i<n->RE Gs i (v i) w')->(∀ t,F' t=Q9 v 0 D F t)->wl (some 0) P N ops Q (ops.toList.drop n) F' w'):wq none P N (.region id ops true) Q F w:=by
 intro a ha
 refine VB n D Gs hm hta (by rw[ha.size];exact hpl) (hsteps.steps ha) fun v w' hk hG=>?_
 exact hend v _ w' hk hG (fun _=>rfl) _ (Py v D 0 F a ha (OS hpl))
end
open Go.RowKit
def XP(w:World)(T:Nat->Prop)(p:Nat)(W H R B:Int):Prop:=T=Lh p/\MJ w p 23 [.int .i64 W,.int .i64 H,.int .i64 R,.int .i64 B]
theorem XP.live{w:World}{T:Nat->Prop}{p:Nat}{W H R B:Int}(h:XP w T p W H R B):PI w T:=by
 obtain⟨rfl,h⟩:=h;exact L8 h.lt
theorem XP.all{S:Nat->Prop}{w w':World}{T:Nat->Prop}{p:Nat}{W H R B:Int}(h:XP w T p W H R B)(k:KR S w w')(ha:KO T S):XP w' T p W H R B:=by
 obtain⟨rfl,h⟩:=h;exact⟨rfl,h.all k (ha p rfl)⟩
instance {w w':World} {T:Nat->Prop} {p:Nat} {W H R B:Int}:Cr w w' (XP w T p W H R B) (XP w' T p W H R B):=⟨fun h k=>h.all k KO.none⟩
instance {w:World} {T:Nat->Prop} {p:Nat} {W H R B:Int}:Lv w (XP w T p W H R B) (T):=⟨fun h=>h.live⟩
theorem XP.cells{w:World}{T:Nat->Prop}{p:Nat}{W H R B:Int}(h:XP w T p W H R B):Pw w T:=by
 obtain⟨rfl,h⟩:=h;exact h.cells
theorem XP.row{A B':World}{row:Option Nat}{n p:Nat}{T:Nat->Prop}{W H R B:Int}(h:XP A T p W H R B)(hg:A.grownBy B' row)(hr:Rq n A row):XP B' T p W H R B:=h.all (Qi hg) (h.cells.apart hr)
theorem Xu(W H R B:Int)(w0:World) :
  Calls Tryz.prog 29 #[.agg #[.int .i64 (W),.int .i64 (H),.int .i64 (R),.int .i64 (B)]] w0 fun e w'=>∃ (v1:Nat) (T1:Nat->Prop),e = .returned (.func (.func 60) #[] #[.pointer (some ⟨v1,0,none⟩)])/\KR (fun _=>False) w0 w'/\(XP w' T1 v1 (W) (H) (R) (B)/\KS w0 Mb T1):=by
 refine Ly (args:=[.agg #[iv W,iv H,iv R,iv B]]) 4 Tryz.func29 rfl rfl (Nat.le_of_ble_eq_true rfl) ?_
 have K0:=KR.refl (fun _=>False) w0
 refine KM (KL (LJ (vs:=[iv W,iv H,iv R,iv B]) rfl rfl rfl rfl fun p1 w2 B4 g5 k3=>?_))
 refine Lb (Value.nilFunc) LE (KQ ?_)
 have ah:=K4 (undef)
 have ai:=K4 (pt p1 0)
 refine KK (KM (KL (KN (.func (.func 60) #[] #[pt p1 0]) rr (aFE rfl ai rr) (Lb (.func (.func 60) #[] #[pt p1 0]) LE (KQ ?_)))))
 have aj:=K4 (.func (.func 60) #[] #[pt p1 0])
 refine KK (Le ?_)
 exact LC (v:=.func (.func 60) #[] #[pt p1 0]) ah rfl rfl aj ⟨p1,(Lh p1),rfl,(K0.tr k3),⟨⟨rfl,B4⟩,(KS.new K0 g5)⟩⟩
structure SI (W H:Int) where
  p:Nat
  i:Nat
  hp:p<3
  hi:i<Lk W p*Lk H p
def SI.m{W H:Int}(x:SI W H):Nat:=MY W H x.p+x.i
def SI.enc{W H:Int}(x:SI W H):List Value:=[.int .i64 ((x.m:Nat):Int),.agg #[.int .i64 ((x.p:Nat):Int),.int .i64 (pX (Lk W x.p) x.i),.int .i64 (pY (Lk W x.p) x.i)]]
def VY(W H:Int)(p:Nat):Nat->List (SI W H)
 | 0=>[]
 | n+1=>VY W H p n++(if h:p<3/\n<Lk W p*Lk H p then [⟨p,n,h.1,h.2⟩] else [])
def NH(W H:Int):Nat->List (SI W H)
 | 0=>[]
 | p+1=>NH W H p++VY W H p (Lk W p*Lk H p)
theorem S7{W H:Int}{p n:Nat}(hp:p<3)(hn:n<Lk W p*Lk H p):VY W H p (n+1)=VY W H p n ++ [⟨p,n,hp,hn⟩]:=by
 rw[VY,dif_pos ⟨hp,hn⟩]
theorem aAe{W H:Int}{p:Nat}(hp:p<3):∀ n,n<=Lk W p*Lk H p->(VY W H p n).length=n:=by
 intro n
 induction n with
 | zero=>intro _;rfl
 | succ n ih=>intro h;rw[S7 hp (by omega),List.length_append,ih (by omega)];rfl
theorem aCo{W H:Int}:∀ p,p<=3->(NH W H p).length=MY W H p:=by
 intro p
 induction p with
 | zero=>intro _;rfl
 | succ p ih=>intro h;rw[NH,List.length_append,ih (by omega),aAe (by omega) _ (Nat.le_refl _)];rfl
theorem aDs{W H:Int}{p m:Nat}:∀ n,VY W H p m <+: VY W H p (m+n):=by
 intro n
 induction n with
 | zero=>exact List.prefix_refl _
 | succ n ih=>exact ih.trans (List.prefix_append _ _)
theorem aCT{W H:Int}{p:Nat}:∀ n,NH W H p <+: NH W H (p+n):=by
 intro n
 induction n with
 | zero=>exact List.prefix_refl _
 | succ n ih=>exact ih.trans (List.prefix_append _ _)
theorem aFo{W H:Int}{p n:Nat}(hp:p<3)(hn:n<Lk W p*Lk H p):(NH W H p++VY W H p n) ++ [⟨p,n,hp,hn⟩] <+: NH W H 3:=by
 rw[List.append_assoc,← S7 hp hn]
 have h1:VY W H p (n+1) <+: VY W H p (Lk W p*Lk H p):=by
  have:=aDs (W:=W) (H:=H) (p:=p) (m:=n+1) (Lk W p*Lk H p-(n+1))
  rwa [show n+1+(Lk W p*Lk H p-(n+1))=Lk W p*Lk H p by omega] at this
 have h2:NH W H (p+1) <+: NH W H 3:=by
  have:=aCT (W:=W) (H:=H) (p:=p+1) (3-(p+1))
  rwa [show p+1+(3-(p+1))=3 by omega] at this
 exact(List.prefix_append_right_inj _ |>.2 h1).trans h2
theorem S4{W:Int}{p:Nat}(h:8<=W):0<Lk W p:=by unfold Lk;split <;> omega
theorem aAt{W H:Int}(hW:W<=64)(hH:H<=64):∀ p,p<4->MY W H p<=256*p:=by
 intro p
 induction p with
 | zero=>intro _;exact Nat.le_refl 0
 | succ p ih =>
  intro hp
  have h1:=ih (by omega)
  have h2:Lk W p*Lk H p<=16*16:=Nat.mul_le_mul (Pe hW) (Pe hH)
  show MY W H p+Lk W p*Lk H p<=_
  omega
theorem aFq(W H R B:Int)(p:Nat)(l:Nat)(J Jx:List (SI W H)->World->Prop)(T_j:Nat->Prop)(w0:World)(hs:PU W H R B)(h_p:MJ w0 p 23 [.int .i64 (W),.int .i64 (H),.int .i64 (R),.int .i64 (B)])(ap_p:KO T_j (Lh p))
  (hY:∀ (pre:List (SI W H)) (x:SI W H) (W1:World),J pre W1->pre.length<1000->pre ++ [x] <+: NH W H 3->YieldAt Fence.wide 0 Tryz.prog l ((SI.enc) x).toArray W1 fun e W'=>(e = .returned (.bool true)/\J (pre ++ [x]) W'/\KR T_j W1 W')\/(e = .returned (.bool false)/\Jx (pre ++ [x]) W')) (h_j:Jat w0 T_j J []) :
  Calls Tryz.prog 60 #[.func (.yield l) #[] #[],.pointer (some ⟨p,0,none⟩)] w0 fun e w'=>(∃ v,e = .returned v)/\(J (NH W H 3) w'\/∃ pre,Jx pre w'):=by
 refine Ly (args:=[.func (.yield l) #[] #[],pt p 0]) 39 Tryz.func60 rfl rfl (Nat.le_of_ble_eq_true rfl) ?_
 have hsd:=SJ hs
 have hof:=aAt (W:=W) (H:=H) hsd.2.1 hsd.2.2.2.2.1
 refine KM (KL (Lb (iv 0) LE (KQ ?_)))
 have s3:=K4 (.func (.yield l) #[] #[])
 have s4:=K4 (pt p 0)
 have s5:=K4 (undef)
 have s6:=K4 (iv 0)
 refine KK (KM (KL (KN (iv 0) rr (KT rfl rfl rr) (KQ ?_))))
 have aO:=K4 (iv 0)
 refine KK (Lm (M8 (fun nn FF ww=>∃ (q:Nat),(q<=3)/\nn=3-q/\FF 0 = .func (.yield l) #[] #[]/\FF 1=pt p 0/\FF 39=undef/\FF 3=iv ((MY W H q:Nat):Int)/\FF 8=iv ((q:Nat):Int)/\KR T_j w0 ww/\Jat ww T_j J (NH W H q)/\MJ ww p 23 [iv W,iv H,iv R,iv B]) (3-0) ⟨0,by omega,rfl,s3,s4,s5,s6,aO,(KR.refl T_j w0),h_j,h_p⟩ ?_))
 rintro bI bJ aP ⟨q,i18,hn17,aQ,ap,aq,aR,ae,aS,ar,au⟩
 refine KM (KL (KN (.bool (decide (((q:Nat):Int)<3))) rr (Mc rfl ae rfl rfl rr) (KQ ?_)))
 have aT:=K4 (.bool (decide (((q:Nat):Int)<3)))
 refine KK (KM ?_)
 refine K5 aT (fun c34=>?_) (fun c34=>?_)
 ·replace c34:=of_decide_eq_true c34
  refine Lf (KK (KM (Lm (KM (KL (K2 Lw ae (Lb (iv ((q:Nat):Int)) LE (KQ ?_))))))))
  have av:=K4 (iv ((q:Nat):Int))
  refine KK (KM (KL (KN (.agg #[iv W,iv H,iv R,iv B]) rr (KX MR rfl ap au rr) (K2 Lw av (L9 rfl rfl rfl rfl rfl (fun _ _=>by kernel_rfl) (Lo rfl (Lo rfl L5)) (Te W H R B q  _ (by assumption)  ) fun bK af=>?_)))))
  have aU:=au.all af id
  refine KN (.tuple #[iv ((Lk W q:Nat):Int),iv ((Lk H q:Nat):Int)]) rr (KT rfl rfl rr) (KN (iv ((Lk W q:Nat):Int)) rr (LY rfl rfl rfl rr) (KN (iv ((Lk H q:Nat):Int)) rr (LY rfl rfl rfl rr) (Lb (iv ((Lk W q:Nat):Int)) LE (Lb (iv ((Lk H q:Nat):Int)) LE (KQ ?_)))))
  have aw:=K4 (iv ((Lk W q:Nat):Int))
  have aV:=K4 (iv ((Lk H q:Nat):Int))
  refine KK (KM ?_)
  have hw0:=S4 (W:=W) (p:=q) hsd.1
  have hw1:=Pe (W:=W) (p:=q) hsd.2.1
  have hn1:=Pe (W:=H) (p:=q) hsd.2.2.2.2.1
  have hwn:Lk W q*Lk H q<=16*16:=Nat.mul_le_mul hw1 hn1
  have hofq:=hof q (by omega)
  refine KL (K2 Lw aw (K2 Lw aV (KN (iv ((Lk W q*Lk H q:Nat):Int)) rr (Nb rfl rfl rfl (LX (by rw[Int.natCast_mul]) (by omega)) rr) (KN (iv 0) rr (KT rfl rfl rr) (KQ ?_)))))
  have aW:=K4 (iv ((Lk W q*Lk H q:Nat):Int))
  have aX:=K4 (iv 0)
  refine KK (Lm ?_)
  have aY:=ar.all ((KR.refl (fun _=>False) aP).trans af (fun i hi x=>x.elim)) KO.none
  refine M8 (fun nn FF ww=>∃ (n:Nat),(n<=(Lk W q*Lk H q))/\nn=(Lk W q*Lk H q)-n/\FF 0 = .func (.yield l) #[] #[]/\FF 1=pt p 0/\FF 4=iv ((q:Nat):Int)/\FF 5=iv ((Lk W q:Nat):Int)/\FF 8=iv ((q:Nat):Int)/\FF 19=iv ((Lk W q*Lk H q:Nat):Int)/\FF 39=undef/\FF 3=iv (((MY W H q+n):Nat):Int)/\FF 20=iv ((n:Nat):Int)/\KR T_j w0 ww/\Jat ww T_j J (NH W H q++VY W H q n)/\MJ ww p 23 [iv W,iv H,iv R,iv B]) ((Lk W q*Lk H q)-0) ⟨0,by omega,rfl,aQ,ap,av,aw,ae,aW,aq,aR,aX,(aS.tr af),(by rw[show VY W H q 0=[] from rfl,List.append_nil];exact aY),aU⟩ ?_
  rintro bL bM aZ ⟨n,i74,hn73,ah,az,aA,ai,aB,aC,aD,aj,ak,aE,aF,aG⟩
  refine KM (KL (KN (.bool (decide (((n:Nat):Int)<((Lk W q*Lk H q:Nat):Int)))) rr (Mc rfl ak aC rfl rr) (KQ ?_)))
  have a8:=K4 (.bool (decide (((n:Nat):Int)<((Lk W q*Lk H q:Nat):Int))))
  refine KK (KM ?_)
  refine K5 a8 (fun aa=>?_) (fun aa=>?_)
  ·replace aa:=of_decide_eq_true aa
   refine Lf (KK (KM (Lm (KM (KL (K2 Lw ak (Lb (iv ((n:Nat):Int)) LE (KQ ?_))))))))
   have aH:=K4 (iv ((n:Nat):Int))
   refine KK (KM (KM ?_))
   have hdv:=Nat.div_le_self n (Lk W q)
   refine aCa 10 [some 23,some 24,some 25,some 26,some 27,some 28,some 29,some 30,some 31,some 32] [Pd.eq (.func (.yield l) #[] #[]),Pd.eq (iv (((MY W H q+n):Nat):Int)),Pd.eq (iv ((q:Nat):Int)),Pd.eq (iv ((n:Nat):Int)),Pd.eq (iv ((Lk W q:Nat):Int)),Pd.eq (iv (pX (Lk W q) n)),Pd.eq (iv ((n:Nat):Int)),Pd.eq (iv ((Lk W q:Nat):Int)),Pd.eq (iv (pY (Lk W q) n)),Pd.eq (.agg #[iv ((q:Nat):Int),iv (pX (Lk W q) n),iv (pY (Lk W q) n)])] (by kernel_rfl) (by kernel_rfl) (by kernel_rfl) ?_ ?_
   ·refine KP ?_ ?_
    ·refine Ld.one rfl fun F_ w_ hR hout hD=>?_
     exact(KT rfl ((hout 0 rfl (by decide)).trans ah) ⟨rfl,KR.refl _ _⟩)
    refine KP ?_ ?_
    ·refine Ld.one rfl fun F_ w_ hR hout hD=>?_
     exact(KT rfl ((hout 3 rfl (by decide)).trans aj) ⟨rfl,KR.refl _ _⟩)
    refine KP ?_ ?_
    ·refine Ld.one rfl fun F_ w_ hR hout hD=>?_
     exact(KT rfl ((hout 4 rfl (by decide)).trans aA) ⟨rfl,KR.refl _ _⟩)
    refine KP ?_ ?_
    ·refine Ld.one rfl fun F_ w_ hR hout hD=>?_
     exact(KT rfl ((hout 7 rfl (by decide)).trans aH) ⟨rfl,KR.refl _ _⟩)
    refine KP ?_ ?_
    ·refine Ld.one rfl fun F_ w_ hR hout hD=>?_
     exact(KT rfl ((hout 5 rfl (by decide)).trans ai) ⟨rfl,KR.refl _ _⟩)
    refine KP ?_ ?_
    ·refine Ld.one rfl fun F_ w_ hR hout hD=>?_
     have a9:F_ 26=iv ((n:Nat):Int):=(hD.get 0 rfl rfl rfl)
     have ba:F_ 27=iv ((Lk W q:Nat):Int):=(hD.get 1 rfl rfl rfl)
     exact(Rh rfl a9 ba (by first|decide|omega) (Pn n (Lk W q)) ⟨rfl,KR.refl _ _⟩)
    refine KP ?_ ?_
    ·refine Ld.one rfl fun F_ w_ hR hout hD=>?_
     exact(KT rfl ((hout 7 rfl (by decide)).trans aH) ⟨rfl,KR.refl _ _⟩)
    refine KP ?_ ?_
    ·refine Ld.one rfl fun F_ w_ hR hout hD=>?_
     exact(KT rfl ((hout 5 rfl (by decide)).trans ai) ⟨rfl,KR.refl _ _⟩)
    refine KP ?_ ?_
    ·refine Ld.one rfl fun F_ w_ hR hout hD=>?_
     have bb:F_ 29=iv ((n:Nat):Int):=(hD.get 0 rfl rfl rfl)
     have bc:F_ 30=iv ((Lk W q:Nat):Int):=(hD.get 1 rfl rfl rfl)
     exact(O8 rfl bb bc (by first|decide|omega) (LX (Pl n (Lk W q)) (by omega)) ⟨rfl,KR.refl _ _⟩)
    refine KP ?_ ?_
    ·refine Ld.one rfl fun F_ w_ hR hout hD=>?_
     have bd:F_ 25=iv ((q:Nat):Int):=(hD.get 0 rfl rfl rfl)
     have be:F_ 28=iv (pX (Lk W q) n):=(hD.get 1 rfl rfl rfl)
     have bf:F_ 31=iv (pY (Lk W q) n):=(hD.get 2 rfl rfl rfl)
     exact(Ma (l':=[(0,iv ((q:Nat):Int)),(1,iv (pX (Lk W q) n)),(2,iv (pY (Lk W q) n))]) (cells:=#[iv ((q:Nat):Int),iv (pX (Lk W q) n),iv (pY (Lk W q) n)]) rfl (RW bd (RW be (RW bf Rj))) (by kernel_rfl) rfl ⟨rfl,KR.refl _ _⟩)
    exact Mj
   intro bN am bO an ac ab
   have bg:=aG.all an id
   obtain⟨bh,bi,bj,bl,bm,bn,aI,bo,bp⟩:=t9 ab 0 ah 1 az 4 aA 5 ai 8 aB 19 aC 39 aD 3 aj 20 ak
   have bq:am 23 = .func (.yield l) #[] #[]:=(ab 23).trans (ac 0 (by decide))
   have bt:am 24=iv (((MY W H q+n):Nat):Int):=(ab 24).trans (ac 1 (by decide))
   have bu:am 32 = .agg #[iv ((q:Nat):Int),iv (pX (Lk W q) n),iv (pY (Lk W q) n)]:=(ab 32).trans (ac 9 (by decide))
   clear ac ab
   have aJ:=aF.all ((KR.refl (fun _=>False) aZ).trans an (fun i hi x=>x.elim)) KO.none
   refine aCt rfl rfl rfl rfl bq rfl (Lo bt (Lo bu L5)) (hY (NH W H q++VY W H q n) (⟨q,n,by omega,by omega⟩) _ aJ.1 (by rw[List.length_append,aCo q (by omega),aAe (by omega) n (by omega)];omega) (aFo (by omega) (by omega))) ?_
   rintro _ bQ (⟨rfl,j135,ao⟩ | ⟨rfl,bv⟩)
   ·refine⟨_,rfl,?_⟩
    have bz:=aJ.next ao.size j135
    have bA:=bg.all ao (ap_p.symm p rfl)
    refine KN (.bool false) rr (Mq rfl rfl rfl rr) (KQ ?_)
    have bB:=K4 (.bool false)
    refine KK ?_
    refine K5 (t:=false) bB (fun e=>by cases e) (fun _=>?_)
    refine Lf (KK (KL (K2 Lw bo (KN (iv (((MY W H q+n)+1:Nat):Int)) rr (LS rfl rfl rfl (LX (by omega) (by omega)) rr) (Lb (iv (((MY W H q+n)+1:Nat):Int)) LE (KQ ?_))))))
    have bC:=K4 (iv (((MY W H q+n)+1:Nat):Int))
    refine Lz (KK (KL (KN (iv ((n+1:Nat):Int)) rr (LS rfl bp rfl (LX (by omega) (by omega)) rr) (KN (iv ((n+1:Nat):Int)) rr (KT rfl rfl rr) (KQ ?_)))))
    have bD:=K4 (iv ((n+1:Nat):Int))
    exact KK ⟨((Lk W q*Lk H q)-(n+1)),by omega,n+1,by omega,rfl,bh,bi,bj,bl,bm,bn,aI,bC,bD,((aE.tr an).trans ao (fun _ _ x=>x)),(by rw[S7 (by omega) (by omega),← List.append_assoc];exact bz),bA⟩
   ·refine⟨_,rfl,?_⟩
    refine KN (.bool true) rr (Mq rfl rfl rfl rr) (KQ ?_)
    have bE:=K4 (.bool true)
    refine KK ?_
    refine K5 (t:=true) bE (fun _=>?_) (fun e=>by cases e)
    refine Le (Lx (Ot (Lx (Lx (Ot (Ot (Lx (Lx (Ot ?_)))))))))
    exact X1 aI rfl ⟨⟨_,rfl⟩,Or.inr ⟨_,bv⟩⟩
  ·replace aa:=of_decide_eq_false aa
   refine Mm (Lp (Lp ?_))
   have bF:(Lk W q*Lk H q)=n:=by omega
   subst bF
   refine Mk (Lz (KK (KL (KN (iv ((q+1:Nat):Int)) rr (LS rfl aB rfl (LX (by omega) (by omega)) rr) (KN (iv ((q+1:Nat):Int)) rr (KT rfl rfl rr) (KQ ?_))))))
   have bG:=K4 (iv ((q+1:Nat):Int))
   exact KK ⟨(3-(q+1)),by omega,q+1,by omega,rfl,ah,az,aD,aj,bG,aE,aF,aG⟩
 ·replace c34:=of_decide_eq_false c34
  refine Mm (Lp (Lp ?_))
  have bH:3=q:=by omega
  subst bH
  refine Mk ?_
  exact ZC aq rfl ⟨⟨_,rfl⟩,Or.inl (ar.1)⟩
theorem aAd(W H R B:Int)(p:Nat)(w:World)(hs:PU W H R B)(h1:MJ w p 23 [.int .i64 W,.int .i64 H,.int .i64 R,.int .i64 B]) :
  SeqStopsK Fence.wide 1 Tryz.prog 60 #[.pointer (some ⟨p,0,none⟩)] (fun x:SI W H=>x.enc.toArray) (KR (fun i=>i≠p)) (fun xs=>xs=NH W H 3) (fun xs=>xs <+: NH W H 3) 1000 w:=by
 intro l J Jx W' hB hJ hJx hY h0
 have k:=Xq hB
 refine callsIn_wide.2 ((aFq W H R B p l J (fun pre W1=>Jx pre W1/\pre <+: NH W H 3) (fun i=>i≠p) W' hs (h1.all k id) (fun i h e=>h e) (fun pre x W1 hj hl hp=>?_) ⟨h0,hJ⟩).mono ?_)
 ·obtain⟨fn,t,a,b,hy,hR⟩:=hY pre x W1 hj hl
  exact⟨fn,t,a,b,hy,hR.mono (fun e w' h=>h.imp id (fun ⟨h1,h2⟩=>⟨h1,h2,hp⟩))⟩
 ·rintro e w' ⟨hv,h⟩
  exact⟨hv,h.elim (fun h=>.inl ⟨_,rfl,h⟩) (fun ⟨pre,h,hp⟩=>.inr ⟨pre,hp,h⟩)⟩
open Go.RowKit
structure QSt where
  f:Nat->VF×VF
  s:Option Nat
  o:List Ch
  e:Int
def QSt.at(q:QSt)(p:Nat):ZG:=⟨(q.f p).1,(q.f p).2,q.s⟩
def Px{W H:Int}(l:List Nat)(k:Int)(q:QSt)(x:SI W H):QSt :=
  if q.e=0 then
    (if (Mt l k (Lk W x.p) x.i (q.at x.p)).2.1=0 then
      ⟨fun p=>if p=x.p then ((Sy l k (Lk W x.p) x.i (q.at x.p)).a,(Sy l k (Lk W x.p) x.i (q.at x.p)).b) else q.f p,(Sy l k (Lk W x.p) x.i (q.at x.p)).s,q.o ++ [Rb l k (Lk W x.p) x.i (q.at x.p)],0⟩
     else ⟨q.f,q.s,q.o,(Mt l k (Lk W x.p) x.i (q.at x.p)).2.1⟩)
  else q
def aEh(W H:Int):QSt:=⟨fun p=>(Qo ((Lk W p:Nat):Int) ((Lk H p:Nat):Int),Qo ((Lk W p:Nat):Int) ((Lk H p:Nat):Int)),some 0,[],0⟩
def K3(l:List Nat)(k W H:Int)(pre:List (SI W H)):QSt:=pre.foldl (Px l k) (aEh W H)
theorem aAc{l:List Nat}{k W H:Int}(pre:List (SI W H))(x:SI W H):K3 l k W H (pre ++ [x])=Px l k (K3 l k W H pre) x:=by
 unfold K3;rw[List.foldl_append];rfl
theorem aCb{l:List Nat}{k W H:Int}{pre:List (SI W H)}{x:SI W H}{v:Nat}(hv:x.p=v)(hq:(K3 l k W H pre).e=0)
  (hc:(Mt l k (Lk W v) x.i ((K3 l k W H pre).at v)).2.1=0) :
  (K3 l k W H (pre ++ [x])).s=(Sy l k (Lk W v) x.i ((K3 l k W H pre).at v)).s/\(K3 l k W H (pre ++ [x])).o=(K3 l k W H pre).o ++ [Rb l k (Lk W v) x.i ((K3 l k W H pre).at v)] ∧
  (K3 l k W H (pre ++ [x])).f v=((Sy l k (Lk W v) x.i ((K3 l k W H pre).at v)).a,(Sy l k (Lk W v) x.i ((K3 l k W H pre).at v)).b) ∧
  (∀ p,p≠v->(K3 l k W H (pre ++ [x])).f p=(K3 l k W H pre).f p)/\(K3 l k W H (pre ++ [x])).e=0:=by
 subst hv
 rw[aAc]
 have e:Px l k (K3 l k W H pre) x=_:=(if_pos hq).trans (if_pos hc)
 rw[e]
 exact⟨rfl,rfl,if_pos rfl,fun p hp=>if_neg hp,rfl⟩
theorem ay9{l:List Nat}{k W H:Int}{pre:List (SI W H)}{x:SI W H}{v:Nat}(hv:x.p=v)(hq:(K3 l k W H pre).e=0)
  (hc:(Mt l k (Lk W v) x.i ((K3 l k W H pre).at v)).2.1≠0):(K3 l k W H (pre ++ [x])).e=(Mt l k (Lk W v) x.i ((K3 l k W H pre).at v)).2.1:=by
 subst hv
 rw[aAc]
 have e:Px l k (K3 l k W H pre) x=_:=(if_pos hq).trans (if_neg hc)
 rw[e]
theorem ayJ{l:List Nat}{k W H:Int}(pre:List (SI W H)):(K3 l k W H pre).o.length<=pre.length:=by
 have key:∀ (pre:List (SI W H)) (q:QSt),(pre.foldl (Px l k) q).o.length<=q.o.length+pre.length:=by
  intro pre
  induction pre with
  | nil=>intro q;exact Nat.le_refl _
  | cons x r ih =>
   intro q
   rw[List.foldl_cons]
   refine Nat.le_trans (ih _) ?_
   have:(Px l k q x).o.length<=q.o.length+1:=by
    unfold Px
    split
    ·split
     ·simp
     ·exact Nat.le_succ _
    ·exact Nat.le_succ _
   rw[List.length_cons];omega
 have:=key pre (aEh W H)
 rw[show (aEh W H).o.length=0 from rfl,Nat.zero_add] at this
 exact this
theorem W5{W H:Int}{l:List Nat}{k:Int}:∀ (xs:List (SI W H)) (q:QSt),q.e≠0->xs.foldl (Px l k) q=q:=by
 intro xs
 induction xs with
 | nil=>intro q _;rfl
 | cons x r ih =>
  intro q h
  rw[List.foldl_cons,show Px l k q x=q from if_neg h]
  exact ih q h
theorem aC1{W H:Int}{l:List Nat}{k:Int}{p:Nat}(hp:p<3)(q:QSt)(hq:q.e=0):∀ n,n<=Lk W p*Lk H p →
  ((((VY W H p n).foldl (Px l k) q).e=0->To l k (Lk W p) (Lk W p*Lk H p-n) n (((VY W H p n).foldl (Px l k) q).at p) ((VY W H p n).foldl (Px l k) q).o=To l k (Lk W p) (Lk W p*Lk H p) 0 (q.at p) q.o) ∧
  (((VY W H p n).foldl (Px l k) q).e≠0->(To l k (Lk W p) (Lk W p*Lk H p) 0 (q.at p) q.o).2.1=((VY W H p n).foldl (Px l k) q).e) ∧
  ∀ p',p'≠p->((VY W H p n).foldl (Px l k) q).f p'=q.f p'):=by
 intro n
 induction n with
 | zero=>intro _;exact⟨fun _=>rfl,fun h=>absurd hq h,fun _ _=>rfl⟩
 | succ n ih =>
  intro hn
  obtain⟨h1,h2,h3⟩:=ih (by omega)
  rw[S7 hp (by omega),List.foldl_append,List.foldl_cons,List.foldl_nil]
  generalize ((VY W H p n).foldl (Px l k) q)=q' at h1 h2 h3 ⊢
  by_cases he:q'.e=0
  ·by_cases hc:(Mt l k (Lk W p) n (q'.at p)).2.1=0
   ·have e:Px l k q' (⟨p,n,hp,by omega⟩:SI W H)=_:=(if_pos he).trans (if_pos hc)
    rw[e]
    refine⟨fun _=>?_,fun h=>absurd rfl h,fun p' hp'=>(if_neg hp').trans (h3 p' hp')⟩
    have h1':=h1 he
    rw[show Lk W p*Lk H p-n=(Lk W p*Lk H p-(n+1))+1 by omega,Uu hc] at h1'
    have ea:QSt.at ⟨fun p'=>if p'=p then ((Sy l k (Lk W p) n (q'.at p)).a,(Sy l k (Lk W p) n (q'.at p)).b) else q'.f p',(Sy l k (Lk W p) n (q'.at p)).s,q'.o ++ [Rb l k (Lk W p) n (q'.at p)],0⟩ p=azc l k (Lk W p) n (q'.at p):=by
     unfold QSt.at
     simp only[if_true]
     exact(YF hc).2
    refine Eq.trans ?_ h1'
    show To l k (Lk W p) _ (n+1) (QSt.at ⟨fun p'=>if p'=p then ((Sy l k (Lk W p) n (q'.at p)).a,(Sy l k (Lk W p) n (q'.at p)).b) else q'.f p',(Sy l k (Lk W p) n (q'.at p)).s,q'.o ++ [Rb l k (Lk W p) n (q'.at p)],0⟩ p) (q'.o ++ [Rb l k (Lk W p) n (q'.at p)])=_
    rw[ea,(YF hc).1]
   ·have e:Px l k q' (⟨p,n,hp,by omega⟩:SI W H)=_:=(if_pos he).trans (if_neg hc)
    rw[e]
    refine⟨fun h=>absurd h hc,fun _=>?_,fun p' hp'=>h3 p' hp'⟩
    have h1':=h1 he
    rw[show Lk W p*Lk H p-n=(Lk W p*Lk H p-(n+1))+1 by omega,Yu hc] at h1'
    rw[← h1']
  ·rw[show Px l k q' (⟨p,n,hp,by omega⟩:SI W H)=q' from if_neg he]
   exact⟨fun h=>absurd h he,h2,h3⟩
theorem az1{W H:Int}{l:List Nat}{k:Int}:∀ p,p<=3 →
  ((K3 l k W H (NH W H p)).e=0->Oi l k W H p=((K3 l k W H (NH W H p)).o,0,(K3 l k W H (NH W H p)).s)) ∧
  ((K3 l k W H (NH W H p)).e≠0->(Oi l k W H p).2.1=(K3 l k W H (NH W H p)).e) ∧
  ((K3 l k W H (NH W H p)).e=0->∀ p',p<=p'->(K3 l k W H (NH W H p)).f p'=(aEh W H).f p'):=by
 intro p
 induction p with
 | zero=>intro _;exact⟨fun _=>rfl,fun h=>absurd rfl h,fun _ _ _=>rfl⟩
 | succ p ih =>
  intro hp
  obtain⟨h1,h2,h3⟩:=ih (by omega)
  have ef:K3 l k W H (NH W H (p+1))=(VY W H p (Lk W p*Lk H p)).foldl (Px l k) (K3 l k W H (NH W H p)):=by
   unfold K3;rw[NH,List.foldl_append]
  rw[ef]
  generalize K3 l k W H (NH W H p)=q at h1 h2 h3 ⊢
  by_cases he:q.e=0
  ·obtain⟨r1,r2,r3⟩:=aC1 (W:=W) (H:=H) (l:=l) (k:=k) (by omega) q he (Lk W p*Lk H p) (Nat.le_refl _)
   have hpl:=h1 he
   have hz:(Oi l k W H p).2.1=0:=by rw[hpl]
   have hrun:Oi l k W H (p+1)=To l k (Lk W p) (Lk W p*Lk H p) 0 (q.at p) q.o:=by
    rw[UB hz,hpl]
    unfold Wh QSt.at
    rw[show (Qo ((Lk W p:Nat):Int) ((Lk H p:Nat):Int))=(q.f p).1 from by rw[h3 he p (Nat.le_refl _)];rfl]
    rw[show (q.f p).2=(q.f p).1 from by rw[h3 he p (Nat.le_refl _)];rfl]
   refine⟨fun hz'=>?_,fun hz'=>?_,fun _ p' hp'=>?_⟩
   ·rw[hrun,← r1 hz',Nat.sub_self];rfl
   ·rw[hrun];exact r2 hz'
   ·rw[r3 p' (by omega)];exact h3 he p' (by omega)
  ·rw[W5 _ _ he]
   refine⟨fun h=>absurd h he,fun _=>?_,fun h=>absurd h he⟩
   rw[V2 (by rw[h2 he];exact he)];exact h2 he
theorem aFr{W H:Int}{l:List Nat}{k:Int}{pre:List (SI W H)}(h:pre <+: NH W H 3)(he:(K3 l k W H pre).e≠0):(K3 l k W H (NH W H 3)).e=(K3 l k W H pre).e:=by
 obtain⟨r,h⟩:=h
 rw[← h]
 unfold K3 at he ⊢
 rw[List.foldl_append,W5 _ _ he]
theorem OH{W H R B K Q D F:Int}{l:List Nat}{pre:List (SI W H)}(hm:RU W H R B K Q D F)(h:pre <+: NH W H 3)(he:(K3 l K W H pre).e≠0):O2 l W H R B K Q D F=([],(K3 l K W H pre).e):=by
 have e:=aFr h he
 have h2:=(az1 (W:=W) (H:=H) (l:=l) (k:=K) 3 (Nat.le_refl _)).2.1 (by rw[e];exact he)
 rw[e] at h2
 rw[Ql hm,Zc (Nat.le_refl 3) (by rw[h2];exact he),h2]
theorem ZT{W H R B K Q D F:Int}{l:List Nat}(hm:RU W H R B K Q D F)(he:(K3 l K W H (NH W H 3)).e=0) :
  (Pb l (K3 l K W H (NH W H 3)).s≠0->O2 l W H R B K Q D F=([],130))/\(Pb l (K3 l K W H (NH W H 3)).s=0->O2 l W H R B K Q D F=((K3 l K W H (NH W H 3)).o,0)):=by
 have h2:=(az1 (W:=W) (H:=H) (l:=l) (k:=K) 3 (Nat.le_refl _)).1 he
 have hz:(Oi l K W H 3).2.1=0:=by rw[h2]
 refine⟨fun hd=>?_,fun hd=>?_⟩
 ·rw[Ql hm,aAs hz (by rw[h2];exact hd)]
 ·rw[Ql hm,azZ hz (by rw[h2];exact hd),h2]
open Go.RowKit
theorem XW{α:Type}{P:Program}{N:Nat}{Q:Exit->(Nat->Value)->World->Prop}{F:Nat->Value}{w:World}{g:Operand}{ps:Array Tmp}{assign body:Code}{gf:Nat}{lb:Array Value}
  {encs:α->List Value} {U:Nat->Prop} {S Sp:List α->Prop} {M:Nat}
  (hg:ev (M3 N F) g = .func (.func gf) #[] lb) (eg:∀ args w,(callFunc gf args).run P w = .ok (.enter gf args) w)
  (hseq:SeqStopsK Fence.wide 1 P gf lb (fun x=>(encs x).toArray) (KR U) S Sp M w) (hU:∀ i,w.heap.size<=i->U i)
  (pl:List Tmp) (hpl:ps=pl.toArray) (hps:∀ x,(encs x).length=pl.length) (hpN:(pl.all fun p=>Nat.blt p N)=true)
  (I Ix:List α->World->Prop) (hI:OwnFrom w.heap.size I) (hIx:OwnFrom w.heap.size Ix) (h0:I [] w) (Ax:α->(Nat->Value)->World->Prop) (hAx:∀ x FF,OwnFrom w.heap.size (fun (_:Unit) W=>Ax x FF W))
  (hassign:∀ l pre x W,I pre W->wq (some (l+1)) P N assign (asP w.heap.size (KR U) (I pre) (Ax x) W) (aEx N F (pl.zip (encs x))) W)
  (hbody:∀ (l:Nat) (pre:List α) (x:α) (F':Nat->Value) (W:World),I pre W->Ax x F' W->pre.length<M->wq (some (l+1)) P N body (aFt w.heap.size (KR U) (I (pre ++ [x])) (Ix (pre ++ [x])) W) F' W)
  (hdone:∀ (D:Nat) (xs:List α) (W:World),w.heap.size<=D->S xs->I xs W->W.heap[D]? = some (.deferred (some []))->Q .normal (up F N (OZ (D::ON (F N)))) W)
  (hstop:∀ (D:Nat) (pre:List α) (W:World),w.heap.size<=D->Sp pre->Ix pre W->W.heap[D]? = some (.deferred (some []))->Q .ret (up F N (OZ (D::ON (F N)))) W) :
  wq none P N (.rangeFunc g ps assign body) Q F w:=by
 subst hpl
 intro a ha
 refine wpIn_wide.2 ((wpIn_wide (n:=2)).1 ?_)
 refine wpIn_rangeFunc_ownH rfl (by decide) (gf:=gf) (lb:=lb) (by rw[ha.eval];exact hg) trivial eg hseq
  (fun h k=>h.trans k (fun _ _ x=>x)) (fun W l o o' hl ho hc hw=>?_) (Below.refl _ _) (fun x=>by simp[hps]) I (aEy Ix) hI (aBm hIx) h0
  (fun x a' W=>∃ F',Fr N F' a'/\Ax x F' W) (fun x a' s W W' row h hg hr=>?_) ?_ ?_ ?_ ?_
 ·exact(KR.refl U W).grown (grownBy_putObj' W l o') (fun k e hk=>by cases e;exact hU _ hl)
 ·obtain⟨F',hF,hx⟩:=h
  exact⟨F',hF,hAx x F' s W W' row hx hg hr⟩
 ·intro l pre x W K hi hK
  have hz:((pl.toArray.zip (encs x).toArray).foldl (fun t (p,v)=>t.setIfInBounds p v) a.tmps)=(pl.zip (encs x)).foldl (fun t p=>t.setIfInBounds p.1 p.2) a.tmps:=by simp
  rw[hz]
  have hf:Fr N (aEx N F (pl.zip (encs x))) { tmps:=(pl.zip (encs x)).foldl (fun t p=>t.setIfInBounds p.1 p.2) a.tmps,defers:=[] } :=
   Fr.rounds _ _ _ (ha.last undef [] rfl) (aEb pl _ hpN)
  refine wpIn_mono (hassign l pre x W hi _ hf) ?_
  rintro e a' w' ⟨F',hF,hq⟩
  cases e <;> first
   | (obtain⟨h1,h2,h3,h4⟩:=hq;exact hK a' _ h1 h2 h3 ⟨F',hF,h4⟩)
   | exact hq.elim
 ·rintro l pre x a' W _ _ hi ⟨F',hF,hx⟩ hlt
  refine wpIn_mono (hbody l pre x F' W hi hx hlt a' hF) ?_
  rintro e a'' w' ⟨F'',_,hq⟩
  cases e <;> first|exact hq|exact hq.elim
 ·intro D xs W hD hS hi hd
  exact⟨_,ha.mark D,hdone D xs W hD hS hi hd⟩
 ·intro D c pre W hD hSp h hd
  cases c <;> first
   | exact wpIn_ret ⟨_,ha.mark D,hstop D pre W hD hSp h hd⟩
   | exact h.elim
end Go.Proofs.YtknjpdcpmpfklaaGreatDoor
