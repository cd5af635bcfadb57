/- What PictureStill reaches of my texts, part 2. -/
import Derived.Test.YtknjpdcpmpfklaaGreatDoorPictureStillA
set_option maxRecDepth 100000
set_option maxHeartbeats 4000000
set_option maxRecDepth 100000
namespace Go.Proofs.YtknjpdcpmpfklaaGreatDoor
open Go.RowKit
theorem Uy(p g:Nat)(l:List Nat)(a:Nat)(b:Bool)(w:World)(h:N2 w p g l a b) :
  Calls Tryz.prog 98 #[.pointer (some ⟨p,0,none⟩)] w fun e w'=>e = .returned (.bool b)/\w=w':=by
 obtain⟨-,-,h2,-,-⟩:=h.facts
 clear h
 go_enter Tryz.func98,Tryz.ntmps98
 go_wp2
 go_ret
 exact⟨rfl,rfl⟩
theorem VC(pn pr:Addr)(p:Nat)(b:Bool)(u:TypeId)(pv:Value)(older:List PanicEntry)(w:World)
  (hn:w.cell? pn=some (.int .i64 0)) (fn:w.frozen? pn=false) (hr:w.cell? pr=some (.pointer (some ⟨p,0,none⟩))) (hl:w.cell? ⟨p,2,none⟩=some (.bool b)) (fl:w.frozen? ⟨p,2,none⟩=false) (hne:¬ pn.block=p) :
  CallsD Tryz.prog 151 #[.pointer (some pn),.pointer (some pr)] (.panicking ({ v:=.iface u pv,recovered:=false }::older)) w fun e u' w' =>
   e = .returned (.tuple #[])/\u' = .panicking ({ v:=.iface u pv,recovered:=true }::older)/\w'=(w.setCell pn (.int .i64 0)).setCell ⟨p,2,none⟩ (.bool true):=by
 refine callsD_of_wpS Tryz.func151 rfl fun c₀ cs hu=>?_
 apply wpS_seq
 apply wpS_region
 simp[wpOpsS,go_sem,recoverD,hu,Tryz.ntmps151,Exit.thenS]
 refine wpS_cond (t:=true) (by simp[Act.eval,Array.replicate]) ?_
 simp only[if_true]
 apply wpS_region
 have hl2:(w.setCell pn (.int .i64 0)).cell? ⟨p,2,none⟩=some (.bool b):=by
  rw[← hl];exact World.cell?_of_block (Below.heap_setCell _ _ _ _ (fun e=>hne e.symm))
 have fl2:(w.setCell pn (.int .i64 0)).frozen? ⟨p,2,none⟩=false:=by
  rw[← fl];exact World.frozen?_of_block (Below.heap_setCell _ _ _ _ (fun e=>hne e.symm))
 simp[wpOpsS,go_sem,hn,fn,hr,hl2,fl2,bodyPostS,results,Tryz.results151]
theorem azm(pn pr:Addr)(w:World) :
  CallsD Tryz.prog 151 #[.pointer (some pn),.pointer (some pr)] .returning w fun e u' w'=>e = .returned (.tuple #[])/\u' = .returning/\w'=w:=by
 refine callsD_of_wpS Tryz.func151 rfl fun c₀ cs hu=>?_
 apply wpS_seq
 apply wpS_region
 simp[wpOpsS,go_sem,recoverD,hu,Tryz.ntmps151,Exit.thenS]
 refine wpS_cond (t:=false) (by simp[Act.eval,Array.replicate]) ?_
 simp only[Bool.false_eq_true,if_false]
 refine wpS_of_wp (wp_skip ?_)
 cases c₀
 simp_all [bodyPostS,results,Tryz.results151]
theorem N2.lt{w:World}{p g:Nat}{l:List Nat}{a:Nat}{b:Bool}(h:N2 w p g l a b):p<w.heap.size/\g<w.heap.size:=⟨M5 h.1,M5 h.2.1⟩
set_option maxHeartbeats 400000 in
theorem Ut(p g:Nat)(l:List Nat)(a:Nat)(f:Value)(w:World)(h:N2 w p g l a true) :
  Calls Tryz.prog 127 #[.pointer (some ⟨p,0,none⟩),f] w fun e w'=>e = .returned (.int .i64 0)/\KR (fun _=>False) w w':=by
 have H0:=Lib.hid h;clear h
 go_enter_defers Tryz.func127,Tryz.ntmps127
 go_wp2_with (fail)
 refine(Uy p g l a true _ ?_).mono ?_
 ·exact(H0.out.kept ((KR.refl (fun _=>False) _).alloc _) id id).kept ((KR.refl (fun _=>False) _).alloc _) id id
 rintro e w1 ⟨rfl,rfl⟩
 go_wp2
 simp[bodyPostD,Leaves,results,Tryz.results127,go_sem]
 exact((KR.refl _ _).alloc _).alloc _
theorem U4(w:World)(x y:Value)(t t':TypeId) :
  ((w.alloc (.cells #[x] t)).alloc (.cells #[y] t')).heap[w.heap.size]? = some (.cells #[x] t)/\((w.alloc (.cells #[x] t)).alloc (.cells #[y] t')).heap[w.heap.size+1]? = some (.cells #[y] t'):=by
 constructor
 ·rw[Below.heap_alloc _ _ _ (by simp)];exact heap_alloc_new w _
 ·have:=heap_alloc_new (w.alloc (.cells #[x] t)) (.cells #[y] t')
  simpa using this
def azN(w:World)(p g:Nat)(l:List Nat)(o:Option (Int×Nat))(e:Ending)(w':World):Prop :=
 match o with
 | some (n,a)=>e = .returned (.int .i64 n)/\N2 w' p g l a false/\KR (· = p) w w'
 | none=>e = .returned (.int .i64 0)/\(∃ a,N2 w' p g l a true)/\KR (· = p) w w'
set_option maxHeartbeats 400000 in
theorem Yb(p g:Nat)(l:List Nat)(a:Nat)(f:FuncId)(first cap:Array Value)(n:Int)(a':Nat)(w:World)(h:N2 w p g l a false)
  (hcf:∀ (A:Array Value) (w:World),(callFunc f A).run Tryz.prog w = .ok (.enter f A) w)
  (hcall:∀ w1,KR (fun _=>False) w w1->Calls Tryz.prog f (first++cap) w1 (SH w1 p g l (some (n,a')))) :
  Calls Tryz.prog 127 #[.pointer (some ⟨p,0,none⟩),.func (.func f) first cap] w (azN w p g l (some (n,a'))):=by
 have hmf:∀ (fn:Fn) (first cap:Array Value) (w:World),(Instr.makeFunc fn first cap).run Tryz.prog w = .ok (.func fn first cap) w:=fun _ _ _ _=>rfl
 have hpl:=h.lt.1
 have hgl:=h.lt.2
 have H0:=Lib.hid h;clear h
 have HC:=Lib.hid hcall;clear hcall
 go_enter_defers Tryz.func127,Tryz.ntmps127
 go_wp2_with (fail)
 refine(Uy p g l a false _ ?_).mono ?_
 ·exact(H0.out.kept ((KR.refl (fun _=>False) _).alloc _) id id).kept ((KR.refl (fun _=>False) _).alloc _) id id
 rintro e w1 ⟨rfl,rfl⟩
 go_wp2_with (fail)
 refine(HC.out _ (((KR.refl _ _).alloc _).alloc _)).mono ?_
 rintro e w1 ⟨rfl,hr1,hk1⟩
 obtain⟨b0,b1⟩:=U4 w (.pointer (some ⟨p,0,none⟩)) (.int .i64 0) 54 3
 have hb1:=hk1.at b1 (by omega)
 have k1:w1.cell? ⟨w.heap.size+1,0,none⟩=some (.int .i64 0):=by rw[ML hb1];rfl
 have f1:w1.frozen? ⟨w.heap.size+1,0,none⟩=false:=Nm hb1
 have HB1:=Lib.hid hb1
 clear b0 b1 hb1
 have HR1:=Lib.hid hr1;clear hr1
 have HK1:=Lib.hid hk1;clear hk1
 go_wp2
 refine leaves_cons (f:=151) (args:=#[.pointer (some ⟨w.heap.size+1,0,none⟩),.pointer (some ⟨w.heap.size,0,none⟩)]) (by simp) (by simp[go_sem]) ?_
 refine(azm ⟨w.heap.size+1,0,none⟩ ⟨w.heap.size,0,none⟩ _).mono ?_
 rintro e u' w'' ⟨rfl,rfl,rfl⟩
 simp[Leaves,settle,results,Tryz.results127,go_sem]
 have hb1:=HB1.out
 have k2:(w1.setCell ⟨w.heap.size+1,0,none⟩ (.int .i64 n)).cell? ⟨w.heap.size+1,0,none⟩=some (.int .i64 n):=by
  rw[ML (Np w1 (w.heap.size+1) 0 (.int .i64 n) hb1)];rfl
 rw[k2]
 refine⟨_,rfl,rfl,?_,?_⟩
 ·exact HR1.out.kept ((KR.refl (· = w.heap.size+1) _).setCell _ (fun _=>rfl) _) (by omega) (by omega)
 ·refine((((KR.refl (· = p) w).alloc _).alloc _).trans HK1.out (fun _ _ x=>x)).setCell _ (fun h=>?_) _
  exact absurd h (by simp)
set_option maxHeartbeats 400000 in
theorem Yg(p g:Nat)(l:List Nat)(a:Nat)(f:FuncId)(first cap:Array Value)(w:World)(h:N2 w p g l a false)
  (hcf:∀ (A:Array Value) (w:World),(callFunc f A).run Tryz.prog w = .ok (.enter f A) w)
  (hcall:∀ w1,KR (fun _=>False) w w1->Calls Tryz.prog f (first++cap) w1 (SH w1 p g l none)) :
  Calls Tryz.prog 127 #[.pointer (some ⟨p,0,none⟩),.func (.func f) first cap] w (azN w p g l none):=by
 have hmf:∀ (fn:Fn) (first cap:Array Value) (w:World),(Instr.makeFunc fn first cap).run Tryz.prog w = .ok (.func fn first cap) w:=fun _ _ _ _=>rfl
 have hpl:=h.lt.1
 have hgl:=h.lt.2
 have H0:=Lib.hid h;clear h
 have HC:=Lib.hid hcall;clear hcall
 go_enter_defers Tryz.func127,Tryz.ntmps127
 go_wp2_with (fail)
 refine(Uy p g l a false _ ?_).mono ?_
 ·exact(H0.out.kept ((KR.refl (fun _=>False) _).alloc _) id id).kept ((KR.refl (fun _=>False) _).alloc _) id id
 rintro e w1 ⟨rfl,rfl⟩
 go_wp2_with (fail)
 refine(HC.out _ (((KR.refl _ _).alloc _).alloc _)).mono ?_
 rintro e w1 ⟨rfl,⟨a',hr1⟩,hk1⟩
 obtain⟨b0,b1⟩:=U4 w (.pointer (some ⟨p,0,none⟩)) (.int .i64 0) 54 3
 have hb0:=hk1.at b0 (by omega)
 have hb1:=hk1.at b1 (by omega)
 have k0:w1.cell? ⟨w.heap.size,0,none⟩=some (.pointer (some ⟨p,0,none⟩)):=by rw[ML hb0];rfl
 have k1:w1.cell? ⟨w.heap.size+1,0,none⟩=some (.int .i64 0):=by rw[ML hb1];rfl
 have f1:w1.frozen? ⟨w.heap.size+1,0,none⟩=false:=Nm hb1
 obtain⟨-,-,k2,-,f2⟩:=hr1.facts
 have HB1:=Lib.hid hb1
 clear b0 b1 hb0 hb1
 have HR1:=Lib.hid hr1;clear hr1
 have HK1:=Lib.hid hk1;clear hk1
 go_wp2
 refine leaves_cons (f:=151) (args:=#[.pointer (some ⟨w.heap.size+1,0,none⟩),.pointer (some ⟨w.heap.size,0,none⟩)]) (by simp) (by simp[go_sem]) ?_
 refine(VC ⟨w.heap.size+1,0,none⟩ ⟨w.heap.size,0,none⟩ p false _ _ [] _ k1 f1 k0 k2 f2 (by simp;omega)).mono ?_
 rintro e u' w'' ⟨rfl,rfl,rfl⟩
 have hb1:=HB1.out
 have k3:(w1.setCell ⟨w.heap.size+1,0,none⟩ (.int .i64 0)).cell? ⟨w.heap.size+1,0,none⟩=some (.int .i64 0):=by
  rw[ML (Np w1 (w.heap.size+1) 0 (.int .i64 0) hb1)];rfl
 simp[Leaves,settle,results,Tryz.results127,go_sem]
 rw[k3]
 refine⟨_,rfl,rfl,⟨a',?_⟩,?_⟩
 ·exact(HR1.out.kept ((KR.refl (· = w.heap.size+1) _).setCell _ (fun _=>rfl) _) (by omega) (by omega)).setLost true
 ·refine(((((KR.refl (· = p) w).alloc _).alloc _).trans HK1.out (fun _ _ x=>x)).setCell _ (fun h=>?_) _).setCell _ (fun _=>rfl) _
  exact absurd h (by simp)
theorem VA(p g:Nat)(l:List Nat)(a:Nat)(f:FuncId)(first cap:Array Value)(o:Option (Int×Nat))(w:World)(h:N2 w p g l a false)
  (hcf:∀ (A:Array Value) (w:World),(callFunc f A).run Tryz.prog w = .ok (.enter f A) w)
  (hcall:∀ w1,KR (fun _=>False) w w1->Calls Tryz.prog f (first++cap) w1 (SH w1 p g l o)) :
  Calls Tryz.prog 127 #[.pointer (some ⟨p,0,none⟩),.func (.func f) first cap] w (azN w p g l o):=by
 match o,hcall with
 | none,hcall=>exact Yg p g l a f first cap w h hcf hcall
 | some (n,a'),hcall=>exact Yb p g l a f first cap n a' w h hcf hcall
open Go.RowKit
def RI(w:World)(p g:Nat)(l:List Nat)(st:Option Nat):Prop :=
 match st with
 | some a=>a<=8*l.length/\N2 w p g l a false
 | none=>∃ a,N2 w p g l a true
theorem RI.kept{S:Nat->Prop}{w w':World}{p g:Nat}{l:List Nat}{st:Option Nat}(h:RI w p g l st)(k:KR S w w')(hp:¬ S p)(hg:¬ S g):RI w' p g l st:=by
 cases st with
 | none=>obtain⟨a,h⟩:=h;exact⟨a,h.kept k hp hg⟩
 | some a=>exact⟨h.1,h.2.kept k hp hg⟩
theorem RI.lt{w:World}{p g:Nat}{l:List Nat}{st:Option Nat}(h:RI w p g l st):p<w.heap.size/\g<w.heap.size/\g≠p:=by
 cases st with
 | none=>obtain⟨a,h⟩:=h;exact⟨h.lt.1,h.lt.2,h.2.2⟩
 | some a=>exact⟨h.2.lt.1,h.2.lt.2,h.2.2.2⟩
def Ls(rd:Nat->Option (Int×Nat))(st:Option Nat):Int×Option Nat :=
 match st with
 | none=>(0,none)
 | some a=>match rd a with
  | some (n,a')=>(n,some a')
  | none=>(0,none)
def TQ(w:World)(p g:Nat)(l:List Nat)(r:Int×Option Nat)(e:Ending)(w':World):Prop :=
 e = .returned (.int .i64 r.1)/\RI w' p g l r.2/\KR (· = p) w w'
theorem TQ.of_res{w w':World}{p g:Nat}{l:List Nat}{e:Ending}(rd:Nat->Option (Int×Nat))(a:Nat)(hb:∀ n a',rd a=some (n,a')->a'<=8*l.length)(h:azN w p g l (rd a) e w') :
  TQ w p g l (Ls rd (some a)) e w':=by
 cases ho:rd a with
 | none =>
  have e:Ls rd (some a)=(0,none):=by simp[Ls,ho]
  rw[e]
  rw[ho] at h
  exact⟨h.1,h.2.1,h.2.2⟩
 | some na =>
  obtain⟨n,a'⟩:=na
  have e:Ls rd (some a)=(n,some a'):=by simp[Ls,ho]
  rw[e]
  rw[ho] at h
  exact⟨h.1,⟨hb n a' ho,h.2.1⟩,h.2.2⟩
theorem OB(l:List Nat)(a:Nat)(f z:Nat)(n:Int)(a':Nat)(hz:z<=31)(h:PV l a f z=some (n,a')):a'<=8*l.length/\0<=n/\n<4294967296:=by
 induction f generalizing z with
 | zero=>cases h
 | succ f ih =>
  unfold PV at h
  split at h
  ·split at h
   ·split at h
    ·simp only[Option.some.injEq,Prod.mk.injEq] at h
     obtain⟨rfl,rfl⟩:=h
     have h1:=WU l (a+z+1) z
     have h2:(2:Nat) ^ z<=2147483648:=by have:=Nat.pow_le_pow_right (n:=2) (by decide) hz;simpa using this
     have h3:0<(2:Nat) ^ z:=Nat.two_pow_pos z
     omega
    ·cases h
   ·split at h
    ·cases h
    ·exact ih _ (by omega) h
  ·cases h
theorem Tryz.enters_whole(A:Array Value)(w:World):(callFunc 128 A).run Tryz.prog w = .ok (.enter 128 A) w:=by
 exact MuLone.run_callFunc_enter Tryz.func128 (by kernel_rfl) rfl A w
theorem Tryz.enters_signed(A:Array Value)(w:World):(callFunc 155 A).run Tryz.prog w = .ok (.enter 155 A) w:=by
 exact MuLone.run_callFunc_enter Tryz.func155 (by kernel_rfl) rfl A w
def LD(l:List Nat)(most:Int)(a:Nat):Option (Int×Nat) :=
 match MM l a with
 | some (n,a')=>if most<n then none else some (n,a')
 | none=>none
def MV(n:Int):Int:=if n%2=1 then (n+1)/2 else -(n/2)
def L1(l:List Nat)(most:Int)(a:Nat):Option (Int×Nat) :=
 match MM l a with
 | some (n,a')=>if most<MV n\/most < -MV n then none else some (MV n,a')
 | none=>none
theorem azG(n:Int)(h0 : -4294967296<=n)(h1:n<=4294967296)(most:Int):(most<max n (-n))↔(most<n\/most < -n):=by omega
set_option maxHeartbeats 400000 in
theorem aBC(p g:Nat)(l:List Nat)(a:Nat)(k:Int)(bk br:Addr)(w:World)(hl:PA l)(h:N2 w p g l a false)(ha:a<=8*l.length)
  (hk:w.cell? bk=some (.int .i64 k)) (hr:w.cell? br=some (.pointer (some ⟨p,0,none⟩))) (hbk:¬ bk.block=p) :
  Calls Tryz.prog 128 #[.pointer (some br),.pointer (some bk)] w (SH w p g l (LD l k a)):=by
 have H0:=Lib.hid h;clear h
 have HL:=Lib.hid hl;clear hl
 have hkl:=World.block_lt_of_cell? w bk hk
 go_enter Tryz.func128,Tryz.ntmps128
 go_wp2_with (fail)
 refine(Z4 p g l a _ HL.out H0.out ha).mono ?_
 intro e w1 hp
 cases ho:MM l a with
 | none =>
  rw[ho] at hp
  obtain⟨rfl,h2,h3⟩:=hp
  have he:LD l k a=none:=by simp[LD,ho]
  rw[he]
  exact⟨rfl,rfl,h2,h3⟩
 | some na =>
  obtain⟨n,a'⟩:=na
  rw[ho] at hp
  obtain⟨rfl,h2,h3⟩:=hp
  have hb:=OB l a 33 0 n a' (by omega) ho
  obtain⟨-,hn0,hn1⟩:=hb
  have hk1:w1.cell? bk=some (.int .i64 k):=(World.cell?_of_block (h3.block bk.block hkl hbk)).trans hk
  have H2:=Lib.hid h2;clear h2
  have H3:=Lib.hid h3;clear h3
  have HO:=Lib.hid ho;clear ho
  clear hk hr
  by_cases hm:k<n
  ·have he:LD l k a=none:=by simp[LD,HO.out,hm]
   have HE:=Lib.hid he;clear he
   go_wp2_with (go_at_call 130;refine(Sl _).mono ?_;rintro e w' ⟨rfl,rfl⟩)
   refine⟨rfl,?_⟩
   rw[HE.out]
   exact⟨rfl,⟨a',H2.out⟩,H3.out⟩
  ·have he:LD l k a=some (n,a'):=by simp[LD,HO.out,hm]
   have HE:=Lib.hid he;clear he
   go_wp2
   go_ret
   rw[HE.out]
   exact⟨rfl,H2.out,H3.out⟩
set_option maxHeartbeats 400000 in
theorem aDX(p g:Nat)(l:List Nat)(a:Nat)(w:World)(hl:PA l)(h:N2 w p g l a false)(ha:a<=8*l.length) :
  Calls Tryz.prog 156 #[.pointer (some ⟨p,0,none⟩)] w (SH w p g l ((MM l a).map fun x=>(MV x.1,x.2))):=by
 have H0:=Lib.hid h;clear h
 have HL:=Lib.hid hl;clear hl
 go_enter Tryz.func156,Tryz.ntmps156
 go_wp2_with (fail)
 refine(Z4 p g l a _ HL.out H0.out ha).mono ?_
 intro e w1 hp
 cases ho:MM l a with
 | none =>
  rw[ho] at hp
  obtain⟨rfl,h2,h3⟩:=hp
  refine⟨rfl,?_⟩
  rw[ho]
  exact⟨rfl,h2,h3⟩
 | some na =>
  obtain⟨n,a'⟩:=na
  rw[ho] at hp
  obtain⟨rfl,h2,h3⟩:=hp
  have hb:=OB l a 33 0 n a' (by omega) ho
  obtain⟨-,hn0,hn1⟩:=hb
  have H2:=Lib.hid h2;clear h2
  have H3:=Lib.hid h3;clear h3
  have HO:=Lib.hid ho;clear ho
  by_cases hm:n%2=1
  ·have hb:(n%2==1)=true:=by simpa using hm
   have hu:MV n=(n+1)/2:=if_pos hm
   have HU:=Lib.hid hu;clear hu hm
   go_wp2
   go_ret
   rw[HO.out]
   refine⟨?_,H2.out,H3.out⟩
   rw[HU.out];rfl
  ·have hb:(n%2==1)=false:=by simpa using hm
   have hu:MV n = -(n/2):=if_neg hm
   have HU:=Lib.hid hu;clear hu
   have HM:=Lib.hid hm;clear hm
   go_wp2
   go_ret
   rw[HO.out]
   refine⟨?_,H2.out,H3.out⟩
   have e:wrap64 (-n.tdiv 2)=MV n:=by
    rw[HU.out,Int.tdiv_eq_ediv_of_nonneg hn0];unfold wrap64;omega
   show Ending.returned (.int .i64 (wrap64 (-n.tdiv 2)))=_
   rw[e]
theorem Xj(n:Int)(h0:0<=n)(h1:n<4294967296) : -4294967296<=MV n/\MV n<=4294967296:=by unfold MV;split <;> omega
set_option maxHeartbeats 400000 in
theorem aAQ(p g:Nat)(l:List Nat)(a:Nat)(k:Int)(bk br:Addr)(w:World)(hl:PA l)(h:N2 w p g l a false)(ha:a<=8*l.length)
  (hk:w.cell? bk=some (.int .i64 k)) (hr:w.cell? br=some (.pointer (some ⟨p,0,none⟩))) (hbk:¬ bk.block=p) :
  Calls Tryz.prog 155 #[.pointer (some br),.pointer (some bk)] w (SH w p g l (L1 l k a)):=by
 have H0:=Lib.hid h;clear h
 have HL:=Lib.hid hl;clear hl
 have hkl:=World.block_lt_of_cell? w bk hk
 go_enter Tryz.func155,Tryz.ntmps155
 go_wp2_with (fail)
 refine(aDX p g l a _ HL.out H0.out ha).mono ?_
 intro e w1 hp
 cases ho:MM l a with
 | none =>
  rw[ho] at hp
  obtain⟨rfl,h2,h3⟩:=hp
  have he:L1 l k a=none:=by simp[L1,ho]
  rw[he]
  exact⟨rfl,rfl,h2,h3⟩
 | some na =>
  obtain⟨n0,a'⟩:=na
  rw[ho] at hp
  obtain⟨rfl,h2,h3⟩:=hp
  have hb:=OB l a 33 0 n0 a' (by omega) ho
  have hu:=Xj n0 hb.2.1 hb.2.2
  have hk1:w1.cell? bk=some (.int .i64 k):=(World.cell?_of_block (h3.block bk.block hkl hbk)).trans hk
  have H2:=Lib.hid h2;clear h2
  have H3:=Lib.hid h3;clear h3
  have HO:=Lib.hid ho;clear ho
  clear hk hr hb
  have hs:L1 l k a=if k<MV n0\/k < -MV n0 then none else some (MV n0,a'):=by simp only[L1,HO.out]
  have HS:=Lib.hid hs;clear hs
  dsimp only
  generalize MV n0=n at *
  obtain⟨hn0,hn1⟩:=hu
  by_cases hm:k<max n (-n)
  ·have he:L1 l k a=none:=by rw[HS.out,if_pos ((azG n hn0 hn1 k).1 hm)]
   have HE:=Lib.hid he;clear he
   go_wp2_with (go_at_call 130;refine(Sl _).mono ?_;rintro e w' ⟨rfl,rfl⟩)
   refine⟨rfl,?_⟩
   rw[HE.out]
   exact⟨rfl,⟨a',H2.out⟩,H3.out⟩
  ·have he:L1 l k a=some (n,a'):=by rw[HS.out,if_neg (fun x=>hm ((azG n hn0 hn1 k).2 x))]
   have HE:=Lib.hid he;clear he
   go_wp2
   go_ret
   rw[HE.out]
   exact⟨rfl,H2.out,H3.out⟩
theorem ay8(l:List Nat)(k:Int)(a:Nat)(n:Int)(a':Nat)(h:LD l k a=some (n,a')):a'<=8*l.length:=by
 unfold LD at h
 split at h
 ·rename_i m b ho
  split at h
  ·cases h
  ·cases h;exact(OB l a 33 0 _ _ (by omega) ho).1
 ·cases h
theorem Y6(l:List Nat)(k:Int)(a:Nat)(n:Int)(a':Nat)(h:L1 l k a=some (n,a')):a'<=8*l.length:=by
 unfold L1 at h
 split at h
 ·rename_i m b ho
  split at h
  ·cases h
  ·cases h;exact(OB l a 33 0 _ _ (by omega) ho).1
 ·cases h
theorem XR{w w1:World}{x y:Value}{t t':TypeId}(k:KR (fun _=>False) ((w.alloc (.cells #[x] t)).alloc (.cells #[y] t')) w1) :
  w1.cell? ⟨w.heap.size,0,none⟩=some x/\w1.cell? ⟨w.heap.size+1,0,none⟩=some y:=by
 obtain⟨b0,b1⟩:=U4 w x y t t'
 exact⟨by rw[ML (k.at b0 id)];rfl,by rw[ML (k.at b1 id)];rfl⟩
open Go.RowKit
set_option maxHeartbeats 400000 in
theorem ayT(p g:Nat)(l:List Nat)(st:Option Nat)(m:Int)(w:World)(hl:PA l)(h:RI w p g l st) :
  Calls Tryz.prog 96 #[.pointer (some ⟨p,0,none⟩),.int .i64 m] w (TQ w p g l (Ls (LD l m) st)):=by
 have hmf:∀ (fn:Fn) (first cap:Array Value) (w:World),(Instr.makeFunc fn first cap).run Tryz.prog w = .ok (.func fn first cap) w:=fun _ _ _ _=>rfl
 have hpl:=h.lt.1
 have H0:=Lib.hid h;clear h
 have HL:=Lib.hid hl;clear hl
 go_enter Tryz.func96,Tryz.ntmps96
 go_wp2_with (fail)
 have kk:KR (fun _=>False) w ((w.alloc (.cells #[.pointer (some ⟨p,0,none⟩)] 54)).alloc (.cells #[.int .i64 m] 3)):=((KR.refl _ _).alloc _).alloc _
 have HKK:=Lib.hid kk;clear kk
 cases st with
 | none =>
  obtain⟨a,h⟩:=H0.out
  refine(Ut p g l a _ _ (h.kept HKK.out id id)).mono ?_
  rintro e w1 ⟨rfl,hk⟩
  have HK:=Lib.hid (HKK.out.trans hk (fun _ _ x=>x));clear hk h
  go_wp2
  go_ret
  refine⟨rfl,H0.out.kept HK.out id id,HK.out.mono (fun _ _ x=>x.elim)⟩
 | some a =>
  obtain⟨ha,h⟩:=H0.out
  have h1:=h.kept HKK.out id id
  refine(VA p g l a 128 #[] #[.pointer (some ⟨w.heap.size,0,none⟩),.pointer (some ⟨w.heap.size+1,0,none⟩)] (LD l m a) _ h1 Tryz.enters_whole (fun w1 k=>?_)).mono ?_
  ·obtain⟨c0,c1⟩:=XR k
   exact aBC p g l a m ⟨w.heap.size+1,0,none⟩ ⟨w.heap.size,0,none⟩ w1 HL.out (h1.kept k id id) ha c1 c0 (by simp;omega)
  intro e w1 hres
  have hd:=TQ.of_res (LD l m) a (ay8 l m a) hres
  obtain⟨rfl,h2,h3⟩:=hd
  have H2:=Lib.hid h2;clear h2
  have H3:=Lib.hid ((HKK.out.mono (S':=(· = p)) (fun _ _ x=>x.elim)).trans h3 (fun _ _ x=>x));clear h3 hres h ha h1
  go_wp2
  go_ret
  exact⟨rfl,H2.out,H3.out⟩
set_option maxHeartbeats 400000 in
theorem Zi(p g:Nat)(l:List Nat)(st:Option Nat)(m:Int)(w:World)(hl:PA l)(h:RI w p g l st) :
  Calls Tryz.prog 132 #[.pointer (some ⟨p,0,none⟩),.int .i64 m] w (TQ w p g l (Ls (L1 l m) st)):=by
 have hmf:∀ (fn:Fn) (first cap:Array Value) (w:World),(Instr.makeFunc fn first cap).run Tryz.prog w = .ok (.func fn first cap) w:=fun _ _ _ _=>rfl
 have hpl:=h.lt.1
 have H0:=Lib.hid h;clear h
 have HL:=Lib.hid hl;clear hl
 go_enter Tryz.func132,Tryz.ntmps132
 go_wp2_with (fail)
 have kk:KR (fun _=>False) w ((w.alloc (.cells #[.pointer (some ⟨p,0,none⟩)] 54)).alloc (.cells #[.int .i64 m] 3)):=((KR.refl _ _).alloc _).alloc _
 have HKK:=Lib.hid kk;clear kk
 cases st with
 | none =>
  obtain⟨a,h⟩:=H0.out
  refine(Ut p g l a _ _ (h.kept HKK.out id id)).mono ?_
  rintro e w1 ⟨rfl,hk⟩
  have HK:=Lib.hid (HKK.out.trans hk (fun _ _ x=>x));clear hk h
  go_wp2
  go_ret
  refine⟨rfl,H0.out.kept HK.out id id,HK.out.mono (fun _ _ x=>x.elim)⟩
 | some a =>
  obtain⟨ha,h⟩:=H0.out
  have h1:=h.kept HKK.out id id
  refine(VA p g l a 155 #[] #[.pointer (some ⟨w.heap.size,0,none⟩),.pointer (some ⟨w.heap.size+1,0,none⟩)] (L1 l m a) _ h1 Tryz.enters_signed (fun w1 k=>?_)).mono ?_
  ·obtain⟨c0,c1⟩:=XR k
   exact aAQ p g l a m ⟨w.heap.size+1,0,none⟩ ⟨w.heap.size,0,none⟩ w1 HL.out (h1.kept k id id) ha c1 c0 (by simp;omega)
  intro e w1 hres
  have hd:=TQ.of_res (L1 l m) a (Y6 l m a) hres
  obtain⟨rfl,h2,h3⟩:=hd
  have H2:=Lib.hid h2;clear h2
  have H3:=Lib.hid ((HKK.out.mono (S':=(· = p)) (fun _ _ x=>x.elim)).trans h3 (fun _ _ x=>x));clear h3 hres h ha h1
  go_wp2
  go_ret
  exact⟨rfl,H2.out,H3.out⟩
open Go.RowKit
def SP(l:List Nat)(a:Nat):Bool:=decide (a/8+1=l.length/\l.getD (a/8) 0*2 ^ (a%8)%256=128)
set_option maxHeartbeats 400000 in
theorem aCk(p g:Nat)(l:List Nat)(a:Nat)(w:World)(hl:PA l)(h:N2 w p g l a false)(ha:a<=8*l.length) :
  Calls Tryz.prog 64 #[.pointer (some ⟨p,0,none⟩)] w fun e w'=>e = .returned (.bool (SP l a))/\∃ n,w'=w.drewN n:=by
 obtain⟨h0,h1,-,-,-⟩:=h.facts
 have hlen:=hl.2
 by_cases hq:a/8+1=l.length
 ·have hx:=h.byte (a/8) (by omega)
  have hx256:=hl.getD (a/8)
  have he:SP l a=(((l.getD (a/8) 0:Nat):Int)*2 ^ (a%8)%256==128):=by
   have e:((l.getD (a/8) 0:Nat):Int)*2 ^ (a%8)%256=((l.getD (a/8) 0*2 ^ (a%8)%256:Nat):Int):=by simp
   rw[e]
   unfold SP
   by_cases hh:l.getD (a/8) 0*2 ^ (a%8)%256=128
   ·rw[decide_eq_true ⟨hq,hh⟩,hh];rfl
   ·rw[decide_eq_false (fun x=>hh x.2)];exact(beq_eq_false_iff_ne.2 (by omega)).symm
  have HE:=Lib.hid he;clear he
  clear h hl
  generalize hX:l.getD (a/8) 0=x at *
  have HX:=Lib.hid hX;clear hX
  generalize hN:l.length=n at *
  have HN:=Lib.hid hN;clear hN
  have hb:((a:Int)/8==(n:Int)-1)=true:=by simp;omega
  have g1:0<=(n:Int)-1:=by omega
  have g2:(n:Int)-1<n:=by omega
  have g3:((n:Int)-1).toNat=a/8:=by omega
  have HQ:=Lib.hid hq;clear hq
  go_enter Tryz.func64,Tryz.ntmps64
  go_wp2_with (fail)
  go_quiet (fail)
  go_wp2
  go_ret
  exact⟨by rw[HE.out];rfl,⟨_,rfl⟩⟩
 ·have he:SP l a=false:=by unfold SP;exact decide_eq_false (fun x=>hq x.1)
  have HE:=Lib.hid he;clear he
  clear h hl
  generalize hN:l.length=n at *
  have HN:=Lib.hid hN;clear hN
  have hb:((a:Int)/8==(n:Int)-1)=false:=by simp;omega
  have HQ:=Lib.hid hq;clear hq
  go_enter Tryz.func64,Tryz.ntmps64
  go_wp2_with (fail)
  go_quiet (fail)
  go_wp2
  go_ret
  exact⟨by rw[HE.out];rfl,⟨_,rfl⟩⟩
def Pb(l:List Nat)(st:Option Nat):Int :=
 match st with
 | some a=>if SP l a then 0 else 10
 | none=>10
set_option maxHeartbeats 400000 in
theorem aC8(p g:Nat)(l:List Nat)(st:Option Nat)(w:World)(hl:PA l)(h:RI w p g l st) :
  Calls Tryz.prog 31 #[.pointer (some ⟨p,0,none⟩)] w fun e w'=>e = .returned (.int .i64 (Pb l st))/\∃ n,w'=w.drewN n:=by
 have HL:=Lib.hid hl;clear hl
 cases st with
 | none =>
  obtain⟨a,h⟩:=h
  obtain⟨-,-,h2,-,-⟩:=h.facts
  clear h
  go_enter Tryz.func31,Tryz.ntmps31
  go_wp2_with (fail)
  go_ret
  exact⟨rfl,⟨0,rfl⟩⟩
 | some a =>
  obtain⟨ha,h⟩:=h
  obtain⟨-,-,h2,-,-⟩:=h.facts
  have H0:=Lib.hid h;clear h
  go_enter Tryz.func31,Tryz.ntmps31
  go_wp2_with (fail)
  refine(aCk p g l a _ HL.out H0.out ha).mono ?_
  rintro e w1 ⟨rfl,n,rfl⟩
  cases he:SP l a with
  | true =>
   have hd:Pb l (some a)=0:=by simp[Pb,he]
   have HD:=Lib.hid hd;clear hd he
   go_wp2
   go_ret
   exact⟨by rw[HD.out];rfl,⟨_,rfl⟩⟩
  | false =>
   have hd:Pb l (some a)=10:=by simp[Pb,he]
   have HD:=Lib.hid hd;clear hd he
   go_wp2
   go_ret
   exact⟨by rw[HD.out];rfl,⟨_,rfl⟩⟩
def aAk(w:World)(v:Value)(l:List Nat):Prop :=
 ∃ a cap,v = .slice a l.length cap/\(0<l.length->∃ ad,a=some ad/\∀ j u,(LK l)[j]? = some u->w.cell? (ad.add j)=some u)
set_option maxHeartbeats 400000 in
theorem aEo(v:Value)(l:List Nat)(w:World)(hl:l.length<1099511627776)(hs:aAk w v l) :
  Calls Tryz.prog 27 #[v] w fun e w'=>∃ p g,e = .returned (.pointer (some ⟨p,0,none⟩))/\RI w' p g l (some 0)/\w.heap.size<=p/\w.heap.size<=g/\KR (fun _=>False) w w':=by
 obtain⟨a,cap,rfl,hsrc⟩:=hs
 have HS:=Lib.hid hsrc;clear hsrc
 generalize hN:l.length=n at *
 have HN:=Lib.hid hN;clear hN
 have hmk:=fun wx:World=>run_make_row' (P:=Tryz.prog) 26 5 (.int .u8 0) 1 Tryz.underlying26 Tryz.info_u8 rfl .i64 .i64 n (by omega) (by omega) wx
 go_enter Tryz.func27,Tryz.ntmps27
 go_wp2_with (with_reducible refine wpList_copy_splice rfl (.tmp 7) (.tmp 8) 26 26 rfl 5 Tryz.underlying26 Tryz.size_u8 _ _ _ _ _ _ rfl rfl w.heap.size 0 (List.replicate n (.int .u8 0)) 5 ?hg (LK l) ?hn ?hpos ?hfit (U6 _) w.heap.size w ?hb (Nat.le_refl _) ?_)
 case hg=>rw[Xl];exact heap_alloc_new w _
 case hn=>rw[LI,HN.out];simp
 case hpos =>
  intro h
  rw[LI,HN.out] at h
  obtain⟨ad,rfl,hc⟩:=HS.out h
  refine⟨ad,rfl,fun j u hj=>?_⟩
  have hc':=hc j u hj
  have hlt:(ad.add j).block<w.heap.size:=World.block_lt_of_cell? w _ hc'
  rw[← hc']
  exact World.cell?_of_block (Below.heap_alloc _ _ _ hlt)
 case hfit=>rw[LI,HN.out];simp
 case hb=>exact(Below.refl _ _).alloc (Nat.le_refl _) _
 intro w2 HG2 hB2
 have HB:=Lib.hid hB2;clear hB2
 have hsz:=M5 HG2.out
 go_wp2
 go_ret
 refine⟨w2.heap.size,w.heap.size,rfl,⟨Nat.zero_le _,?_,?_,by omega⟩,by omega,Nat.le_refl _,(Below.kept HB.out).alloc _⟩
 ·rw[HN.out];exact heap_alloc_new w2 _
 ·rw[Below.heap_alloc _ _ _ hsz,HG2.out,Yj _ _ (by rw[LI,HN.out];simp)]
theorem aC0(p g:Nat)(l:List Nat)(st:Option Nat)(w:World)(h:RI w p g l st) :
  Calls Tryz.prog 98 #[.pointer (some ⟨p,0,none⟩)] w fun e w'=>e = .returned (.bool st.isNone)/\w=w':=by
 cases st with
 | none=>obtain⟨a,h⟩:=h;exact Uy p g l a true w h
 | some a=>exact Uy p g l a false w h.2
open Go.RowKit
theorem Xr(m:Nat)(h0:m≠0)(h:m<=2147483648):(Sj m).length=2*Lib.bitLen m-1:=by
 have:=S8 m h0 h
 simp[Sj,O1];omega
theorem aDI(m j:Nat)(h0:m≠0)(h:m<2 ^ 64):(0<(m:Int)/2 ^ j)↔j<Lib.bitLen m:=by
 obtain⟨b1,b2,b3⟩:=P4 m h0 h
 have e:(m:Int)/2 ^ j=((m/2 ^ j:Nat):Int):=by simp
 rw[e]
 have hp:=Nat.two_pow_pos j
 constructor
 ·intro h
  apply Nat.lt_of_not_le
  intro hle
  have h1:(2:Nat) ^ Lib.bitLen m<=2 ^ j:=Nat.pow_le_pow_right (by decide) hle
  have h2:m/2 ^ j=0:=Nat.div_eq_of_lt (by omega)
  rw[h2] at h;omega
 ·intro hlt
  have h1:(2:Nat) ^ j<=2 ^ (Lib.bitLen m-1):=Nat.pow_le_pow_right (by decide) (by omega)
  have h2:=Nat.div_pos (show 2 ^ j<=m by omega) hp
  omega
open Go.RowKit
def chr(b:Bool):UInt8:=if b then 49 else 48
def Mg(bs:List Bool):ByteArray:=⟨(bs.map chr).toArray⟩
theorem Ng(bs:List Bool):(Mg bs).size=bs.length:=by simp[Mg,ByteArray.size]
theorem Nr(a b:List Bool):Mg a++Mg b=Mg (a++b):=by
 unfold Mg;rw[Go.ByteArray.mk_append_mk,List.map_append]
theorem aA1(a:List Bool):Mg a ++ { data:=#[49] }=Mg (a ++ [true]):=Nr a [true]
theorem XH(a:List Bool):Mg a ++ { data:=#[48] }=Mg (a ++ [false]):=Nr a [false]
set_option maxHeartbeats 400000 in
theorem aBc(n:Int)(k:Nat)(w:World)(hk:k<=32) :
  Calls Tryz.prog 53 #[.int .i64 n,.int .i64 (k:Int)] w fun e w'=>e = .returned (.string (Mg (MN n k)))/\w=w':=by
 go_enter Tryz.func53,Tryz.ntmps53
 go_wp2_with (fail)
 go_loop [5,6] (fun s i=>∃ (j:Nat) (done:List Bool),j<=k/\i = .int .i64 ((j:Int)-1)/\s = .string (Mg done)/\done.length+j=k/\done++MN n j=MN n k) (fun _ i=>(intOf i+1).toNat)
 case atStart=>exact⟨k,[],Nat.le_refl _,rfl,rfl,by simp,rfl⟩
 case round =>
  obtain⟨j,done,hj,rfl,rfl,hl,hd⟩:=hrel
  have HD:=Lib.hid hd;clear hd
  have hsz:=Ng done
  cases j with
  | zero =>
   go_wp2
   go_ret
   have e:done=MN n k:=by simpa [MN] using HD.out
   subst e
   exact⟨rfl,rfl⟩
  | succ j =>
   cases hb:S2 (n/2 ^ j) with
   | true =>
    have ht:(bits BinOp.and IntKind.i64 (n/2 ^ j) 1==1)=true:=by rw[ZP];simpa [S2] using hb
    have HB:=Lib.hid hb;clear hb
    go_wp2
    go_round
    case rel=>exact⟨j,done ++ [true],by omega,rfl,by rw[aA1],by simp;omega,by rw[List.append_assoc,← HB.out];exact HD.out⟩
    case measure=>simp[intOf]
   | false =>
    have ht:(bits BinOp.and IntKind.i64 (n/2 ^ j) 1==1)=false:=by rw[ZP];simpa [S2] using hb
    have HB:=Lib.hid hb;clear hb
    go_wp2
    go_round
    case rel=>exact⟨j,done ++ [false],by omega,rfl,by rw[XH],by simp;omega,by rw[List.append_assoc,← HB.out];exact HD.out⟩
    case measure=>simp[intOf]
theorem Tu(n k:Int)(w:World)(h0:0<=k)(h1:k<=32) :
  Calls Tryz.prog 53 #[.int .i64 n,.int .i64 k] w fun e w'=>e = .returned (.string (Mg (MN n k.toNat)))/\w=w':=by
 obtain⟨j,rfl⟩:=Int.eq_ofNat_of_zero_le h0
 exact aBc n j w (by omega)
set_option maxHeartbeats 400000 in
theorem aA5(n:Int)(w:World) :
  Calls Tryz.prog 21 #[.int .i64 n] w fun e w'=>e = .returned (.string (Mg (LT n)))/\w=w':=by
 have hc0:0<=min (max n 0) 2147483647:=by omega
 have hc1:min (max n 0) 2147483647<=2147483647:=by omega
 have hcw:(M2 n:Int)=min (max n 0) 2147483647:=by unfold M2;omega
 have hwb:LT n=MN 0 (Lib.bitLen (M2 n+1)-1)++MN ((M2 n+1:Nat):Int) (Lib.bitLen (M2 n+1)):=rfl
 have hcl:=Xo n
 have hL:=S8 (M2 n+1) (by omega) (by omega)
 have hsp:=fun j:Nat=>aDI (M2 n+1) j (by omega) (by omega)
 have HSP:=Lib.hid hsp;clear hsp
 have HWB:=Lib.hid hwb;clear hwb
 generalize M2 n=c at *
 generalize Lib.bitLen (c+1)=L at *
 obtain⟨hL1,hL2⟩:=hL
 rw[show ((c+1:Nat):Int)=(c:Int)+1 by omega] at HWB HSP
 go_enter Tryz.func21,Tryz.ntmps21
 go_wp2_with (fail)
 rw[← hcw]
 clear hcw hc0 hc1
 go_loop [4] (fun s=>∃ j:Nat,j<=L/\s = .int .i64 (j:Int)) (fun s=>L-(intOf s).toNat)
 case atStart=>exact⟨0,by omega,rfl⟩
 case round =>
  obtain⟨j,hj,rfl⟩:=hrel
  have hsp:=HSP.out j
  by_cases hlt:j<L
  ·have ht:=hsp.2 hlt
   clear hsp
   go_wp2
   go_round
   case rel=>exact⟨j+1,by omega,by go_num⟩
   case measure=>simp[intOf];omega
  ·have ht:((c:Int)+1)/2 ^ j<=0:=by have:=mt hsp.1 hlt;omega
   clear hsp
   have ej:j=L:=by omega
   subst ej
   go_wp2_with (fail)
   refine(Tu 0 ((j:Int)-1) _ (by omega) (by omega)).mono ?_
   rintro e w' ⟨rfl,rfl⟩
   have h1:(Mg (MN 0 ((j:Int)-1).toNat)).size<=40:=by rw[Ng,O1];omega
   generalize hX:Mg (MN 0 ((j:Int)-1).toNat)=X at *
   have HX:=Lib.hid hX;clear hX
   go_wp2_with (fail)
   refine(Tu _ (j:Int) _ (by omega) (by omega)).mono ?_
   rintro e w' ⟨rfl,rfl⟩
   have h2:(Mg (MN ((c:Int)+1) (j:Int).toNat)).size<=40:=by rw[Ng,O1];omega
   generalize hY:Mg (MN ((c:Int)+1) (j:Int).toNat)=Y at *
   have HY:=Lib.hid hY;clear hY
   go_wp2
   go_ret
   refine⟨?_,rfl⟩
   show Ending.returned (.string (X++Y))=_
   rw[← HX.out,← HY.out,Nr,HWB.out]
   have e2:((j:Int)-1).toNat=j-1:=by omega
   rw[e2,Int.toNat_natCast]
set_option maxHeartbeats 400000 in
theorem aDt(n:Nat)(w:World)(hn:n<1099511627776) :
  Calls Tryz.prog 23 #[.int .i64 (n:Int)] w fun e w'=>e = .returned (.string (Mg (Ln n)))/\w=w':=by
 go_enter Tryz.func23,Tryz.ntmps23
 go_wp2_with (fail)
 go_loopg [3] (7-n%8) (fun k s wr=>w=wr/\∃ j:Nat,j+k=7-n%8/\s = .string (Mg (true::List.replicate j false)))
 case atStart=>exact⟨rfl,0,by omega,rfl⟩
 case round =>
  obtain⟨rfl,j,hj,rfl⟩:=hrel
  have hsz:=Ng (true::List.replicate j false)
  have hsz':(Mg (true::List.replicate j false)).size=j+1:=by rw[hsz];simp
  clear hsz
  have HJ:=Lib.hid hj
  have hj7:j<=7:=by omega
  by_cases h8:gk=0
  ·have hb:(((n:Int)+((j:Int)+1))%8 != 0)=false:=by simp;omega
   clear hj
   go_wp2
   go_ret
   have ej:j=7-n%8:=by have:=HJ.out;omega
   subst ej
   exact⟨rfl,rfl⟩
  ·have hb:(((n:Int)+((j:Int)+1))%8 != 0)=true:=by simp;omega
   clear hj
   go_wp2
   go_roundg (gk-1)
   case measure=>omega
   case rel=>exact⟨rfl,j+1,by have:=HJ.out;omega,by rw[XH,List.replicate_succ'];rfl⟩
open Go.RowKit
theorem MG.slice{w:World}{v:Value}{l:List Nat}(h:MG w v l):aAk w v l:=by
 obtain⟨a,cap,rfl,-,-,-,hl,hc⟩:=h
 refine⟨a,cap,rfl,fun hpos=>?_⟩
 obtain⟨b,off,rfl,hb,hcell⟩:=hc hpos
 refine⟨⟨b,off,none⟩,rfl,fun j u hj=>?_⟩
 have hjl:j<l.length:=by
  have:=(List.getElem?_eq_some_iff.1 hj).1
  rwa [LI] at this
 rw[Addr.add_lit,hcell j hjl]
 rw[← hj];simp[LK,List.getD,hjl]
theorem MG.fair{w:World}{v:Value}{l:List Nat}(h:MG w v l)(hl:l.length<1099511627776):PA l:=by
 exact⟨h.lt256,hl⟩
open Go.RowKit
theorem Xa(k:Nat):MN 0 k=List.replicate k false:=by
 induction k with
 | zero=>rfl
 | succ k ih=>rw[MN,ih,List.replicate_succ];simp[S2]
theorem azd(a:Nat):S2 (a:Int)=decide (a%2=1):=by
 unfold S2
 have:((a:Int)%2=1)↔(a%2=1):=by omega
 simp only[this]
theorem YS(m:Nat)(h0:m≠0)(h:m<2 ^ 64):Sj m=List.replicate (Lib.bitLen m-1) false++true::MN (m:Int) (Lib.bitLen m-1):=by
 obtain⟨b1,b2,b3⟩:=P4 m h0 h
 unfold Sj
 rw[Xa]
 congr 1
 generalize Lib.bitLen m=L at *
 obtain⟨k,rfl⟩:∃ k,L=k+1:=⟨L-1,by omega⟩
 simp only[Nat.add_sub_cancel] at *
 rw[MN]
 congr 1
 have e:(m:Int)/2 ^ k=((m/2 ^ k:Nat):Int):=by simp
 have h1:m/2 ^ k=1:=by
  rw[Nat.pow_succ] at b3
  exact Nat.div_eq_of_lt_le (by omega) (by omega)
 rw[e,h1];rfl
def QY(n:Int):Nat:=if 0<n then (2*n-1).toNat else (-2*n).toNat
theorem VL(n:Int)(h0 : -536870912<n)(h1:n<536870912):M4 n=Sj (QY n+1)/\QY n<1073741824:=by
 have hc:Qg n=n:=by unfold Qg;omega
 unfold M4 QY
 rw[hc]
 split
 ·have e:M2 (2*n-1)=(2*n-1).toNat:=by unfold M2;omega
  exact⟨by unfold LT;rw[e],by omega⟩
 ·have e:M2 (-2*n)=(-2*n).toNat:=by unfold M2;omega
  exact⟨by unfold LT;rw[e],by omega⟩
theorem WV(bs:List Bool):∀ x∈Mi bs,x<256:=by
 intro x hx
 obtain⟨i,_,rfl⟩:=List.mem_map.1 hx
 exact aAV _
open Go.RowKit
def P9(f:Nat->Bool):Nat->Nat
 | 0=>0
 | k+1=>2*P9 f k+(f k).toNat
theorem Wg(f:Nat->Bool):P9 f 8=Ry f:=by
 simp only[P9,Ry];omega
theorem Zh(f:Nat->Bool)(k:Nat):P9 f k<2 ^ k:=by
 induction k with
 | zero=>simp[P9]
 | succ k ih=>have:=My (f k);simp only[P9,Nat.pow_succ];omega
theorem V6(f:Nat->Bool)(k:Nat)(h:k<=8):P9 f k<256 :=
 Nat.lt_of_lt_of_le (Zh f k) (by have:=Nat.pow_le_pow_right (n:=2) (by decide) h;simpa using this)
def Y2(bs:List Bool)(q t:Nat):Bool:=bs.getD (8*q+t) false
def US(bs:List Bool)(q j:Nat):Nat:=P9 (Y2 bs q) j
theorem aFd(bs:List Bool)(i:Nat)(h:i<(Mg bs).size):((((Mg bs)[i]'h).toNat:Int)==49)=bs.getD i false:=by
 have hi:i<bs.length:=by rwa [Ng] at h
 have e:(Mg bs)[i]'h=chr bs[i]:=by
  show ((bs.map chr).toArray)[i]'(by simpa using hi)=_
  simp
 rw[e]
 simp only[List.getD,List.getElem?_eq_getElem hi,Option.getD_some]
 cases bs[i] <;> rfl
def aCK(w:World)(v:Value):Prop:=v.ownBlock=none\/∃ g,v.ownBlock=some g/\w.heap.size<=g
theorem WR(bs:List Bool)(q:Nat)(h:q<Om bs.length):(Mi bs).take (q+1)=(Mi bs).take q ++ [Ry fun j=>bs.getD (8*q+j) false]:=by
 rw[List.take_succ_eq_append_getElem (by rw[N8];exact h)]
 congr 2
 simp[Mi]
set_option maxHeartbeats 2000000 in
theorem aA2(bs:List Bool)(w:World)(hm:bs.length<1000000) :
  Calls Tryz.prog 22 #[.string (Mg bs)] w fun e w'=>∃ v,e = .returned v/\w'.ownsRow 0 5 1 v (Mi bs).length (LK (Mi bs))/\aCK w v/\KR (fun _=>False) w w':=by
 obtain⟨i0,hi,hz0,hz1,hz2⟩:=info_parts Tryz.info_u8
 have HI:=Lib.hid hi;have HZ0:=Lib.hid hz0;have HZ1:=Lib.hid hz1;have HZ2:=Lib.hid hz2;clear hi hz0 hz1 hz2
 have hsz:=Ng bs
 have hnb:Om bs.length<=1000000:=by unfold Om;omega
 have hnb2:∀ q,8*q<bs.length↔q<Om bs.length:=by intro q;unfold Om;omega
 have HNB:=Lib.hid hnb2;clear hnb2
 go_enter Tryz.func22,Tryz.ntmps22
 go_wp2_with (fail)
 go_loopw [3,4] (fun o i wr=>∃ q:Nat,q<=Om bs.length/\i = .int .i64 (8*(q:Int))/\wr.ownsRow 0 5 1 o q (LK ((Mi bs).take q))/\aCK w o/\KR (fun _=>False) w wr) (fun _ i _=>9000000-(intOf i).toNat)
 case atStart=>exact⟨0,by omega,rfl,World.ownsRow_nil _ _ _ _,.inl rfl,KR.refl _ _⟩
 case round =>
  obtain⟨q,hq,rfl,hown,hfr,hkp⟩:=hrel
  have HW:=Lib.hid hown;have HF:=Lib.hid hfr;have HK:=Lib.hid hkp;clear hown hfr hkp
  have hq2:=HNB.out q
  by_cases hlt:q<Om bs.length
  ·have h8:8*q<bs.length:=hq2.2 hlt
   clear hq2
   have hd:decide (8*(q:Int)<(bs.length:Int))=true:=by simp;omega
   go_wp2_with (fail)
   go_loopg [5,6] 8 (fun gg x k wx=>wr=wx/\∃ j:Nat,j+gg=8/\k = .int .i64 (j:Int)/\x = .int .i64 (US bs q j:Int))
   case atStart=>exact⟨rfl,0,by omega,rfl,rfl⟩
   case round =>
    obtain⟨rfl,j,hj,rfl,rfl⟩:=hrel
    have hbu:US bs q j<256:=V6 (Y2 bs q) j (by omega)
    have hsu:US bs q (j+1)=2*US bs q j+(Y2 bs q j).toNat:=rfl
    have HSU:=Lib.hid hsu;clear hsu
    have HJ:=Lib.hid hj
    by_cases hj8:j<8
    ·by_cases hin:8*q+j<bs.length
     ·have hch:=aFd bs (8*q+j) (by rw[hsz];exact hin)
      have e0:bs.getD (8*q+j) false=Y2 bs q j:=rfl
      rw[e0] at hch
      clear e0 hj
      cases hb:Y2 bs q j with
      | true =>
       rw[hb] at hch
       have HB:=Lib.hid hb;clear hb
       go_wp2
       go_roundg (gk-1)
       case measure=>have:=HJ.out;omega
       case rel=>exact⟨rfl,j+1,by have:=HJ.out;omega,by go_num,by rw[HSU.out,HB.out];go_num⟩
      | false =>
       rw[hb] at hch
       have HB:=Lib.hid hb;clear hb
       go_wp2
       go_roundg (gk-1)
       case measure=>have:=HJ.out;omega
       case rel=>exact⟨rfl,j+1,by have:=HJ.out;omega,by go_num,by rw[HSU.out,HB.out];go_num⟩
     ·have hb:Y2 bs q j=false:=by unfold Y2;rw[List.getD,List.getElem?_eq_none (by omega)];rfl
      have HB:=Lib.hid hb;clear hb hj
      go_wp2
      go_roundg (gk-1)
      case measure=>have:=HJ.out;omega
      case rel=>exact⟨rfl,j+1,by have:=HJ.out;omega,by go_num,by rw[HSU.out,HB.out];go_num⟩
    ·have ej:j=8:=by omega
     clear HJ HSU hj
     subst ej
     have hb8:US bs q 8=Ry fun t=>bs.getD (8*q+t) false:=Wg (Y2 bs q)
     have HB8:=Lib.hid hb8;clear hb8
     generalize US bs q 8=x at *
     go_wp2_with (at_builtin;refine Tn _ rfl (.tmp 35) (.tmp 38) 26 rfl 5 i0 (.int .u8 0) 1 1 Tryz.underlying26 HI.out HZ0.out HZ1.out HZ2.out rfl (by decide) _ _ _ rfl (HW.out.alloc _) ⟨wr.heap.size,0,none⟩ 1 1 [.int .u8 (x:Int)] rfl rfl ?c1 ?c2 ?b1 ?b2 ?_)
     case c1=>intro t u hj;match t,hj with|0,hj=>simp at hj;subst hj;simp[Addr.add]
     case c2=>intro u hu;simp at hu;subst hu;rfl
     case b1=>unfold maxLen;omega
     case b2=>omega
     intro v1 w1 hown hgr hwh
     have hk1:KR (fun _=>False) w w1:=(HK.out.alloc _).grown hgr (fun k hk hlt=>by
      rcases HF.out with h | ⟨g,h,hg⟩
      ·rw[h] at hk;cases hk
      ·rw[h] at hk;cases hk;omega)
     have hf1:aCK w v1:=by
      rcases hwh with h | ⟨g,h,hg⟩
      ·rcases HF.out with h2 | ⟨g2,h2,hg2⟩
       ·exact .inl (h.trans h2)
       ·exact .inr ⟨g2,h.trans h2,hg2⟩
      ·have:=HK.out.size;exact .inr ⟨g,h,by omega⟩
     have hro:w1.ownsRow 0 5 1 v1 (q+1) (LK ((Mi bs).take (q+1))):=by
      rw[WR bs q hlt,Sw,← HB8.out];exact hown
     have RO:=Lib.hid hro;have F1:=Lib.hid hf1;have K1:=Lib.hid hk1
     clear hro hf1 hk1 hown hgr hwh
     go_wp2
     go_roundw
     case rel=>exact⟨q+1,by omega,by go_num,RO.out,F1.out,K1.out⟩
     case measure=>simp[intOf];omega
  ·have h8:bs.length<=8*q:=by have:=mt hq2.1 hlt;omega
   clear hq2
   go_wp2
   go_ret
   have eq:q=Om bs.length:=by omega
   subst eq
   refine⟨_,rfl,?_,HF.out,HK.out⟩
   have e:(Mi bs).take (Om bs.length)=Mi bs:=List.take_of_length_le (by rw[N8];exact Nat.le_refl _)
   have:=HW.out
   rw[e] at this
   rw[N8];exact this
open Go.RowKit
def Rz(l:List Nat):List Bool:=(List.range (8*l.length)).map (Oq l)
theorem Pi(l:List Nat):(Rz l).length=8*l.length:=by simp[Rz]
theorem Z6(l:List Nat)(i:Nat)(h:i<8*l.length):(Rz l).getD i false=Oq l i:=by simp[Rz,List.getD,h]
def aFA(w:World)(x:Nat)(l:List Nat)(a:Nat)(lost:Bool):Prop :=
 w.heap[x]? = some (.cells #[.string (Mg (Rz l)),.int .i64 (a:Int),.bool lost] 80 (0,0))
def aGl(w:World)(x:Nat)(l:List Nat)(st:Option Nat):Prop :=
 match st with
 | some a=>a<=8*l.length/\aFA w x l a false
 | none=>∃ a,a<=8*l.length/\aFA w x l a true
open Go.RowKit
theorem SX(l:List Nat)(a k:Nat):Ou l a (k+1)=(Oq l a).toNat*2 ^ k+Ou l (a+1) k:=by
 induction k with
 | zero=>simp[Ou]
 | succ k ih =>
  have e:Ou l a (k+2)=2*Ou l a (k+1)+(Oq l (a+(k+1))).toNat:=rfl
  have e2:Ou l (a+1) (k+1)=2*Ou l (a+1) k+(Oq l (a+1+k)).toNat:=rfl
  rw[e,ih,e2,show a+(k+1)=a+1+k by omega,Nat.pow_succ]
  have:(Oq l a).toNat*(2 ^ k*2)=2*((Oq l a).toNat*2 ^ k):=by rw[← Nat.mul_assoc];omega
  omega
theorem Xs(l:List Nat)(a:Nat):∀ z,z<=31->a+z<=8*l.length->(∀ i,i<z->Oq l (a+i)=false)->MM l a=PV l a (33-z) z:=by
 intro z
 induction z with
 | zero=>intro _ _ _;rfl
 | succ z ih =>
  intro hz ha h0
  rw[ih (by omega) (by omega) (fun i hi=>h0 i (by omega))]
  have e:33-z=(33-(z+1))+1:=by omega
  rw[e]
  show (if a+z<8*l.length then _ else none)=_
  rw[if_pos (by omega),h0 z (by omega),if_neg (show ¬ 31<z+1 by omega)]
  simp
theorem Zj(l:List Nat)(a z:Nat)(hz:z<=31)(ha:a+z<8*l.length)(h1:Oq l (a+z)=true)(h0:∀ i,i<z->Oq l (a+i)=false) :
  MM l a=if a+z+(z+1)<=8*l.length then some ((Ou l (a+z) (z+1):Int)-1,a+z+(z+1)) else none:=by
 rw[Xs l a z hz (by omega) h0]
 have e:33-z=(32-z)+1:=by omega
 rw[e]
 show (if a+z<8*l.length then (if Oq l (a+z) then (if a+z+1+z<=8*l.length then _ else none) else _) else none)=_
 rw[if_pos ha,h1,if_pos rfl,SX,h1]
 by_cases hf:a+z+1+z<=8*l.length
 ·rw[if_pos hf,if_pos (by omega)];simp;omega
 ·rw[if_neg hf,if_neg (by omega)]
def Nn(l:List Nat)(a:Nat)(bs:List Bool):Prop:=a+bs.length<=8*l.length/\∀ i,i<bs.length->Oq l (a+i)=bs.getD i false
theorem Nn.left{l:List Nat}{a:Nat}{x y:List Bool}(h:Nn l a (x++y)):Nn l a x:=by
 refine⟨by have:=h.1;simp at this;omega,fun i hi=>?_⟩
 rw[h.2 i (by simp;omega),List.getD_eq_getElem?_getD,List.getD_eq_getElem?_getD,List.getElem?_append_left hi]
theorem Nn.right{l:List Nat}{a:Nat}{x y:List Bool}(h:Nn l a (x++y)):Nn l (a+x.length) y:=by
 refine⟨by have:=h.1;simp at this;omega,fun i hi=>?_⟩
 rw[Nat.add_assoc,h.2 (x.length+i) (by simp;omega),List.getD_eq_getElem?_getD,List.getD_eq_getElem?_getD,List.getElem?_append_right (by omega),Nat.add_sub_cancel_left]
theorem ZQ(bs:List Bool):Nn (Mi bs) 0 bs:=by
 have h8:bs.length<=8*Om bs.length:=by unfold Om;omega
 refine⟨by rw[N8];omega,fun i hi=>?_⟩
 rw[Nat.zero_add,Z0 bs i (by omega)]
theorem azs(l:List Nat)(m:Nat):∀ (k a:Nat),Nn l a (MN (m:Int) k)->Ou l a k=m%2 ^ k:=by
 intro k
 induction k with
 | zero=>intro a _;simp[Ou,Nat.mod_one]
 | succ k ih =>
  intro a h
  have h1:Nn l a ([S2 ((m:Int)/2 ^ k)]++MN (m:Int) k):=h
  have h2:=ih (a+1) h1.right
  have h3:=h1.2 0 (by simp)
  simp only[Nat.add_zero,List.cons_append,List.nil_append,List.getD_cons_zero] at h3
  rw[SX,h2,h3]
  have e:(m:Int)/2 ^ k=((m/2 ^ k:Nat):Int):=by simp
  rw[e,azd]
  have e2:(decide (m/2 ^ k%2=1)).toNat=m/2 ^ k%2:=by
   rcases Nat.mod_two_eq_zero_or_one (m/2 ^ k) with h|h <;> simp[h]
  rw[e2,Nat.pow_succ,Nat.mod_mul,Nat.mul_comm (2 ^ k)]
  omega
theorem SZ(l:List Nat)(a m:Nat)(h0:m≠0)(h:m<=2147483648)(hb:Nn l a (Sj m)):MM l a=some ((m:Int)-1,a+(Sj m).length):=by
 obtain⟨b1,b2,b3⟩:=P4 m h0 (by omega)
 have b4:=(S8 m h0 h).2
 have hl:=Xr m h0 h
 rw[YS m h0 (by omega)] at hb
 generalize hz:Lib.bitLen m=L at *
 obtain⟨z,rfl⟩:∃ z,L=z+1:=⟨L-1,by omega⟩
 simp only[Nat.add_sub_cancel] at *
 have hzb:∀ i,i<z->Oq l (a+i)=false:=fun i hi=>by
  have:=hb.left.2 i (by simpa using hi)
  rw[this,List.getD_eq_getElem?_getD];simp[hi]
 have hr:=hb.right
 rw[List.length_replicate] at hr
 have h1:Oq l (a+z)=true:=by have:=hr.2 0 (by simp);simpa using this
 have hl2:=hr.1
 simp only[List.length_cons,O1] at hl2
 have hr2:Nn l (a+z) ([true]++MN (m:Int) z):=hr
 have hv:=azs l m z (a+z+1) hr2.right
 rw[Zj l a z (by omega) (by omega) h1 hzb,if_pos (by omega),SX,h1,hv]
 have e:m%2 ^ z=m-2 ^ z:=by
  rw[Nat.mod_eq_sub_mod b2,Nat.mod_eq_of_lt (by rw[Nat.pow_succ] at b3;omega)]
 rw[e,hl]
 simp only[Bool.toNat_true,Nat.one_mul,Option.some.injEq,Prod.mk.injEq]
 omega
theorem RY(l:List Nat)(a:Nat)(n most:Int)(h0:0<=n)(h1:n<=2147483647)(h2:n<=most)(hb:Nn l a (LT n)):LD l most a=some (n,a+(LT n).length):=by
 have e:LT n=Sj (n.toNat+1):=by unfold LT;rw[show M2 n=n.toNat by unfold M2;omega]
 rw[e] at hb ⊢
 unfold LD
 rw[SZ l a _ (by omega) (by omega) hb]
 simp only
 rw[if_neg (by omega)]
 congr 2;omega
theorem Zv(n:Int):MV ((QY n:Int))=n:=by
 unfold MV QY
 split <;> split <;> omega
theorem Tv(l:List Nat)(a:Nat)(n most:Int)(h0 : -536870912<n)(h1:n<536870912)(h2:n<=most)(h3 : -n<=most)(hb:Nn l a (M4 n)):L1 l most a=some (n,a+(M4 n).length):=by
 obtain⟨e,h4⟩:=VL n h0 h1
 rw[e] at hb ⊢
 unfold L1
 rw[SZ l a _ (by omega) (by omega) hb]
 simp only
 rw[show ((QY n+1:Nat):Int)-1=(QY n:Int) by omega,Zv,if_neg (by omega)]
def aGt:List Nat:=[0,1,4,8,5,2,3,6,9,12,13,10,7,11,14,15]
def Xm(i:Nat):Nat:=aGt.getD i 0
def aCS:Nat->Int:=fun i=>(Xm i:Int)
theorem aFi:∀ i,i<16->Xm i<16:=by decide
theorem aEs:∀ i,i<16->∀ j,j<16->Xm i=Xm j->i=j:=by decide
theorem aDc:∀ k,k<16->∃ i,i<16/\Xm i=k:=by decide
def lvl(b:Nat->Int)(i:Nat):Int:=cl 1048576 (b (Xm i))
def W2(b:Nat->Int):List Int:=(List.range 16).map (lvl b)
def Ru:Nat->List Int->List (Nat×Int)
 | _,[]=>[]
 | z,x::xs=>if x=0 then Ru (z+1) xs else (z,x)::Ru 0 xs
def R5:List (Nat×Int)->List Bool
 | []=>[]
 | p::r=>LT p.1++M4 p.2++R5 r
def RV(b:Nat->Int):List Bool:=LT (Ru 0 (W2 b)).length++R5 (Ru 0 (W2 b))
theorem Za(xs:List Int):∀ z,(Ru z xs).length<=xs.length:=by
 induction xs with
 | nil=>intro z;simp[Ru]
 | cons x xs ih =>
  intro z
  unfold Ru
  split
  ·have:=ih (z+1);simp;omega
  ·have:=ih 0;simp;omega
def Ri(l:List Nat)(at_:Nat)(st:Option Nat):Nat×Int×Option Nat :=
 (at_+(Ls (LD l 15) st).1.toNat,Ls (L1 l 1048576) (Ls (LD l 15) st).2)
def Ss(r:Nat×Int×Option Nat):Prop:=r.2.2.isNone=true\/15<r.1\/r.2.1=0
instance (r:Nat×Int×Option Nat):Decidable (Ss r):=by unfold Ss;infer_instance
def TV(l:List Nat):Nat->Nat->(Nat->Int)->Option Nat->(Nat->Int)×Int×Option Nat
 | 0,_,b,st=>if st.isNone=true then (fun _=>0,60,st) else (b,0,st)
 | k+1,at_,b,st=>if Ss (Ri l at_ st) then (fun _=>0,60,(Ri l at_ st).2.2) else TV l k ((Ri l at_ st).1+1) (Vo b (Xm (Ri l at_ st).1) (Ri l at_ st).2.1) (Ri l at_ st).2.2
def LV(l:List Nat)(st:Option Nat):(Nat->Int)×Int×Option Nat:=TV l (Ls (LD l 16) st).1.toNat 0 (fun _=>0) (Ls (LD l 16) st).2
theorem VI(l:List Nat)(most:Int)(hm:0<=most)(st:Option Nat):0<=(Ls (LD l most) st).1/\(Ls (LD l most) st).1<=most:=by
 cases st with
 | none=>simp[Ls];omega
 | some a =>
  cases h:MM l a with
  | none =>
   have e:Ls (LD l most) (some a)=(0,none):=by simp[Ls,LD,h]
   rw[e];simp only;omega
  | some p =>
   obtain⟨n,a'⟩:=p
   have h2:=OB l a 33 0 n a' (by omega) h
   by_cases hc:most<n
   ·have e:Ls (LD l most) (some a)=(0,none):=by simp[Ls,LD,h,hc]
    rw[e];simp only;omega
   ·have e:Ls (LD l most) (some a)=(n,some a'):=by simp[Ls,LD,h,hc]
    rw[e];simp only;omega
theorem U0(l:List Nat)(most:Int)(hm:0<=most)(st:Option Nat) : -most<=(Ls (L1 l most) st).1/\(Ls (L1 l most) st).1<=most:=by
 cases st with
 | none=>simp[Ls];omega
 | some a =>
  cases h:MM l a with
  | none =>
   have e:Ls (L1 l most) (some a)=(0,none):=by simp[Ls,L1,h]
   rw[e];simp only;omega
  | some p =>
   obtain⟨n,a'⟩:=p
   by_cases hc:most<MV n\/most < -MV n
   ·have e:Ls (L1 l most) (some a)=(0,none):=by simp[Ls,L1,h,hc]
    rw[e];simp only;omega
   ·have e:Ls (L1 l most) (some a)=(MV n,some a'):=by simp[Ls,L1,h,hc]
    rw[e];simp only;omega
theorem ZM(l:List Nat):∀ (xs:List Int) (k z:Nat) (b:Nat->Int) (a:Nat),k+xs.length=16->z<=k->(∀ x∈xs,-1048576<=x/\x<=1048576)->Nn l a (R5 (Ru z xs)) →
  ∃ c,TV l (Ru z xs).length (k-z) b (some a)=(c,0,some (a+(R5 (Ru z xs)).length))/\∀ i,i<16->c (Xm i)=if i<k then b (Xm i) else if xs.getD (i-k) 0=0 then b (Xm i) else xs.getD (i-k) 0:=by
 intro xs
 induction xs with
 | nil =>
  intro k z b a hk hz _ _
  refine⟨b,by simp[Ru,R5,TV],fun i hi=>?_⟩
  have:i<k:=by simp at hk;omega
  rw[if_pos this]
 | cons x xs ih =>
  intro k z b a hk hz hx hb
  have hk':k+1+xs.length=16:=by simp at hk;omega
  have hxs:∀ y∈xs,-1048576<=y/\y<=1048576:=fun y hy=>hx y (by simp[hy])
  by_cases h0:x=0
  ·have e:Ru z (x::xs)=Ru (z+1) xs:=by simp[Ru,h0]
   rw[e] at hb ⊢
   obtain⟨c,h1,h2⟩:=ih (k+1) (z+1) b a hk' (by omega) hxs hb
   refine⟨c,by rw[show k-z=k+1-(z+1) by omega];exact h1,fun i hi=>?_⟩
   rw[h2 i hi]
   by_cases hi1:i<k
   ·rw[if_pos (by omega),if_pos hi1]
   ·by_cases hi2:i=k
    ·subst hi2;simp[h0]
    ·obtain⟨j,rfl⟩:∃ j,i=k+1+j:=⟨i-(k+1),by omega⟩
     rw[if_neg (show ¬ k+1+j<k+1 by omega),if_neg (show ¬ k+1+j<k by omega),show k+1+j-k=j+1 by omega,show k+1+j-(k+1)=j by omega,List.getD_cons_succ]
  ·have e:Ru z (x::xs)=(z,x)::Ru 0 xs:=by simp[Ru,h0]
   rw[e] at hb ⊢
   have hb0:Nn l a (LT (z:Int)++M4 x++R5 (Ru 0 xs)):=hb
   have hw:=RY l a (z:Int) 15 (by omega) (by omega) (by omega) hb0.left.left
   have hxb:=hx x (by simp)
   have hs:=Tv l (a+(LT (z:Int)).length) x 1048576 (by omega) (by omega) (by omega) (by omega) hb0.left.right
   have hbr:=hb0.right
   rw[List.length_append] at hbr
   have ho:Ri l (k-z) (some a)=(k,x,some (a+(LT (z:Int)).length+(M4 x).length)):=by
    have e1:Ls (LD l 15) (some a)=((z:Int),some (a+(LT (z:Int)).length)):=by simp[Ls,hw]
    have e2:Ls (L1 l 1048576) (some (a+(LT (z:Int)).length))=(x,some (a+(LT (z:Int)).length+(M4 x).length)):=by simp[Ls,hs]
    unfold Ri
    rw[e1]
    simp only[e2,Prod.mk.injEq,and_true]
    omega
   have hnb:¬ Ss (k,x,some (a+(LT (z:Int)).length+(M4 x).length)):=by
    unfold Ss;simp[h0];omega
   obtain⟨c,h1,h2⟩:=ih (k+1) 0 (Vo b (Xm k) x) (a+((LT (z:Int)).length+(M4 x).length)) hk' (by omega) hxs hbr
   refine⟨c,?_,fun i hi=>?_⟩
   ·simp only[List.length_cons,TV,ho]
    rw[if_neg hnb]
    rw[Nat.sub_zero] at h1
    rw[show a+(LT (z:Int)).length+(M4 x).length=a+((LT (z:Int)).length+(M4 x).length) by omega,h1]
    simp only[R5,List.length_append,Prod.mk.injEq,true_and,Option.some.injEq]
    omega
   ·rw[h2 i hi]
    have hu:i≠k->Vo b (Xm k) x (Xm i)=b (Xm i):=fun hne=>by
     unfold Vo
     rw[if_neg fun e=>hne (aEs i hi k (by omega) e)]
    by_cases hi1:i<k
    ·rw[if_pos (by omega),if_pos hi1,hu (by omega)]
    ·by_cases hi2:i=k
     ·subst hi2
      rw[if_pos (by omega),if_neg (by omega),Nat.sub_self,List.getD_cons_zero,if_neg h0]
      unfold Vo;rw[if_pos rfl]
     ·obtain⟨j,rfl⟩:∃ j,i=k+1+j:=⟨i-(k+1),by omega⟩
      rw[if_neg (show ¬ k+1+j<k+1 by omega),if_neg (show ¬ k+1+j<k by omega),show k+1+j-k=j+1 by omega,show k+1+j-(k+1)=j by omega,List.getD_cons_succ,hu (by omega)]
theorem aBh(l:List Nat)(a:Nat)(b:Nat->Int)(hb:Nn l a (RV b)):∃ c,LV l (some a)=(c,0,some (a+(RV b).length))/\∀ i,i<16->c i=SC 1048576 b i:=by
 have hl:(W2 b).length=16:=by simp[W2]
 have h16:=Za (W2 b) 0
 have hw:=RY l a ((Ru 0 (W2 b)).length:Nat) 16 (by omega) (by omega) (by omega) hb.left
 obtain⟨c,h1,h2⟩:=ZM l (W2 b) 0 0 (fun _=>0) _ (by omega) (Nat.le_refl _) (fun x hx=>by
  obtain⟨i,_,rfl⟩:=List.mem_map.1 hx
  exact aBK 1048576 _ (by omega)) hb.right
 have e1:Ls (LD l 16) (some a)=((((Ru 0 (W2 b)).length:Nat):Int),some (a+(LT ((Ru 0 (W2 b)).length:Nat)).length)):=by simp[Ls,hw]
 refine⟨c,?_,fun k hk=>?_⟩
 ·unfold LV
  rw[e1]
  simp only[Int.toNat_natCast]
  rw[Nat.sub_zero] at h1
  rw[h1]
  simp only[RV,List.length_append,Prod.mk.injEq,true_and,Option.some.injEq]
  omega
 ·obtain⟨i,hi,rfl⟩:=aDc k hk
  rw[h2 i hi,if_neg (by omega),Nat.sub_zero]
  have e:(W2 b).getD i 0=lvl b i:=by simp[W2,List.getD,hi]
  rw[e]
  show _=cl 1048576 (b (Xm i))
  split
  ·rename_i h;exact h.symm
  ·rfl
open Go.RowKit
theorem aBB:∀ x:Fin 256,∀ r:Fin 8,(x.val*2 ^ r.val%256=128) ↔ ∀ j:Fin 8,j.val<8-r.val->x.val.testBit (7-(r.val+j.val))=decide (j.val=0):=by decide +kernel
theorem Nk(n:Nat):(Ln n).length=8-n%8:=by simp[Ln];omega
theorem UE(n j:Nat):(Ln n)[j]? = if j<8-n%8 then some (decide (j=0)) else none:=by
 cases j with
 | zero=>simp[Ln];omega
 | succ j =>
  simp only[Ln,List.getElem?_cons_succ,List.getElem?_replicate]
  by_cases h:j<7-n%8
  ·rw[if_pos h,if_pos (by omega)];simp
  ·rw[if_neg h,if_neg (by omega)]
theorem aCm(l:List Nat)(a:Nat)(hf:PA l)(ha:a<=8*l.length):((Rz l).drop a=Ln a)↔(a/8+1=l.length/\l.getD (a/8) 0*2 ^ (a%8)%256=128):=by
 have hx:=hf.getD (a/8)
 have hb:=aBB ⟨l.getD (a/8) 0,hx⟩ ⟨a%8,Nat.mod_lt _ (by decide)⟩
 simp only at hb
 have hbit:∀ j,j<8-a%8->Oq l (a+j)=(l.getD (a/8) 0).testBit (7-(a%8+j)):=by
  intro j hj
  unfold Oq
  rw[show (a+j)/8=a/8 by omega,show (a+j)%8=a%8+j by omega]
 have hget:∀ j,a+j<8*l.length->((Rz l).drop a)[j]? = some (Oq l (a+j)):=by
  intro j hj
  rw[List.getElem?_drop];simp[Rz,hj]
 constructor
 ·intro h
  have hlen:=congrArg List.length h
  rw[List.length_drop,Pi,Nk] at hlen
  refine⟨by omega,hb.2 fun j hj=>?_⟩
  have hj':((Rz l).drop a)[j.val]? = (Ln a)[j.val]? := by rw[h]
  rw[hget j.val (by omega),UE,if_pos hj] at hj'
  rw[← hbit j.val hj]
  exact Option.some.inj hj'
 ·rintro ⟨h1,h2⟩
  have h3:=hb.1 h2
  refine List.ext_getElem? fun j=>?_
  rw[UE]
  by_cases hj:j<8-a%8
  ·rw[if_pos hj,hget j (by omega),hbit j hj,h3 ⟨j,by omega⟩ hj]
  ·rw[if_neg hj,List.getElem?_eq_none (by rw[List.length_drop,Pi];omega)]
open Go.RowKit
def Mv(w:World)(T:Nat->Prop)(v:Value)(l:List Nat):Prop:=MG w v l/\PI w T/\(0<l.length->∀ a n c,v = .slice (some a) n c->T a.block)
theorem Mv.live{w:World}{T:Nat->Prop}{v:Value}{l:List Nat}(h:Mv w T v l):PI w T:=h.2.1
theorem Mv.all{S:Nat->Prop}{w w':World}{T:Nat->Prop}{v:Value}{l:List Nat}(h:Mv w T v l)(k:KR S w w')(ha:KO T S):Mv w' T v l:=by
 refine⟨?_,h.2.1.mono k,h.2.2⟩
 obtain⟨⟨a,cap,rfl,h1,h2,h3,hl,hc⟩,hL,hT⟩:=h
 refine⟨a,cap,rfl,h1,h2,h3,hl,fun hpos=>?_⟩
 obtain⟨b,off,rfl,hb,hcell⟩:=hc hpos
 exact⟨b,off,rfl,Nat.lt_of_lt_of_le hb k.size,fun i hi=>(World.cell?_of_block (k.block b hb (ha b (hT hpos _ _ _ rfl)))).trans (hcell i hi)⟩
instance {w w':World} {T:Nat->Prop} {v:Value} {l:List Nat}:Cr w w' (Mv w T v l) (Mv w' T v l):=⟨fun h k=>h.all k KO.none⟩
instance {w:World} {T:Nat->Prop} {v:Value} {l:List Nat}:Lv w (Mv w T v l) (T):=⟨fun h=>h.live⟩
def aGi(v:Value)(l:List Nat):Nat->Prop:=fun i=>0<l.length/\∃ a n c,v = .slice (some a) n c/\i=a.block
theorem Mv.arg{w:World}{v:Value}{l:List Nat}(h:MG w v l):Mv w (aGi v l) v l:=by
 refine⟨h,fun i hi=>?_,fun hp a n c e=>⟨hp,a,n,c,e,rfl⟩⟩
 obtain⟨hp,a,n,c,rfl,rfl⟩:=hi
 obtain⟨a',cap,e,h1,h2,h3,hl,hc⟩:=h
 obtain⟨b,off,rfl,hb,_⟩:=hc hp
 cases e;exact hb
theorem Mv.nil(w:World):Mv w Mb (.slice none 0 0) []:=⟨MG.nil w,fun _ h=>h.elim,fun h=>absurd h (Nat.lt_irrefl 0)⟩
def P2(w:World)(T:Nat->Prop)(p:Nat)(l:List Nat)(st:Option Nat):Prop:=PA l/\∃ g,T=(fun i=>i=p\/i=g)/\RI w p g l st
theorem P2.live{w:World}{T:Nat->Prop}{p:Nat}{l:List Nat}{st:Option Nat}(h:P2 w T p l st):PI w T:=by
 obtain⟨_,g,rfl,h⟩:=h
 have:=h.lt
 intro i hi
 rcases hi with rfl|rfl
 ·exact this.1
 ·exact this.2.1
theorem P2.all{S:Nat->Prop}{w w':World}{T:Nat->Prop}{p:Nat}{l:List Nat}{st:Option Nat}(h:P2 w T p l st)(k:KR S w w')(ha:KO T S):P2 w' T p l st:=by
 obtain⟨hf,g,rfl,h⟩:=h;exact⟨hf,g,rfl,h.kept k (ha p (.inl rfl)) (ha g (.inr rfl))⟩
instance {w w':World} {T:Nat->Prop} {p:Nat} {l:List Nat} {st:Option Nat}:Cr w w' (P2 w T p l st) (P2 w' T p l st):=⟨fun h k=>h.all k KO.none⟩
instance {w:World} {T:Nat->Prop} {p:Nat} {l:List Nat} {st:Option Nat}:Lv w (P2 w T p l st) (T):=⟨fun h=>h.live⟩
def Rfi(w:World)(T:Nat->Prop)(p:Nat)(l:List Nat)(st:Option Nat):Prop:=PA l/\l.length<=1000/\T=Lh p/\aGl w p l st
theorem aFP(v:Value)(l:List Nat)(T_b:Nat->Prop)(w0:World)(hm:l.length<1099511627776)(h_b:Mv w0 T_b v l) :
  Calls Tryz.prog 27 #[v] w0 fun e w'=>∃ (v1:Nat) (T1:Nat->Prop),e = .returned (.pointer (some ⟨v1,0,none⟩))/\KR (fun _=>False) w0 w'/\(P2 w' T1 v1 l (some 0)/\KS w0 Mb T1):=by
 refine(aEo v l w0 hm h_b.1.slice).mono fun _ _ ⟨p,g,e,hr,h1,h2,k⟩=>?_
 exact⟨p,_,e,k,⟨h_b.1.fair hm,g,rfl,hr⟩,fun i hi=>.inr (by rcases hi with rfl|rfl <;> assumption)⟩
theorem aFf(p:Nat)(l:List Nat)(st:Option Nat)(T_r:Nat->Prop)(w0:World)(h_r:P2 w0 T_r p l st) :
  Calls Tryz.prog 31 #[.pointer (some ⟨p,0,none⟩)] w0 fun e w'=>e = .returned (.int .i64 (Pb l st))/\KR (fun _=>False) w0 w':=by
 obtain⟨hf,g,rfl,h⟩:=h_r
 exact(aC8 p g l st w0 hf h).mono fun _ _ ⟨e,n,hw⟩=>by subst hw;exact⟨e,(KR.refl _ _).drewN n⟩
theorem Wd(n:Int)(w0:World):Calls Tryz.prog 21 #[.int .i64 n] w0 fun e w'=>e = .returned (.string (Mg (LT n)))/\KR (fun _=>False) w0 w' :=
 (aA5 n w0).mono fun _ _ ⟨e,hw⟩=>by subst hw;exact⟨e,KR.refl _ _⟩
theorem TK(bs:List Bool)(w0:World)(hm:bs.length<1000000):Calls Tryz.prog 22 #[.string (Mg bs)] w0 fun e w'=>∃ (v1:Value) (T1:Nat->Prop),e = .returned v1/\KR (fun _=>False) w0 w'/\(Mv w' T1 v1 (Mi bs)/\KS w0 Mb T1):=by
 refine(aA2 bs w0 hm).mono fun _ w' ⟨v,e,ho,hf,k⟩=>?_
 have hR:VH w' 0 v (Mi bs):=⟨ho,WV bs⟩
 refine⟨v,fun i=>v.ownBlock=some i,e,k,⟨hR.bytes,fun i hi=>(hR.lt i hi).2,fun hp a n c e=>?_⟩,fun i hi=>?_⟩
 ·subst e;rfl
 ·rcases hf with h | ⟨g,h,hg⟩
  ·rw[h] at hi;cases hi
  ·rw[h] at hi;cases hi;exact .inr hg
open Go.RowKit
theorem VH.shape{w:World}{B:Nat}{v:Value}{l:List Nat}(h:VH w B v l):∃ a cap,v = .slice a l.length cap:=by
 rcases h.1.2 with ⟨rfl,h0⟩ | ⟨g,cap,cur,rfl,_⟩
 ·exact⟨none,0,by rw[h0]⟩
 ·exact⟨_,_,rfl⟩
theorem MG.cut{w:World}{a:Option Addr}{len cap:Nat}{l:List Nat}(h:MG w (.slice a len cap) l)(i j cap':Nat)(hi:i<=j)(hj:j<=l.length)(hc:j-i<=cap')(hm:cap'<=maxLen)(a':Option Addr)
  (ha:0<j-i->a'=a.map (·.add i)) (h0:a'=none->cap'=0):MG w (.slice a' (j-i) cap') ((l.drop i).take (j-i)):=by
 obtain⟨a2,cap2,e,h1,h2,h3,h256,hcell⟩:=h
 cases e
 have hl:((l.drop i).take (j-i)).length=j-i:=by simp;omega
 refine⟨a',cap',by rw[hl],by rw[hl];exact hc,hm,h0,fun x hx=>h256 x (List.mem_of_mem_drop (List.mem_of_mem_take hx)),fun hpos=>?_⟩
 rw[hl] at hpos
 obtain⟨b,off,rfl,hb,hx⟩:=hcell (by omega)
 refine⟨b,off+i,by rw[ha hpos];simp[Addr.add_lit],hb,fun t ht=>?_⟩
 rw[hl] at ht
 have e1:=hx (i+t) (by omega)
 rw[Nat.add_assoc,e1]
 have ht2:t<j-i:=ht
 simp[List.getD,ht2]
open Go.RowKit
theorem Qp{ρ:Operand->Value}{o:Oper}{w:World}{R:Value->World->Prop}{x:Operand}{l:List Nat}(ho:o.op = .convert 26 9 x)(hx:MG w (ρ x) l)(h:R (.string (Mx l)) w):Lg Tryz.prog ρ o w R :=
 Nf (by simp[execOp,ho,hx.text]) h
theorem aC3{ρ:Operand->Value}{o:Oper}{w:World}{R:Value->World->Prop}{c:Call}{x:Operand}{t e:TypeId}{a:Option Addr}{n cap:Nat}(ho:o.op = .call c)(hc:c.callee = .builtin .len)(hx:c.args = #[x])(ht:c.argTypes = #[t])(hu:Tryz.prog.underlying t=some (.slice e))
  (h1:ρ x = .slice a n cap) (h:R (.int .i64 (n:Int)) w):Lg Tryz.prog ρ o w R:=by
 obtain⟨cl,xs,ts⟩:=c
 simp only at hc hx ht
 subst hc;subst hx;subst ht
 exact Nf (v:=.int .i64 (n:Int)) (w':=w) (by simp[execOp,ho,h1,resolve,invoke,builtin,run_underlying hu,Builtin.len_];rfl) h
open Go.RowKit
def Qx(w:World)(p:Nat)(t:TypeId)(v:Value):Prop:=w.heap[p]? = some (.cells #[v] t (0,0))
theorem Qx.all{S:Nat->Prop}{w w':World}{p:Nat}{t:TypeId}{v:Value}(h:Qx w p t v)(k:KR S w w')(hn:¬ S p):Qx w' p t v:=k.at h hn
theorem Qx.lt{w:World}{p:Nat}{t:TypeId}{v:Value}(h:Qx w p t v):p<w.heap.size:=M5 h
instance {w w':World} {p:Nat} {t:TypeId} {v:Value}:Cr w w' (Qx w p t v) (Qx w' p t v):=⟨fun h k=>h.all k id⟩
instance {w:World} {p:Nat} {t:TypeId} {v:Value}:Lv w (Qx w p t v) (Lh p):=⟨fun h=>L8 h.lt⟩
theorem Qx.cell{w:World}{p:Nat}{t:TypeId}{v:Value}(h:Qx w p t v):w.cell? ⟨p,0,none⟩=some v:=by rw[ML h];rfl
def oneC:Value->Bool
 | .int _ _ | .bool _ | .pointer _ | .slice _ _ _ | .string _=>true
 | _=>false
def U5:TypeDesc->Bool
 | .struct _ | .array _ _=>false
 | _=>true
section
variable {ro:Option Nat} {P:Program} {ρ:Operand->Value} {o:Oper} {w:World} {R:Value->World->Prop}
theorem ZN{ty:TypeId}{x:Operand}{a:Addr}{v:Value}{d:TypeDesc}(ho:o.op = .load ty x)(hx:ρ x = .pointer (some a))(hu:P.underlying ty=some d)(hd:U5 d=true)(hc:w.cell? a=some v)(h:R v w):Lg P ρ o w R:=by
 have hA:(isAgg ty).run P w = .ok false w:=by
  cases d <;> first|(simp[U5] at hd;done)|simp[isAgg,run_underlying hu]
 exact Nf (v:=v) (w':=w) (by simp[execOp,ho,hx,Instr.loadAt,Instr.sureAddr,loadVar,hA,hc]) h
theorem M0{ty t:TypeId}{x:Operand}{p:Nat}{v:Value}{d:TypeDesc}(ho:o.op = .load ty x)(hx:ρ x = .pointer (some ⟨p,0,none⟩))(hu:P.underlying ty=some d)(hB:Qx w p t v)(hd:U5 d=true:=by rfl)(h:R v w):Lg P ρ o w R:=ZN ho hx hu hd hB.cell h
theorem OW{x:Operand}{a:Addr}(ho:o.op = .nilCheck x)(hx:ρ x = .pointer (some a))(h:R (.pointer (some a)) w):Lg P ρ o w R :=
 Nf (by simp[execOp,ho,hx]) h
theorem KU{s:TypeId}{x:Operand}{fs:Array Field}{i b off off' n:Nat}{f:Field}(ho:o.op = .fieldAddr s x i)(hx:ρ x = .pointer (some ⟨b,off,none⟩))(hu:P.underlying s=some (.struct fs))(hf:fs[i]? = some f)(hs:(P.info? f.type).map (·.size)=some n)(hn:n≠0)(hoff:off+f.offset=off')
  (h:R (.pointer (some ⟨b,off',none⟩)) w):Lg P ρ o w R:=by
 cases hq:P.info? f.type with
 | none=>simp[hq] at hs
 | some j =>
  have hs':j.size=n:=by simpa [hq] using hs
  exact Nf (v:=.pointer (some ⟨b,off',none⟩)) (w':=w) (by simp[execOp,ho,hx,Instr.fieldAt,run_underlying hu,hf,Instr.sureAddr,fieldPlace,sizeOf,typeInfo,hq,hs',hn,Addr.add_lit,hoff]) h
theorem SG{t t':TypeId}{x y:Operand}{m n r:ByteArray}(ho:o.op = .binOp .add t x y t')(hx:ρ x = .string m)(hy:ρ y = .string n)(hz:m.size+n.size<=9223372036854775807)(hr:m++n=r)(h:R (.string r) w):Lg P ρ o w R :=
 Nf (v:=.string (m++n)) (w':=w) (by simp[execOp,ho,hx,hy,go_sem,Nat.not_lt.2 hz]) (by rw[hr];exact h)
theorem Vb{t t':TypeId}{x y:Operand}{m n:ByteArray}{b:Bool}(ho:o.op = .binOp .eql t x y t')(hx:ρ x = .string m)(hy:ρ y = .string n)(hr:(m.toList==n.toList)=b)(h:R (.bool b) w):Lg P ρ o w R :=
 ay5 ho hx hy (by rw[hr];exact h)
end
section
variable {ρ:Operand->Value} {o:Oper} {w:World} {R:Value->World->Prop}
theorem azb{c:Call}{x:Operand}{l:List Bool}(ho:o.op = .call c)(hc:c={ callee:=.builtin .len,args:=#[x],argTypes:=#[9] })(hx:ρ x = .string (Mg l))(h:R (.int .i64 ((l.length:Nat):Int)) w):Lg Tryz.prog ρ o w R:=by
 subst hc
 refine Nf (v:=.int .i64 ((l.length:Nat):Int)) (w':=w) ?_ h
 rw[← Ng l]
 simp[execOp,ho,hx,resolve,invoke,builtin,run_underlying Tryz.underlying9,Builtin.len_]
 rfl
theorem Qv{c:Call}{x:Operand}{T:Nat->Prop}{v:Value}{l:List Nat}(ho:o.op = .call c)(hc:c={ callee:=.builtin .len,args:=#[x],argTypes:=#[26] })(hx:ρ x=v)(hb:Mv w T v l)(h:R (.int .i64 ((l.length:Nat):Int)) w):Lg Tryz.prog ρ o w R:=by
 subst hc
 obtain⟨⟨a,cap,rfl,_⟩,_⟩:=hb
 exact aC3 ho rfl rfl rfl Tryz.underlying26 hx h
theorem OK{x:Operand}{T:Nat->Prop}{v:Value}{l:List Nat}(hx:ρ x=v)(hb:Mv w T v l):MG w (ρ x) l:=by rw[hx];exact hb.1
end
section
variable {ro:Option Nat} {N:Nat} {Q:(Exit->(Nat->Value)->World->Prop)} {F:Nat->Value} {w:World} {o:Oper} {P:Program}
theorem PX{ops:Array Oper}{rest:List Oper}{t:TypeId}{x:Operand}{v:Value}(hg:o.guard=none)(hd:OD N o.dst=true)(ho:o.op = .box t x)(hx:ev (M3 N F) x=v)(hv:oneC v=true)
  (h:∀ p w',Qx w' p t v->KS w Mb (Lh p)->KR (fun _=>False) w w'->wl ro P N ops Q rest (OQ F o.dst (.pointer (some ⟨p,0,none⟩))) w'):wl ro P N ops Q (o::rest) F w :=
 NV hg hd (OJ (v:=.pointer (some ⟨w.heap.size,0,none⟩)) (w':=w.alloc (.cells #[v] t)) (by simp[execOp,ho,hx,go_sem];cases v <;> first|rfl|(simp[oneC] at hv;done)) (h _ _ (heap_alloc_new w _) (L7 (Nat.le_refl _)) ((KR.refl _ _).alloc _)))
theorem O7{ops:Array Oper}{rest:List Oper}{t:TypeId}{v:Value}(hg:o.guard=none)(hd:OD N o.dst=true)(ho:o.op = .alloc t)(hi:(P.info? t).map (fun i=>(i.zero,i.size))=some (some v,1))(hv:oneC v=true)
  (h:∀ p w',Qx w' p t v->KS w Mb (Lh p)->KR (fun _=>False) w w'->wl ro P N ops Q rest (OQ F o.dst (.pointer (some ⟨p,0,none⟩))) w'):wl ro P N ops Q (o::rest) F w :=
 NV hg hd (OJ (v:=.pointer (some ⟨w.heap.size,0,none⟩)) (w':=w.alloc (.cells #[v] t)) (by simp[execOp,ho,(zero_of_info hi).1,go_sem];cases v <;> first|rfl|(simp[oneC] at hv;done)) (h _ _ (heap_alloc_new w _) (L7 (Nat.le_refl _)) ((KR.refl _ _).alloc _)))
theorem Ml{ops:Array Oper}{rest:List Oper}{ty t:TypeId}{x y:Operand}{p:Nat}{v v':Value}(hg:o.guard=none)(hdn:o.dst=none)(ho:o.op = .store ty x y)(hx:ev (M3 N F) x = .pointer (some ⟨p,0,none⟩))(hy:ev (M3 N F) y=v')(hB:Qx w p t v)(hv:oneC v'=true)
  (hs:(P.info? ty).map (·.size)=some 1)
  (h:∀ w',Qx w' p t v'->KR (fun k=>k=p) w w'->wl ro P N ops Q rest F w'):wl ro P N ops Q (o::rest) F w:=by
 have hc:=hB.cell
 have hf:w.frozen? ⟨p,0,none⟩=false:=Nm hB
 cases hq:P.info? ty with
 | none=>simp[hq] at hs
 | some i =>
  have hs':i.size=1:=by simpa [hq] using hs
  refine NV hg (by rw[hdn];rfl) ?_
  have e:(execOp (ev (M3 N F)) o).run P w = .ok .skip (w.setCell ⟨p,0,none⟩ v')\/(execOp (ev (M3 N F)) o).run P w = .ok (.value undef) (w.setCell ⟨p,0,none⟩ v'):=by
   cases v' <;> first|(simp[oneC] at hv;done)|simp[execOp,ho,hx,hy,Instr.storeAt,Instr.sureAddr,storeVar,sizeOf,typeInfo,hq,hs',Value.cells,hc,hf,go_sem]
  have hn:Qx (w.setCell ⟨p,0,none⟩ v') p t v':=by unfold Qx;rw[Np _ _ _ _ hB];rfl
  unfold Lg
  rw[hdn]
  rcases e with e|e <;> rw[e] <;> exact h _ hn ((KR.refl (fun k=>k=p) w).setCell ⟨p,0,none⟩ (fun _=>rfl) _)
end
def N4:Int:=9223372036854775807
def M9(l:List Nat)(a:Nat)(s:Option Nat):Nat×Int×Option Nat:=(a+(Ls (LD l N4) s).1.toNat,Ls (L1 l N4) (Ls (LD l N4) s).2)
def QX(l:List Nat):Nat->Nat->(Nat->Int)->Option Nat->(Nat->Int)×Int×Option Nat
 | 0,_,b,s=>(b,0,s)
 | k+1,a,b,s=>if 16<=(M9 l a s).1 then (fun _=>0,60,(Ls (LD l N4) s).2)
  else if (M9 l a s).2.1=0\/(M9 l a s).2.1≠cl 1048576 (M9 l a s).2.1 then (fun _=>0,60,(M9 l a s).2.2)
  else QX l k ((M9 l a s).1+1) (Vo b (Xm (M9 l a s).1) (M9 l a s).2.1) (M9 l a s).2.2
def gRd(l:List Nat)(s:Option Nat):(Nat->Int)×Int×Option Nat :=
 if (Ls (LD l N4) s).2.isNone=true\/16<(Ls (LD l N4) s).1 then (fun _=>0,60,(Ls (LD l N4) s).2)
 else QX l (Ls (LD l N4) s).1.toNat 0 (fun _=>0) (Ls (LD l N4) s).2
theorem RQ(l:List Nat)(a:Nat)(n:Int)(a':Nat)(h:MM l a=some (n,a')):0<=n/\n<=8589934592:=by
 have:=OB l a 33 0 n a' (by omega) h
 omega
theorem V4(l:List Nat)(s:Option Nat):0<=(Ls (LD l N4) s).1/\(Ls (LD l N4) s).1<=8589934592:=by
 cases s with
 | none=>simp[Ls]
 | some a =>
  cases h:MM l a with
  | none=>simp[Ls,LD,h]
  | some p =>
   obtain⟨n,a'⟩:=p
   have hb:=RQ l a n a' h
   have e:Ls (LD l N4) (some a)=(n,some a'):=by
    have:¬ N4<n:=by unfold N4;omega
    simp[Ls,LD,h,this]
   rw[e];exact hb
theorem aDP(l:List Nat)(a:Nat)(s:Option Nat):(a:Int)+(Ls (LD l N4) s).1=(((M9 l a s).1:Nat):Int)/\(M9 l a s).1<=a+8589934592:=by
 have h:=V4 l s
 unfold M9
 simp only
 omega
def Rg(r r':(Nat->Int)×Int×Option Nat):Prop:=r.1=r'.1/\r.2.1=r'.2.1/\(r'.2.1=0->r=r')
theorem Rg.bad(s s':Option Nat):Rg (fun _=>0,60,s) (fun _=>0,60,s'):=⟨rfl,rfl,fun h=>absurd (show (60:Int)=0 from h) (by decide)⟩
theorem azM(n:Int):cl 1048576 n=n↔(-1048576<=n/\n<=1048576):=by unfold cl;omega
theorem aB1(l:List Nat)(a:Nat)(n:Int)(a':Nat)(h:MM l a=some (n,a')):Ls (LD l N4) (some a)=(n,some a'):=by
 have hb:=RQ l a n a' h
 have:¬ N4<n:=by unfold N4;omega
 simp[Ls,LD,h,this]
theorem VO(l:List Nat)(m:Int)(a:Nat)(h:MM l a=none):Ls (LD l m) (some a)=(0,none):=by simp[Ls,LD,h]
theorem aCz(l:List Nat)(m:Int)(a:Nat)(n:Int)(a':Nat)(h:MM l a=some (n,a'))(hm:m<n):Ls (LD l m) (some a)=(0,none):=by simp[Ls,LD,h,hm]
theorem aAf(l:List Nat)(m:Int)(a:Nat)(n:Int)(a':Nat)(h:MM l a=some (n,a'))(hm:¬ m<n):Ls (LD l m) (some a)=(n,some a'):=by simp[Ls,LD,h,hm]
theorem azS(l:List Nat)(m:Int)(a:Nat)(h:MM l a=none):Ls (L1 l m) (some a)=(0,none):=by simp[Ls,L1,h]
theorem aEN(l:List Nat)(a:Nat)(n:Int)(a':Nat)(h:MM l a=some (n,a')):Ls (L1 l N4) (some a)=(MV n,some a'):=by
 have hb:=RQ l a n a' h
 have:¬ (N4<MV n\/N4 < -MV n):=by
  unfold N4 MV
  split <;> omega
 simp only[Ls,L1,h,if_neg this]
theorem aER(l:List Nat)(m:Int)(a:Nat)(n:Int)(a':Nat)(h:MM l a=some (n,a'))(hm:m<MV n\/m < -MV n):Ls (L1 l m) (some a)=(0,none):=by simp only[Ls,L1,h,if_pos hm]
theorem aEd(l:List Nat)(m:Int)(a:Nat)(n:Int)(a':Nat)(h:MM l a=some (n,a'))(hm:¬ (m<MV n\/m < -MV n)):Ls (L1 l m) (some a)=(MV n,some a'):=by simp only[Ls,L1,h,if_neg hm]
theorem YW(l:List Nat):∀ (k a:Nat) (b:Nat->Int) (s:Nat),Rg (QX l k a b (some s)) (TV l k a b (some s)):=by
 intro k
 induction k with
 | zero=>intro a b s;exact⟨rfl,rfl,fun _=>rfl⟩
 | succ k ih =>
  intro a b s
  rw[QX,TV]
  cases hw:MM l s with
  | none =>
   have e1:(Ri l a (some s))=(a,0,none):=by
    unfold Ri;rw[VO l 15 s hw];simp[Ls]
   have e2:(M9 l a (some s))=(a,0,none):=by
    unfold M9;rw[VO l N4 s hw];simp[Ls]
   rw[e1,e2,if_pos (show Ss (a,0,none) from .inl rfl)]
   split
   ·exact Rg.bad _ _
   ·rw[if_pos (.inl rfl)];exact Rg.bad _ _
  | some p =>
   obtain⟨n,s1⟩:=p
   have hb:=RQ l s n s1 hw
   have eg:M9 l a (some s)=(a+n.toNat,Ls (L1 l N4) (some s1)):=by unfold M9;rw[aB1 l s n s1 hw]
   by_cases hf:15<n
   ·have e1:Ri l a (some s)=(a,0,none):=by
     unfold Ri;rw[aCz l 15 s n s1 hw hf];simp[Ls]
    rw[e1,if_pos (show Ss (a,0,none) from .inl rfl),eg,if_pos (show 16<=a+n.toNat by omega)]
    exact Rg.bad _ _
   ·have e1:Ri l a (some s)=(a+n.toNat,Ls (L1 l 1048576) (some s1)):=by unfold Ri;rw[aAf l 15 s n s1 hw hf]
    rw[e1,eg]
    by_cases h16:16<=a+n.toNat
    ·rw[if_pos h16,if_pos (show Ss _ from .inr (.inl (by simp only;omega)))]
     exact Rg.bad _ _
    ·rw[if_neg h16]
     cases hw2:MM l s1 with
     | none =>
      rw[azS l N4 s1 hw2,azS l 1048576 s1 hw2,if_pos (.inl rfl),if_pos (show Ss _ from .inl rfl)]
      exact Rg.bad _ _
     | some q =>
      obtain⟨m,s2⟩:=q
      rw[aEN l s1 m s2 hw2]
      by_cases hfar:(1048576:Int)<MV m\/(1048576:Int) < -MV m
      ·rw[aER l 1048576 s1 m s2 hw2 hfar,if_pos (show Ss _ from .inl rfl),if_pos (.inr (fun h=>by have:=(azM (MV m)).1 h.symm;omega))]
       exact Rg.bad _ _
      ·rw[aEd l 1048576 s1 m s2 hw2 hfar]
       have hc:MV m=cl 1048576 (MV m):=((azM _).2 (by omega)).symm
       by_cases h0:MV m=0
       ·rw[if_pos (.inl h0),if_pos (show Ss _ from .inr (.inr h0))]
        exact Rg.bad _ _
       ·have hn1:¬ (MV m=0\/MV m≠cl 1048576 (MV m)):=by
         rintro (h|h)
         ·exact h0 h
         ·exact h hc
        have hn2:¬ Ss (a+n.toNat,MV m,some s2):=by
         rintro (h|h|h)
         ·cases h
         ·simp only at h;omega
         ·exact h0 h
        rw[if_neg hn1,if_neg hn2]
        exact ih _ _ _
theorem Xy(l:List Nat)(st:Option Nat):Rg (gRd l st) (LV l st):=by
 unfold gRd LV
 cases st with
 | none =>
  have e1:∀ m,Ls (LD l m) none=(0,none):=fun m=>rfl
  rw[e1,e1,if_pos (.inl rfl)]
  exact Rg.bad _ _
 | some s =>
  cases hw:MM l s with
  | none =>
   rw[VO l N4 s hw,VO l 16 s hw,if_pos (.inl rfl)]
   exact Rg.bad _ _
  | some p =>
   obtain⟨n,s1⟩:=p
   rw[aB1 l s n s1 hw]
   by_cases hf:16<n
   ·rw[if_pos (.inr hf),aCz l 16 s n s1 hw hf]
    exact Rg.bad _ _
   ·rw[aAf l 16 s n s1 hw hf,if_neg (by rintro (h|h);cases h;exact hf h)]
    exact YW l _ _ _ _
def YQ(l:List Nat)(st:Option Nat):Option Nat:=(gRd l st).2.2
theorem VQ{l:List Nat}{st:Option Nat}(h:(LV l st).2.1=0):YQ l st=(LV l st).2.2:=by unfold YQ;rw[(Xy l st).2.2 h]
theorem ZS{l:List Nat}{M i a:Nat}{b:Nat->Int}{s:Option Nat}{R:(Nat->Int)×Int×Option Nat}(hi:i<M)(h:QX l (M-i) a b s=R)(hb:16<=(M9 l a s).1):R=(fun _=>0,60,(Ls (LD l N4) s).2):=by
 obtain⟨k,hk⟩:∃ k,M-i=k+1:=⟨M-i-1,by omega⟩
 rw[hk,QX,if_pos hb] at h
 exact h.symm
theorem ZK{l:List Nat}{M i a:Nat}{b:Nat->Int}{s:Option Nat}{R:(Nat->Int)×Int×Option Nat}(hi:i<M)(h:QX l (M-i) a b s=R)(ha:¬ 16<=(M9 l a s).1)(hb:(M9 l a s).2.1=0\/(M9 l a s).2.1≠cl 1048576 (M9 l a s).2.1):R=(fun _=>0,60,(M9 l a s).2.2):=by
 obtain⟨k,hk⟩:∃ k,M-i=k+1:=⟨M-i-1,by omega⟩
 rw[hk,QX,if_neg ha,if_pos hb] at h
 exact h.symm
theorem aGz{l:List Nat}{M i a:Nat}{b:Nat->Int}{s:Option Nat}{R:(Nat->Int)×Int×Option Nat}(hi:i<M)(h:QX l (M-i) a b s=R)(ha:¬ 16<=(M9 l a s).1)(hb:¬ ((M9 l a s).2.1=0\/(M9 l a s).2.1≠cl 1048576 (M9 l a s).2.1)) :
  QX l (M-(i+1)) ((M9 l a s).1+1) (Vo b (Xm (M9 l a s).1) (M9 l a s).2.1) (M9 l a s).2.2=R:=by
 obtain⟨k,hk⟩:∃ k,M-i=k+1:=⟨M-i-1,by omega⟩
 rw[hk,QX,if_neg ha,if_neg hb] at h
 rw[show M-(i+1)=k by omega]
 exact h
theorem aFe{l:List Nat}{M i a:Nat}{b:Nat->Int}{s:Option Nat}{R:(Nat->Int)×Int×Option Nat}(hi:¬ i<M)(h:QX l (M-i) a b s=R):R=(b,0,s):=by
 rw[show M-i=0 by omega,QX] at h
 exact h.symm
theorem RC{l:List Nat}{s:Option Nat}(h:(Ls (LD l N4) s).2.isNone=true\/16<(Ls (LD l N4) s).1):gRd l s=(fun _=>0,60,(Ls (LD l N4) s).2):=by unfold gRd;rw[if_pos h]
theorem aDG{l:List Nat}{s:Option Nat}{M:Nat}(h1:(Ls (LD l N4) s).2.isNone=false)(h2:¬ 16<(Ls (LD l N4) s).1)(hM:M=(Ls (LD l N4) s).1.toNat):QX l (M-0) 0 (fun _=>0) (Ls (LD l N4) s).2=gRd l s:=by
 unfold gRd
 rw[if_neg (by rintro (h|h);rw[h1] at h;cases h;exact h2 h),← hM];rfl
theorem NZ{l:List Nat}{s:Option Nat}{b:Nat->Int}{n:Int}{t:Option Nat}(h:gRd l s=(b,n,t)):b=(LV l s).1/\n=(LV l s).2.1/\YQ l s=t:=by
 have ha:=Xy l s
 have hs:YQ l s=(gRd l s).2.2:=rfl
 rw[h] at ha hs
 exact⟨ha.1,ha.2.1,hs⟩
open Go.RowKit
def aDe(J:Nat->(Nat->Value)->World->Prop)(Q:(Exit->(Nat->Value)->World->Prop)):(Exit->(Nat->Value)->World->Prop)
 | .goto l,F,w=>J l F w
 | e,F,w=>Q e F w
def aDh(Q:(Exit->(Nat->Value)->World->Prop)):(Exit->(Nat->Value)->World->Prop)
 | .goto _,_,_=>False
 | e,F,w=>Q e F w
theorem Wt{P:Program}{a:Act}{w:World}{Q:Exit->Act->World->Prop}{c:Code}(J:Nat->Act->World->Prop)
  (first:c.wp P (fun e a w=>match e with | .goto l=>J l a w|e=>Q e a w) a w)
  (pass:∀ l a w,J l a w->∃ rest,findLabel c l=some rest/\rest.wp P (Exit.noGoto Q) a w):(Code.scope c).wp P Q a w:=by
 intro b k cs
 obtain⟨e,a₁,w₁,hq,harr⟩:=first b (.inScope c::k) cs
 cases e with
 | normal=>exact⟨.normal,a₁,w₁,hq,.head step_scope (Steps.trans harr (.one step_inScope))⟩
 | exit id=>exact⟨.exit id,a₁,w₁,hq,fun k' hk=>.head step_scope (harr k' (by simp[exitTo,hk]))⟩
 | goto l =>
  obtain⟨rest,hf,hr⟩:=pass l a₁ w₁ hq
  have hg:gotoIn l (.inScope c::k)=some (.code rest :: .inScope c::k):=by simp[gotoIn,hf]
  obtain⟨e₂,a₂,w₂,hq₂,harr₂⟩:=hr b (.inScope c::k) cs
  have hs:Go.Steps P (lone (b.at a (.code (.scope c)::k)) cs w) (lone (b.at a₁ (.code rest :: .inScope c::k)) cs w₁):=.head step_scope (harr _ hg)
  cases e₂ with
  | normal=>exact⟨.normal,a₂,w₂,hq₂,Steps.trans hs (Steps.trans harr₂ (.one step_inScope))⟩
  | exit id=>exact⟨.exit id,a₂,w₂,hq₂,fun k' hk=>Steps.trans hs (harr₂ k' (by simp[exitTo,hk]))⟩
  | goto l'=>exact hq₂.elim
  | ret=>exact⟨_,a₂,w₂,hq₂,.of_steps hs harr₂⟩
  | panic ch=>exact⟨_,a₂,w₂,hq₂,.of_steps hs harr₂⟩
  | outgrown=>exact⟨_,a₂,w₂,hq₂,.of_steps hs harr₂⟩
 | ret=>exact⟨_,a₁,w₁,hq,.of_steps (.one step_scope) harr⟩
 | panic ch=>exact⟨_,a₁,w₁,hq,.of_steps (.one step_scope) harr⟩
 | outgrown=>exact⟨_,a₁,w₁,hq,.of_steps (.one step_scope) harr⟩
section
variable {ro:Option Nat} {P:Program} {N:Nat} {Q:(Exit->(Nat->Value)->World->Prop)} {F:Nat->Value} {w:World}
theorem WK{c:Code}(h:wq none P N c (aDe (fun l F w=>∃ rest,findLabel c l=some rest/\wq none P N rest (aDh Q) F w) Q) F w):wq none P N (.scope c) Q F w:=by
 intro a ha
 refine wpIn_wide.2 ?_
 refine Wt (fun l a w=>∃ F,Fr N F a/\∃ rest,findLabel c l=some rest/\wq none P N rest (aDh Q) F w) (wp_mono (wpIn_wide.1 (h a ha)) ?_) ?_
 ·rintro e a' w' ⟨F',hF,hq⟩
  cases e <;> exact⟨F',hF,hq⟩
 ·rintro l a' w' ⟨F',hF,rest,hf,hr⟩
  refine⟨rest,hf,wp_mono (wpIn_wide.1 (hr a' hF)) ?_⟩
  rintro e a'' w'' ⟨F'',hF'',hq⟩
  cases e <;> first|exact⟨F'',hF'',hq⟩|exact hq.elim
theorem N0{l:Nat}(h:Q (.goto l) F w):wq ro P N (.goto l) Q F w:=fun _ ha=>wpIn_goto ⟨F,ha,h⟩
theorem MB{next:(Nat->Value)->World->Prop}{l:Nat}(h:Q (.goto l) F w):Vw next Q (.goto l) F w:=h
theorem Td{id l:Nat}(h:Q (.goto l) F w):inP id Q (.goto l) F w:=h
theorem PL{J:Nat->(Nat->Value)->World->Prop}(h:Q .ret F w):aDe J Q .ret F w:=h
theorem Na{J:Nat->(Nat->Value)->World->Prop}{l:Nat}(h:J l F w):aDe J Q (.goto l) F w:=h
theorem Nu(h:Q .ret F w):aDh Q .ret F w:=h
end
def W9(w:World)(p:Nat)(b:Nat->Int):Prop:=∃ t f,w.heap[p]? = some (.cells (Mp 16 b).toArray t f)
theorem W9.all{S:Nat->Prop}{w w':World}{p:Nat}{b:Nat->Int}(h:W9 w p b)(k:KR S w w')(hn:¬ S p):W9 w' p b:=by
 obtain⟨t,f,h⟩:=h;exact⟨t,f,k.at h hn⟩
theorem W9.lt{w:World}{p:Nat}{b:Nat->Int}(h:W9 w p b):p<w.heap.size:=by obtain⟨t,f,h⟩:=h;exact M5 h
theorem W9.cell{w:World}{p:Nat}{b:Nat->Int}(h:W9 w p b){i:Nat}(hi:i<16):w.cell? ⟨p,i,none⟩=some (.int .i64 (b i)):=by
 obtain⟨t,f,h⟩:=h
 rw[ML h,List.getElem?_toArray];exact R3 hi
open Go.RowKit
def W8:List Nat->World->World
 | [],w=>w
 | D::ms,w=>W8 ms (w.putObj D (.deferred none))
def Y7:List Nat->World->Prop
 | [],_=>True
 | D::ms,w=>w.heap[D]? = some (.deferred (some []))/\Y7 ms (w.putObj D (.deferred none))
def aFK(P:Program)(fn:Func)(N:Nat)(R:Ending->World->Prop):(Exit->(Nat->Value)->World->Prop)
 | .normal,F,w | .ret,F,w=>∃ ms,F N=OZ ms/\Y7 ms w/\∀ a,Fr N F a->∃ v,(results fn a.tmps).run P (W8 ms w) = .ok v (W8 ms w)/\R (.returned v) (W8 ms w)
 | _,_,_=>False
theorem Yi{P:Program}{fn:Func}{tmps:Array Value}{R:Ending->World->Prop}:∀ (ms:List Nat) (w:World),Y7 ms w->(∃ v,(results fn tmps).run P (W8 ms w) = .ok v (W8 ms w)/\R (.returned v) (W8 ms w)) →
  LeavesInM Fence.wide 0 P fn tmps R (ms.map fun D=>{ target:=.collected D,args:=#[] }) .returning w:=by
 intro ms
 induction ms with
 | nil =>
  intro w _ h
  exact h
 | cons D ms ih =>
  intro w ho h
  exact⟨by simp,.inl ⟨D,_,rfl,run_takeDeferred ho.1,ih _ ho.2 h⟩⟩
theorem Zq {P : Program} {f : FuncId} {fn : Func} {c : Code} {args : List Value} {w : World} {R : Ending → World → Prop} (N : Nat) (hf : P.funcs[f]? = some fn) (hb : fn.body = some c) (hn : fn.ntmps = N) (hl : args.length ≤ N)
    (h : wq none P N c (aFK P fn N R) (ZB args) w) : Calls P f args.toArray w R := by
  refine callsIn_wide (n := 0).1 ?_
  refine callsIn_of_wp_marks hf hb trivial ?_
  subst hn
  have hs : (args.toArray ++ Array.replicate (fn.ntmps - args.toArray.size) undef).size = fn.ntmps := by simp; omega
  have hu : ZB args fn.ntmps = undef := by
    unfold ZB
    rw [List.getD_eq_getElem?_getD, List.getElem?_eq_none hl]; rfl
  refine wpIn_mono (h _ ⟨hs, by rw [hu]; rfl, fun t _ => ?_⟩) ?_
  · unfold ZB
    simp only [Array.getD_eq_getD_getElem?, List.getD_eq_getElem?_getD]
    by_cases h1 : t < args.length
    · rw [Array.getElem?_append_left (by simpa using h1)]; simp
    · rw [Array.getElem?_append_right (by simp; omega), List.getElem?_eq_none (by omega)]
      by_cases h2 : t < fn.ntmps
      · rw [Array.getElem?_replicate]; split <;> rfl
      · rw [Array.getElem?_eq_none (by simp; omega)]
  · rintro e a' w' ⟨F', hF, hq⟩
    cases e <;> first
      | (obtain ⟨ms, hm, ho, hr⟩ := hq
         show LeavesInM Fence.wide 0 P fn a'.tmps R a'.defers .returning w'
         rw [hF.defers, hm, Va, Tx]
         exact Yi ms w' ho (hr a' hF))
      | exact hq.elim
open Go.RowKit
theorem aDL(F:Nat->Value)(d:Nat)(v:Value):up F d v d=v:=by
 unfold up
 cases hb:Nat.beq d d with
 | true=>rfl
 | false=>exact absurd rfl (Nat.ne_of_beq_eq_false hb)
theorem aBJ(F:Nat->Value)(d:Nat)(v:Value){t:Nat}(h:t≠d):up F d v t=F t:=by
 unfold up
 cases hb:Nat.beq t d with
 | false=>rfl
 | true=>exact absurd (Nat.eq_of_beq_eq_true hb) h
theorem Fr.last{N:Nat}{F:Nat->Value}{a:Act}(h:Fr N F a)(v:Value)(ds:List Deferred)(hd:ds=Va v):Fr N (up F N v) { tmps:=a.tmps,defers:=ds }:=by
 refine⟨h.size,?_,fun t ht=>?_⟩
 ·show ds=Va (up F N v N)
  rw[aDL,hd]
 ·have hlt:t<N:=by simpa [Nat.blt_eq] using ht
  show a.tmps.getD t undef=up F N v t
  rw[aBJ F N v (Nat.ne_of_lt hlt)]
  exact h.at' t ht
theorem Fr.mark{N:Nat}{F:Nat->Value}{a:Act}(h:Fr N F a)(D:Nat):Fr N (up F N (OZ (D::ON (F N)))) { a with defers:={ target:=.collected D,args:=#[] }::a.defers }:=by
 refine h.last _ _ ?_
 rw[h.defers]
 unfold Va
 rw[Tx];rfl
theorem Fr.rounds{N:Nat}:∀ (l:List (Tmp×Value)) (F:Nat->Value) (a:Act),Fr N F a->(l.all fun p=>Nat.blt p.1 N)=true->Fr N (l.foldl (fun F p=>up F p.1 p.2) F) { tmps:=l.foldl (fun t p=>t.setIfInBounds p.1 p.2) a.tmps,defers:=a.defers }:=by
 intro l
 induction l with
 | nil=>intro F a h _;exact h
 | cons p l ih =>
  intro F a h hl
  simp only[List.all_cons,Bool.and_eq_true] at hl
  exact ih (up F p.1 p.2) (a.put (some p.1) p.2) (h.put (d:=some p.1) hl.1 p.2) hl.2
def aEx(N:Nat)(F:Nat->Value)(l:List (Tmp×Value)):Nat->Value:=l.foldl (fun F p=>up F p.1 p.2) (up F N undef)
theorem aEb{N:Nat}:∀ (pl:List Tmp) (vs:List Value),(pl.all fun p=>Nat.blt p N)=true->((pl.zip vs).all fun p=>Nat.blt p.1 N)=true:=by
 intro pl
 induction pl with
 | nil=>intro vs _;simp
 | cons p pl ih =>
  intro vs h
  cases vs with
  | nil=>simp
  | cons v vs =>
   simp only[List.all_cons,Bool.and_eq_true] at h
   simp only[List.zip_cons_cons,List.all_cons,Bool.and_eq_true]
   exact⟨h.1,ih vs h.2⟩
section
variable {P:Program} {N:Nat} {Q:(Exit->(Nat->Value)->World->Prop)} {F:Nat->Value} {w:World}
theorem aCt{ops:Array Oper}{o:Oper}{rest:List Oper}{R:Ending->World->Prop}{l:Nat}{c:Call}{cx:Operand}{xs:List Operand}{vs:List Value}(hg:o.guard=none)(hd:OD N o.dst=true)(ho:o.op = .call c)(hc:c.callee = .value cx)(hcx:ev (M3 N F) cx = .func (.yield l) #[] #[])
  (hx:c.args=xs.toArray) (hv:xs.map (ev (M3 N F))=vs) (hY:YieldAt Fence.wide 0 P l vs.toArray w R)
  (h:∀ e w',R e w'->∃ v,e = .returned v/\wl (some 0) P N ops Q rest (OQ F o.dst v) w'):wl (some 0) P N ops Q (o::rest) F w:=by
 intro a ha
 show wpListIn Fence.wide 0 P ops (Fp N Q) (o::rest) a w
 refine wpListIn_step fun K hK=>?_
 rw[if_pos (by unfold Region.wanted;rw[hg])]
 refine⟨fun f _=>trivial,?_⟩
 have hnd:∀ c,o.op ≠ .defer c:=fun c' e=>by rw[ho] at e;cases e
 rw[Oper.semAt_eq _ _ _ hnd]
 obtain⟨cl,ars,ts⟩:=c
 simp only at hc hx
 subst hc;subst hx;subst hv
 obtain⟨fn,tmps,assign,body,hy,hR⟩:=hY
 have e:(execOp a.eval o).run P w = .ok (.round l fn tmps assign body) w:=by
  rw[ha.eval,← hy]
  simp[execOp,ho,resolve,hcx,Deferred.ofValue,invoke]
 rw[e]
 refine⟨fun e=>(by cases e),hR.mono ?_⟩
 intro e' w' hr
 obtain⟨v,rfl,hk⟩:=h e' w' hr
 exact hK _ _ (hk _ (ha.put hd v))
end
def Jat{α:Type}(w:World)(_U:Nat->Prop)(J:List α->World->Prop)(pre:List α):Prop:=J pre w/\AbidesFrom w.heap.size J
theorem Jat.all{α:Type}{w w':World}{U:Nat->Prop}{J:List α->World->Prop}{pre:List α}(h:Jat w U J pre)(k:KR (fun _=>False) w w')(_:KO U (fun _=>False)):Jat w' U J pre :=
  ⟨h.2 _ _ _ none h.1 ⟨k.os,k.tape,k.output,k.size,fun i hi _=>k.block i hi id⟩ (fun _ e=>by cases e),
   fun s W W' row hs hg hr=>h.2 s W W' row hs hg (fun r e=>⟨Nat.le_trans k.size (hr r e).1,(hr r e).2⟩)⟩
theorem Jat.next{α:Type}{w w':World}{U:Nat->Prop}{J:List α->World->Prop}{pre xs:List α}(h:Jat w U J pre)(hs:w.heap.size<=w'.heap.size)(hj:J xs w'):Jat w' U J xs :=
 ⟨hj,fun s W W' row hs' hg hr=>h.2 s W W' row hs' hg (fun r e=>⟨Nat.le_trans hs (hr r e).1,(hr r e).2⟩)⟩
def Rq(B:Nat)(A:World)(row:Option Nat):Prop:=∀ r,row=some r->B<=r/\∃ o:Obj,A.heap[r]? = some o/\o.isCells=false
def Pw(A:World)(T:Nat->Prop):Prop:=∀ i,T i->∃ o:Obj,A.heap[i]? = some o/\o.isCells=true
theorem Qi{A B:World}{row:Option Nat}(hg:A.grownBy B row):KR (fun k=>some k=row) A B:=⟨hg.os,hg.tape,hg.output,hg.size,fun k hk hn=>hg.block k hk hn⟩
theorem Pw.apart{A:World}{T:Nat->Prop}{row:Option Nat}{n:Nat}(h:Pw A T)(hr:Rq n A row):KO T (fun k=>some k=row):=fun i hi e=>by
 obtain⟨o,ho,hc⟩:=h i hi
 obtain⟨_,o',ho',hc'⟩:=hr i e.symm
 rw[ho] at ho';cases ho';rw[hc] at hc';cases hc'
theorem KR.row{S:Nat->Prop}{w0 A B:World}{row:Option Nat}{n:Nat}(h:KR S w0 A)(hg:A.grownBy B row)(hr:Rq n A row)(hn:w0.heap.size<=n):KR S w0 B:=h.grown hg (fun k e hk=>absurd (hr k e).1 (by omega))
theorem Pw.keeps{W W':World}{S:Nat->Prop}(hc:Pw W S)(k:KR S W W')(B:Nat):KeepsFrom B W W':=⟨k.size,fun i o _ hi ho=>by
 have hlt:=(Array.getElem?_eq_some_iff.1 hi).1
 refine(k.block i hlt fun hs=>?_).trans hi
 obtain⟨o',h1,h2⟩:=hc i hs
 rw[hi] at h1;cases h1;rw[ho] at h2;cases h2⟩
theorem Pw.no{A:World}:Pw A (fun _=>False):=fun _ h=>h.elim
theorem TB{A:World}{p:Nat}{c:Array Value}{t:TypeId}{z:Nat×Nat}(h:A.heap[p]? = some (.cells c t z)):Pw A (Lh p):=fun i hi=>by
 cases hi;exact⟨_,h,rfl⟩
theorem Qx.cells{w:World}{p:Nat}{t:TypeId}{v:Value}(h:Qx w p t v):Pw w (Lh p):=TB h
theorem Qx.row{A B:World}{row:Option Nat}{n p:Nat}{t:TypeId}{v:Value}(h:Qx A p t v)(hg:A.grownBy B row)(hr:Rq n A row):Qx B p t v:=h.all (Qi hg) (h.cells.apart hr p rfl)
def VP(w:World)(D:Nat):Prop:=w.heap[D]? = some (.deferred (some []))
theorem VP.all{S:Nat->Prop}{w w':World}{D:Nat}(h:VP w D)(k:KR S w w')(hn:¬ S D):VP w' D:=k.at h hn
theorem VP.apart{w:World}{D:Nat}{T:Nat->Prop}(h:VP w D)(hc:Pw w T):KO (Lh D) T:=fun i hi ht=>by
 cases hi
 obtain⟨o,ho,hx⟩:=hc _ ht
 rw[show w.heap[D]? = _ from h] at ho;cases ho;cases hx
theorem RR(w:World)(D:Nat):KR (Lh D) w (W8 [D] w):=(KR.refl (Lh D) w).grown (grownBy_putObj' w D _) (fun k e _=>by cases e;rfl)
theorem VP.opens{w:World}{D:Nat}(h:VP w D):Y7 [D] w:=⟨h,trivial⟩
open Go.RowKit
def MJ(w:World)(p:Nat)(t:TypeId)(vs:List Value):Prop:=w.heap[p]? = some (.cells vs.toArray t (0,0))
theorem MJ.all{S:Nat->Prop}{w w':World}{p:Nat}{t:TypeId}{vs:List Value}(h:MJ w p t vs)(k:KR S w w')(hn:¬ S p):MJ w' p t vs:=k.at h hn
theorem MJ.lt{w:World}{p:Nat}{t:TypeId}{vs:List Value}(h:MJ w p t vs):p<w.heap.size:=M5 h
instance {w w':World} {p:Nat} {t:TypeId} {vs:List Value}:Cr w w' (MJ w p t vs) (MJ w' p t vs):=⟨fun h k=>h.all k id⟩
instance {w:World} {p:Nat} {t:TypeId} {vs:List Value}:Lv w (MJ w p t vs) (Lh p):=⟨fun h=>L8 h.lt⟩
theorem MJ.cells{w:World}{p:Nat}{t:TypeId}{vs:List Value}(h:MJ w p t vs):Pw w (Lh p):=TB h
theorem MJ.row{A B:World}{row:Option Nat}{n p:Nat}{t:TypeId}{vs:List Value}(h:MJ A p t vs)(hg:A.grownBy B row)(hr:Rq n A row):MJ B p t vs:=h.all (Qi hg) (h.cells.apart hr p rfl)
theorem MJ.cell{w:World}{p:Nat}{t:TypeId}{vs:List Value}{i:Nat}{v:Value}(h:MJ w p t vs)(hi:vs[i]? = some v):w.cell? ⟨p,i,none⟩=some v:=by
 rw[ML h];simpa using hi
theorem MJ.set{w:World}{p:Nat}{t:TypeId}{vs:List Value}(h:MJ w p t vs)(k:Nat)(v:Value):MJ (w.setCell ⟨p,k,none⟩ v) p t (vs.set k v):=by
 unfold MJ at *
 simp[World.setCell,Array.getElem?_modify,h]
def Rf(P:Program)(ty:TypeId)(n:Nat):Prop:=∃ d,P.underlying ty=some d/\d.isRow=true/\(P.info? ty).map (·.size)=some n
def OT(vs:List Value):Prop:=∀ v∈vs,v.oneCell'=true
theorem MX:OT []:=fun _ h=>by cases h
theorem L4{v:Value}{vs:List Value}(h:v.oneCell'=true)(k:OT vs):OT (v::vs):=fun x hx=>by
 rcases List.mem_cons.1 hx with rfl|hx
 ·exact h
 ·exact k x hx
theorem Qc{v0 v1:Value}{vs:List Value}(h:v0.oneCell'=true/\v1.oneCell'=true)(k:OT vs):OT (v0::v1::vs):=L4 h.1 (L4 h.2 (k))
theorem aEt{v0 v1 v2:Value}{vs:List Value}(h:v0.oneCell'=true/\v1.oneCell'=true/\v2.oneCell'=true)(k:OT vs):OT (v0::v1::v2::vs):=L4 h.1 (L4 h.2.1 (L4 h.2.2 (k)))
theorem Yq{v0 v1 v2 v3:Value}{vs:List Value}(h:v0.oneCell'=true/\v1.oneCell'=true/\v2.oneCell'=true/\v3.oneCell'=true)(k:OT vs):OT (v0::v1::v2::v3::vs):=L4 h.1 (L4 h.2.1 (L4 h.2.2.1 (L4 h.2.2.2 (k))))
theorem MS{v0 v1 v2 v3 v4:Value}{vs:List Value}(h:v0.oneCell'=true/\v1.oneCell'=true/\v2.oneCell'=true/\v3.oneCell'=true/\v4.oneCell'=true)(k:OT vs):OT (v0::v1::v2::v3::v4::vs):=L4 h.1 (L4 h.2.1 (L4 h.2.2.1 (L4 h.2.2.2.1 (L4 h.2.2.2.2 (k)))))
theorem Mv.oneC{w:World}{T:Nat->Prop}{v:Value}{l:List Nat}(h:Mv w T v l):oneC v=true:=by
 obtain⟨⟨a,cap,rfl,_⟩,_⟩:=h;rfl
theorem Mv.one{w:World}{T:Nat->Prop}{v:Value}{l:List Nat}(h:Mv w T v l):v.oneCell'=true:=by
 obtain⟨⟨a,cap,rfl,_⟩,_⟩:=h;rfl
section
variable {ro:Option Nat} {P:Program} {N:Nat} {Q:(Exit->(Nat->Value)->World->Prop)} {F:Nat->Value} {w:World} {o:Oper}
theorem LJ{ops:Array Oper}{rest:List Oper}{t:TypeId}{x:Operand}{vs:List Value}(hg:o.guard=none)(hd:OD N o.dst=true)(ho:o.op = .box t x)(hx:ev (M3 N F) x = .agg vs.toArray)
  (h:∀ p w',MJ w' p t vs->KS w Mb (Lh p)->KR (fun _=>False) w w'->wl ro P N ops Q rest (OQ F o.dst (.pointer (some ⟨p,0,none⟩))) w'):wl ro P N ops Q (o::rest) F w :=
 NV hg hd (OJ (v:=.pointer (some ⟨w.heap.size,0,none⟩)) (w':=w.alloc (.cells vs.toArray t)) (by simp[execOp,ho,hx,go_sem]) (h _ _ (heap_alloc_new w _) (L7 (Nat.le_refl _)) ((KR.refl _ _).alloc _)))
theorem LN{ops:Array Oper}{rest:List Oper}{t:TypeId}{n:Nat}{vs:List Value}(hg:o.guard=none)(hd:OD N o.dst=true)(ho:o.op = .alloc t)(hi:(P.info? t).map (fun i=>(i.zero,i.size))=some (some (.agg vs.toArray),n))
  (h:∀ p w',MJ w' p t vs->KS w Mb (Lh p)->KR (fun _=>False) w w'->wl ro P N ops Q rest (OQ F o.dst (.pointer (some ⟨p,0,none⟩))) w'):wl ro P N ops Q (o::rest) F w :=
 NV hg hd (OJ (v:=.pointer (some ⟨w.heap.size,0,none⟩)) (w':=w.alloc (.cells vs.toArray t)) (by simp[execOp,ho,(zero_of_info hi).1,go_sem]) (h _ _ (heap_alloc_new w _) (L7 (Nat.le_refl _)) ((KR.refl _ _).alloc _)))
theorem Ll{ops:Array Oper}{rest:List Oper}{ty t:TypeId}{x y:Operand}{p:Nat}{vs us:List Value}(hT:Rf P ty us.length)(hg:o.guard=none)(hdn:o.dst=none)(ho:o.op = .store ty x y)(hx:ev (M3 N F) x = .pointer (some ⟨p,0,none⟩))(hy:ev (M3 N F) y = .agg us.toArray)(hB:MJ w p t vs)(hl:vs.length=us.length)(h1:OT us)
  (h:∀ w',MJ w' p t us->KR (fun k=>k=p) w w'->wl ro P N ops Q rest F w'):wl ro P N ops Q (o::rest) F w:=by
 obtain⟨d,_,_,hsz⟩:=hT
 refine NV hg (by rw[hdn];rfl) (P8 ty x y ho p _ us.toArray t hx hy hB (by simpa using hl) (by rw[List.size_toArray];exact hsz) (all_oneCell_toArray h1) fun w' hw hk=>?_)
 rw[hdn]
 exact h w' hw hk
theorem Nx{ops:Array Oper}{rest:List Oper}{ty t:TypeId}{x y:Operand}{p k:Nat}{v u:Value}{vs:List Value}(hg:o.guard=none)(hdn:o.dst=none)(ho:o.op = .store ty x y)(hx:ev (M3 N F) x = .pointer (some ⟨p,k,none⟩))(hy:ev (M3 N F) y=v)(hB:MJ w p t vs)(hk:vs[k]? = some u)(hv:oneC v=true)
  (hs:(P.info? ty).map (·.size)=some 1)
  (h:∀ w',MJ w' p t (vs.set k v)->KR (fun k=>k=p) w w'->wl ro P N ops Q rest F w'):wl ro P N ops Q (o::rest) F w:=by
 have hc:=hB.cell hk
 have hf:w.frozen? ⟨p,k,none⟩=false:=Nm hB
 cases hq:P.info? ty with
 | none=>simp[hq] at hs
 | some i =>
  have hs':i.size=1:=by simpa [hq] using hs
  refine NV hg (by rw[hdn];rfl) ?_
  have e:(execOp (ev (M3 N F)) o).run P w = .ok .skip (w.setCell ⟨p,k,none⟩ v)\/(execOp (ev (M3 N F)) o).run P w = .ok (.value undef) (w.setCell ⟨p,k,none⟩ v):=by
   cases v <;> first
    | (simp[oneC] at hv;done)
    | simp[execOp,ho,hx,hy,Instr.storeAt,Instr.sureAddr,storeVar,sizeOf,typeInfo,hq,hs',Value.cells,hc,hf,go_sem]
  unfold Lg
  rw[hdn]
  rcases e with e|e <;> rw[e] <;> exact h _ (hB.set k v) ((KR.refl (fun k=>k=p) w).setCell ⟨p,k,none⟩ (fun _=>rfl) _)
end
section
variable {P:Program} {ρ:Operand->Value} {o:Oper} {w:World} {R:Value->World->Prop}
theorem KX{ty t:TypeId}{x:Operand}{p:Nat}{vs:List Value}(hT:Rf P ty vs.length)(ho:o.op = .load ty x)(hx:ρ x = .pointer (some ⟨p,0,none⟩))(hB:MJ w p t vs)(h:R (.agg vs.toArray) w):Lg P ρ o w R:=by
 obtain⟨d,hu,hd,hs⟩:=hT
 exact TF ho p hx _ t (0,0) d hB hu hd (by rw[List.size_toArray];exact hs) h
theorem KY{ty t:TypeId}{x:Operand}{p k:Nat}{vs:List Value}{v:Value}{d:TypeDesc}(ho:o.op = .load ty x)(hx:ρ x = .pointer (some ⟨p,k,none⟩))(hu:P.underlying ty=some d)(hB:MJ w p t vs)(hk:vs[k]? = some v)(hd:U5 d=true)(h:R v w):Lg P ρ o w R:=ZN ho hx hu hd (hB.cell hk) h
theorem M6{N:Nat}{F:Nat->Value}{p:Tmp}{ty t:TypeId}{q:Nat}{vs:List Value}(hT:Rf P ty vs.length)(ht:Nat.blt p N=true)(hp:F p = .pointer (some ⟨q,0,none⟩))(hB:MJ w q t vs):Ts P N F w (.cell p ty) (.agg vs.toArray):=by
 obtain⟨d,hu,hd,hs⟩:=hT
 exact⟨ht,_,hp,OO w q t ty _ (0,0) d hB hu hd (by rw[List.size_toArray];exact hs)⟩
theorem Po{N:Nat}{F:Nat->Value}{fn:Func}{p:Tmp}{ty t:TypeId}{q:Nat}{vs:List Value}{E:Ending->World->Prop}(hT:Rf P ty vs.length)(hm:F N=undef)(ht:Nat.blt p N=true)(h:fn.results = #[.cell p ty])(hp:F p = .pointer (some ⟨q,0,none⟩))(hB:MJ w q t vs)(hR:E (.returned (.agg vs.toArray)) w):Z5 P fn N E .ret F w:=by
 obtain⟨d,hu,hd,hs⟩:=hT
 exact⟨hm,fun a ha=>⟨_,Sd h _ _ q (by rw[ha.at' p ht];exact hp) _ t (0,0) d hB hu hd (by rw[List.size_toArray];exact hs),hR⟩⟩
end
def wqr(l:Option Nat)(P:Program)(N:Nat)(c:Code)(Q:(Exit->(Nat->Value)->World->Prop)):Nat->(Nat->Value)->World->Prop
 | 0,_,_=>False
 | m+1,F,w=>wq l P N c (Vw (wqr l P N c Q m) Q) F w
theorem Mh{l:Option Nat}{P:Program}{N:Nat}{c:Code}{Q:(Exit->(Nat->Value)->World->Prop)}{m:Nat}{F:Nat->Value}{w:World}(h:wq l P N c (Vw (wqr l P N c Q m) Q) F w):wqr l P N c Q (m+1) F w:=h
theorem ay2{l:Option Nat}{P:Program}{N:Nat}{c:Code}{Q:(Exit->(Nat->Value)->World->Prop)}:∀ (m:Nat) (F:Nat->Value) (w:World) (a:Act),Fr N F a->wqr l P N c Q m F w->Code.roundsIn (Xf l) 0 P c (Fp N Q) m a w:=by
 intro m
 induction m with
 | zero=>intro F w a _ h;exact h.elim
 | succ m ih =>
  intro F w a ha h
  refine wpIn_mono (h a ha) ?_
  rintro e a' w' ⟨F',hF,hq⟩
  cases e with
  | normal=>exact ih F' w' a' hF hq
  | _=>exact⟨F',hF,hq⟩
theorem OL{l:Option Nat}{P:Program}{N:Nat}{c:Code}{Q:(Exit->(Nat->Value)->World->Prop)}{F:Nat->Value}{w:World}(m:Nat)(h:wqr l P N c Q m F w):wq l P N (.loop c) Q F w :=
 fun a ha=>wpIn_loop_rounds m (ay2 m F w a ha h)
open Go.RowKit
theorem Mv.row{A B:World}{row:Option Nat}{n:Nat}{T:Nat->Prop}{v:Value}{l:List Nat}(h:Mv A T v l)(hg:A.grownBy B row)(hr:Rq n A row):Mv B T v l:=by
 obtain⟨⟨a,cap,rfl,h1,h2,h3,hl,hc⟩,hL,hT⟩:=h
 have k:=Qi hg
 refine⟨⟨a,cap,rfl,h1,h2,h3,hl,fun hpos=>?_⟩,hL.mono k,hT⟩
 obtain⟨b,off,rfl,hb,hcell⟩:=hc hpos
 refine⟨b,off,rfl,Nat.lt_of_lt_of_le hb k.size,fun i hi=>(World.cell?_of_block (k.block b hb fun e=>?_)).trans (hcell i hi)⟩
 obtain⟨_,o,ho,hn⟩:=hr b e.symm
 have:=hcell 0 hpos
 unfold World.cell? at this
 simp only at this
 rw[ho] at this
 cases o <;> simp_all [Obj.isCells]
theorem VP.far{w:World}{D:Nat}{T:Nat->Prop}(hd:w.heap.size<=D)(hL:PI w T):KO (Lh D) T:=fun i hi ht=>by
 cases hi
 exact absurd (hL _ ht) (by omega)
def asP(B:Nat)(Kp:World->World->Prop)(I:World->Prop)(Ax:(Nat->Value)->World->Prop)(W:World):Exit->(Nat->Value)->World->Prop
 | .normal,F,W'=>KeepsFrom B W W'/\Kp W W'/\I W'/\Ax F W'
 | _,_,_=>False
def aFt(B:Nat)(Kp:World->World->Prop)(J Jx:World->Prop)(W:World):Exit->(Nat->Value)->World->Prop
 | .normal,_,W'=>KeepsFrom B W W'/\Kp W W'/\J W'
 | .ret,_,W'=>KeepsFrom B W W'/\Jx W'
 | _,_,_=>False
def aEy{α:Type}(Ix:List α->World->Prop):Code->List α->World->Prop
 | .ret,pre,W=>Ix pre W
 | _,_,_=>False
theorem aBm{α:Type}{B:Nat}{Ix:List α->World->Prop}(h:OwnFrom B Ix):∀ c,OwnFrom B (aEy Ix c):=by
 intro c s W W' row hs hg hr
 cases c <;> first|exact h s W W' row hs hg hr|exact hs.elim
section
variable {P:Program} {fn:Func} {N:Nat} {R:Ending->World->Prop} {F:Nat->Value} {w:World}
theorem O3{p:Tmp}{ty t:TypeId}{q:Nat}{v:Value}{d:TypeDesc}(hu:P.underlying ty=some d)(hd:U5 d=true)(ht:Nat.blt p N=true)(hp:F p = .pointer (some ⟨q,0,none⟩))(hB:Qx w q t v):Ts P N F w (.cell p ty) v:=by
 refine⟨ht,_,hp,?_⟩
 have hc:=hB.cell
 cases d <;> simp[U5] at hd <;> simp[loadVar,isAgg,run_underlying hu,hc,go_sem]
theorem R8{ms:List Nat}{r1 r2:ResultVar}{v1 v2:Value}(hm:F N=OZ ms)(ho:Y7 ms w)(h:fn.results = #[r1,r2])(h1:Ts P N F (W8 ms w) r1 v1)(h2:Ts P N F (W8 ms w) r2 v2)
  (hR:R (.returned (.tuple #[v1,v2])) (W8 ms w)):aFK P fn N R .ret F w:=by
 refine⟨ms,hm,ho,fun a ha=>⟨_,?_,hR⟩⟩
 cases r1 <;> cases r2 <;> simp only[Ts] at h1 h2
 ·obtain⟨b1,h1⟩:=h1;obtain⟨b2,h2⟩:=h2
  rw[← ha.at' _ b1] at h1;rw[← ha.at' _ b2] at h2
  simp[results,h] at *;simp[h1,h2]
 ·obtain⟨b1,h1⟩:=h1;obtain⟨b2,ad,e,hl⟩:=h2
  rw[← ha.at' _ b1] at h1;rw[← ha.at' _ b2] at e
  simp[results,h] at *;simp[h1,e,asAddr,hl]
 ·obtain⟨b1,ad,e,hl⟩:=h1;obtain⟨b2,h2⟩:=h2
  rw[← ha.at' _ b1] at e;rw[← ha.at' _ b2] at h2
  simp[results,h] at *;simp[h2,e,asAddr,hl]
 ·obtain⟨b1,ad,e,hl⟩:=h1;obtain⟨b2,ad2,e2,hl2⟩:=h2
  rw[← ha.at' _ b1] at e;rw[← ha.at' _ b2] at e2
  simp[results,h] at *;simp[e,e2,asAddr,hl,hl2]
end
theorem Pr{P:Program}{ρ:Operand->Value}{o:Oper}{w:World}{R:Value->World->Prop}{ty t:TypeId}{x y:Operand}{p:Nat}{vs us:List Value}(hT:Rf P ty us.length)(ho:o.op = .store ty x y)(hx:ρ x = .pointer (some ⟨p,0,none⟩))(hy:ρ y = .agg us.toArray)(hB:MJ w p t vs)(hl:vs.length=us.length)(h1:OT us)
  (h:∀ w',MJ w' p t us->KR (fun k=>k=p) w w'->R undef w'):Lg P ρ o w R:=by
 obtain⟨d,_,_,hsz⟩:=hT
 exact P8 ty x y ho p _ us.toArray t hx hy hB (by simpa using hl) (by rw[List.size_toArray];exact hsz) (all_oneCell_toArray h1) fun w' hw hk=>h w' hw hk
section
variable {P:Program} {ρ:Operand->Value} {o:Oper} {w:World} {R:Value->World->Prop}
theorem ayV{t t':TypeId}{k k':IntKind}{x y:Operand}{m r:Int}(n:Nat)(ho:o.op = .binOp .shl t x y t')(hx:ρ x = .int k m)(hy:ρ y = .int k' (n:Int))(hr:k.wrap (m*2 ^ min n k.bits)=r)(h:R (.int k r) w):Lg P ρ o w R :=
 OJ (v:=.int k (k.wrap (m*2 ^ min n k.bits))) (w':=w) (by
  have h0:(0:Int)<=(n:Int):=by omega
  simp only[execOp,ho,hx,hy,binOp_shl,shift_shl_any k k' m (n:Int) h0,Int.toNat_natCast,eqGuard]
  rfl) (by rw[hr];exact h)
theorem W0{P:Program}{ρ:Operand->Value}{o:Oper}{w:World}{R:Value->World->Prop}{t t':TypeId}{k:IntKind}{x y:Operand}{m n r:Int}(ho:o.op = .binOp .and t x y t')(hx:ρ x = .int k m)(hy:ρ y = .int k n)(hr:bits .and k m n=r)(h:R (.int k r) w):Lg P ρ o w R :=
 OJ (v:=.int k (bits .and k m n)) (w':=w) (by simp[execOp,ho,hx,hy,go_sem]) (by rw[hr];exact h)
end
section
variable {P:Program} {ρ:Operand->Value} {o:Oper} {w:World} {R:Value->World->Prop}
theorem R0{t t':TypeId}{x y:Operand}{a:Addr}(ho:o.op = .binOp .eql t x y t')(hx:ρ x = .pointer (some a))(hy:ρ y = .pointer none){d:TypeId}(hu:P.underlying t=some (.pointer d))(h:R (.bool false) w):Lg P ρ o w R :=
 OJ (v:=.bool false) (w':=w) (by
  have hq:P.underlying t=some (.pointer (P.pointee t)):=by simp[Program.pointee,hu]
  simp[execOp,ho,hx,hy,run_eql_pointer_nil w t (some a) hq,go_sem]) h
end
open Go.RowKit
def OX(w:World):Prop:=W9 w 2 aCS
theorem OX.all{w w':World}(h:OX w)(k:KR (fun _=>False) w w'):OX w':=W9.all h k id
theorem OX.but{w w':World}{T:Nat->Prop}(h:OX w)(k:KR T w w')(ha:∀ i,T i->2<i):OX w':=W9.all h k (fun x=>absurd (ha _ x) (by decide))
theorem OX.pos{w:World}(h:OX w):2<w.heap.size:=W9.lt h
section
variable {P:Program} {ρ:Operand->Value} {o:Oper} {w:World} {R:Value->World->Prop}
theorem aFE{f:FuncId}{x:Operand}{v:Value}(ho:o.op = .makeFunc (.func f) #[] #[x])(hx:ρ x=v)(h:R (.func (.func f) #[] #[v]) w):Lg P ρ o w R :=
 OJ (v:=.func (.func f) #[] #[v]) (w':=w) (by simp[execOp,ho,hx,show ∀ cap,(Instr.makeFunc (.func f) #[] cap).run P w = .ok (.func (.func f) #[] cap) w from fun _=>rfl]) h
end
theorem X8(n:Int)(w0:World) :
  Calls Tryz.prog 133 #[.int .i64 (n)] w0 fun e w'=>e = .returned (.int .i64 (cl 1048576 n))/\KR (fun _=>False) w0 w':=by
 refine Ly (args:=[iv n]) 6 Tryz.func133 rfl rfl (Nat.le_of_ble_eq_true rfl) ?_
 refine KM (KL (Lb (iv 0) LE (KQ ?_)))
 have s3:=K4 (iv n)
 have s4:=K4 (undef)
 refine KK (KM (KL (K2 Lw s3 (KN (iv (min n 1048576)) rr (RB rfl rfl rfl rfl rr) (KN (iv (cl 1048576 n)) rr (R9 rfl rfl rfl (by unfold cl;omega) rr) (Lb (iv (cl 1048576 n)) LE (KQ ?_)))))))
 have s8:=K4 (iv (cl 1048576 n))
 refine KK (Le ?_)
 exact LC (v:=iv (cl 1048576 n)) s4 rfl rfl s8 ⟨rfl,(KR.refl (fun _=>False) w0)⟩
theorem Xq{w w':World}(h:Below w.heap.size w w'):KR (fun _=>False) w w':=⟨h.os,h.tape,h.output,h.size,fun k hk _=>h.block k hk⟩
open Go.ChangeShapes Go.WideShapes Go.ChangeAt Go.RowKit
theorem Tryz.gOrder : Tryz.prog.globalNamed "clapboard/scan.order" = some 2 := by kernel_rfl
theorem Tryz.tOrder:(Tryz.prog.globals[2]?).map (·.type)=some 68:=by kernel_rfl
theorem Tryz.c16o:Tryz.prog.cellsOf 68=16:=by kernel_rfl
theorem aAT{W:World}{f:Nat}{t:TypeId}{n:Nat}{l:List Int}{cs:List Value}{p:List MemPlace}(hu:Tryz.prog.underlying t=some (.array n 3))(hc:Tryz.prog.cellsOf t=n)
  (hd:DataW.trod (fun _=>()) Tryz.prog W 0 (fun _=>true) false f t cs=some (.agg (l.map aCs),p)):cs.length=n:=by
 obtain⟨xs,m,rfl,hx,hl,hn,hel⟩:=DataW.trod_array hu hd
 rw[hc] at hl
 exact hl
theorem XQ{W:World}{n:String}{g:Nat}{cs:Array Value}(hg:Tryz.prog.globalNamed n=some g)(h:W.var? Tryz.prog n=some cs):∃ t f,W.heap[g]? = some (.cells cs t f):=by
 simp only[World.var?,hg,Option.bind_some] at h
 cases ho:W.heap[g]? with
 | none=>simp[ho] at h
 | some o =>
  cases o <;> simp[ho] at h
  subst h;exact⟨_,_,rfl⟩
theorem aC7{W : World}{f : Nat}{cs : Array Value}{p : List MemPlace}(hv : World.var? Tryz.prog W "clapboard/scan.order" = some cs)
  (hd:DataW.trod (fun _=>()) Tryz.prog W 0 (fun _=>true) false f 68 cs.toList=some (Rows.laid_clapboard_scan_order,p)):OX W:=by
 have key:=Ys (l:=[0,1,4,8,5,2,3,6,9,12,13,10,7,11,14,15]) Tryz.underlying68 Tryz.c16o hd
 have hlen:=aAT (l:=[0,1,4,8,5,2,3,6,9,12,13,10,7,11,14,15]) Tryz.underlying68 Tryz.c16o hd
 obtain⟨t,fz,hb⟩:=XQ Tryz.gOrder hv
 have e:cs=(Mp 16 aCS).toArray:=by
  apply Array.ext'
  apply List.ext_getElem?
  intro i
  by_cases hi:i<16
  ·rw[key i hi]
   show _=(Mp 16 aCS)[i]?
   rw[R3 hi]
   have e2:∀ i,i<16->([0,1,4,8,5,2,3,6,9,12,13,10,7,11,14,15]:List Int).getD i 0=aCS i:=by decide
   rw[e2 i hi]
  ·rw[List.getElem?_eq_none (by omega)]
   show _=(Mp 16 aCS)[i]?
   rw[List.getElem?_eq_none (by rw[OV];omega)]
 rw[e] at hb
 exact⟨t,fz,hb⟩
theorem Ty(bs:List Bool):Rz (Mi (bs++Ln bs.length))=bs++Ln bs.length:=by
 have hl:(bs++Ln bs.length).length=8*(bs.length/8+1):=by rw[List.length_append,Nk];omega
 generalize bs++Ln bs.length=x at hl
 have hn:Om x.length=bs.length/8+1:=by unfold Om;omega
 apply List.ext_getElem
 ·rw[Pi,N8,hn,hl]
 ·intro i h1 h2
  have h3:i<8*(Mi x).length:=by rwa [Pi] at h1
  have e1:=Z6 (Mi x) i h3
  rw[Z0 x i (by rwa [N8] at h3),List.getD_eq_getElem?_getD,List.getD_eq_getElem?_getD,List.getElem?_eq_getElem h1,List.getElem?_eq_getElem h2] at e1
  simpa using e1
theorem aAv(bs:List Bool)(h:bs.length<1099511627776):PA (Mi bs):=⟨WV bs,by rw[N8];unfold Om;omega⟩
theorem aBO(bs:List Bool)(h:bs.length+8<1099511627776):Pb (Mi (bs++Ln bs.length)) (some bs.length)=0:=by
 have hle:(bs++Ln bs.length).length<=bs.length+8:=by rw[List.length_append,Nk];omega
 have hf:=aAv (bs++Ln bs.length) (by omega)
 have hb:bs.length<=8*(Mi (bs++Ln bs.length)).length:=by
  have:=Pi (Mi (bs++Ln bs.length))
  rw[Ty,List.length_append] at this;omega
 have h1:=(aCm (Mi (bs++Ln bs.length)) bs.length hf hb).1 (by rw[Ty];simp)
 unfold Pb SP
 simp only
 rw[decide_eq_true h1,if_pos rfl]
theorem YK(bs cs:List Bool):Nn (Mi (bs++cs)) 0 bs:=(ZQ (bs++cs)).left
structure FD where
  W:Int
  H:Int
  p0:List Nat
  p1:List Nat
  p2:List Nat
def FD.none:FD:=⟨0,0,[],[],[]⟩
def FD.pl(f:FD)(p:Int):List Nat:=if p=0 then f.p0 else if p=1 then f.p1 else f.p2
def Mz(n:Int):Bool:=decide (8<=n) && decide (n<=64) && decide (Int.tmod n 8=0)
theorem MK(n:Int):Mz n=true↔8<=n/\n<=64/\n%8=0:=by
 unfold Mz
 simp only[Bool.and_eq_true,decide_eq_true_eq]
 constructor
 ·rintro ⟨⟨h1,h2⟩,h3⟩;rw[Int.tmod_eq_emod_of_nonneg (by omega)] at h3;exact⟨h1,h2,h3⟩
 ·rintro ⟨h1,h2,h3⟩;refine⟨⟨h1,h2⟩,?_⟩;rw[Int.tmod_eq_emod_of_nonneg (by omega)];exact h3
theorem Vi{n:Int}(h:¬ 8<=n):Mz n=false:=by unfold Mz;simp[h]
theorem TE{n:Int}(h:¬ n<=64):Mz n=false:=by unfold Mz;simp[h]
theorem U3{n:Int}(h1:8<=n)(h2:n<=64):Mz n=decide (Int.tmod n 8=0):=by unfold Mz;simp[h1,h2]
theorem OU{w h:Int}(hw:Mz w=true)(hh:Mz h=true):64<=w*h/\w*h<=4096:=by
 rw[MK] at hw hh
 have h1:8*8<=w*h:=Int.mul_le_mul hw.1 hh.1 (by omega) (by omega)
 have h2:w*h<=64*64:=Int.mul_le_mul hw.2.1 hh.2.1 (by omega) (by omega)
 omega
theorem Pl(q n:Nat):Int.tdiv (q:Int) (n:Int)=((q/n:Nat):Int):=by rw[Int.tdiv_eq_ediv_of_nonneg (by omega)];rfl
theorem Pn(q n:Nat):Int.tmod (q:Int) (n:Int)=((q%n:Nat):Int):=by rw[Int.tmod_eq_emod_of_nonneg (by omega)];rfl
theorem PH{n:Int}(h:0<=n):Int.tdiv n 2=n/2:=Int.tdiv_eq_ediv_of_nonneg h
theorem Zu{n:Int}(h:0<=n):Int.tdiv n 4=n/4:=Int.tdiv_eq_ediv_of_nonneg h
def PD(f:FD):Prop:=Mz f.W=true/\Mz f.H=true/\(f.p0.length:Int)=f.W*f.H/\(f.p1.length:Int)=Int.tdiv (f.W*f.H) 4/\(f.p2.length:Int)=Int.tdiv (f.W*f.H) 4
instance (f:FD):Decidable (PD f):=by unfold PD;infer_instance
theorem aEa{f:FD}(h:PD f):f.p0.length<=4096/\f.p1.length<=1024/\f.p2.length<=1024:=by
 obtain⟨h1,h2,h3,h4,h5⟩:=h
 have ha:=OU h1 h2
 rw[Zu (by omega)] at h4 h5
 omega
def NU(f:FD):Int:=if PD f then 0 else 70
theorem aAL{f:FD}(h:PD f):NU f=0:=if_pos h
theorem O4{f:FD}(h:¬ PD f):NU f=70:=if_neg h
theorem MP(f:FD):NU f=0↔PD f:=by
 unfold NU;split <;> simp_all
def Lc(f:FD)(p:Int):Int×Int:=if PD f/\0<=p/\p<=2 then (if p=0 then (f.W,f.H) else (Int.tdiv f.W 2,Int.tdiv f.H 2)) else (0,0)
theorem Qa{f:FD}{p:Int}(h:¬ (PD f/\0<=p/\p<=2)):Lc f p=(0,0):=if_neg h
theorem Vp{f:FD}{p:Int}(h:PD f)(hp:p=0):Lc f p=(f.W,f.H):=by
 unfold Lc;rw[if_pos ⟨h,by omega,by omega⟩,if_pos hp]
theorem Vq{f:FD}{p:Int}(h:PD f)(h0:0<=p)(h2:p<=2)(hp:¬ p=0):Lc f p=(Int.tdiv f.W 2,Int.tdiv f.H 2):=by
 unfold Lc;rw[if_pos ⟨h,h0,h2⟩,if_neg hp]
theorem N7{f:FD}{p:Int}(h:(Lc f p).1≠0):PD f/\0<=p/\p<=2:=by
 unfold Lc at h
 split at h
 ·assumption
 ·exact absurd rfl h
theorem TY{f:FD}{p:Int}(h:(Lc f p).1≠0):p=0\/p=1\/p=2:=by
 have:=N7 h;omega
theorem NF(f:FD)(p:Int):0<=(Lc f p).1/\(Lc f p).1<=64/\0<=(Lc f p).2/\(Lc f p).2<=64:=by
 by_cases h:PD f/\0<=p/\p<=2
 ·have hw:=(MK _).1 h.1.1
  have hh:=(MK _).1 h.1.2.1
  unfold Lc;rw[if_pos h]
  split
  ·simp only;omega
  ·simp only;rw[PH (by omega),PH (by omega)];omega
 ·rw[Qa h];simp
theorem NW{f:FD}{p:Int}(h:PD f/\0<=p/\p<=2):4<=(Lc f p).1/\4<=(Lc f p).2/\(Lc f p).1*(Lc f p).2=((f.pl p).length:Int):=by
 have hw:=(MK _).1 h.1.1
 have hh:=(MK _).1 h.1.2.1
 obtain⟨⟨hs1,hs2,h0,h1,h2⟩,hp0,hp2⟩:=h
 have ha:=OU hs1 hs2
 unfold Lc;rw[if_pos ⟨⟨hs1,hs2,h0,h1,h2⟩,hp0,hp2⟩]
 by_cases hp:p=0
 ·rw[if_pos hp];unfold FD.pl;rw[if_pos hp]
  simp only
  exact⟨by omega,by omega,h0.symm⟩
 ·rw[if_neg hp]
  have hl:((f.pl p).length:Int)=Int.tdiv (f.W*f.H) 4:=by
   unfold FD.pl;rw[if_neg hp];split
   ·exact h1
   ·exact h2
  simp only
  rw[PH (by omega),PH (by omega),hl,Zu (by omega)]
  refine⟨by omega,by omega,?_⟩
  obtain⟨a,hA⟩:∃ a,f.W=2*a:=⟨f.W/2,by omega⟩
  obtain⟨b,hB⟩:∃ b,f.H=2*b:=⟨f.H/2,by omega⟩
  rw[hA,hB,show 2*a/2=a by omega,show 2*b/2=b by omega,show 2*a*(2*b)=4*(a*b) by rw[Int.mul_assoc,Int.mul_left_comm a 2 b,← Int.mul_assoc];rfl]
  omega
def Sv(f:FD)(p x y:Int):Int:=min (max y 0) ((Lc f p).2-1)*(Lc f p).1+min (max x 0) ((Lc f p).1-1)
theorem az2{w h x y:Int}(hw:1<=w)(hx:0<=x)(hx2:x<=w-1)(hy:0<=y)(hy2:y<=h-1):0<=y*w/\0<=y*w+x/\y*w+x<w*h:=by
 have h1:0<=y*w:=Int.mul_nonneg hy (by omega)
 have h2:y*w<=(h-1)*w:=Int.mul_le_mul_of_nonneg_right hy2 (by omega)
 have h3:(h-1)*w=w*h-w:=by rw[Int.sub_mul,Int.one_mul,Int.mul_comm]
 omega
theorem Vr{f:FD}{p:Int}(x y:Int)(h:(Lc f p).1≠0):0<=min (max y 0) ((Lc f p).2-1)*(Lc f p).1/\min (max y 0) ((Lc f p).2-1)*(Lc f p).1<=4096/\0<=Sv f p x y/\Sv f p x y<((f.pl p).length:Int)/\Sv f p x y<=8192:=by
 have hs:=N7 h
 obtain⟨h1,h2,h3⟩:=NW hs
 have hb:=NF f p
 unfold Sv
 have hc:=az2 (w:=(Lc f p).1) (h:=(Lc f p).2) (x:=min (max x 0) ((Lc f p).1-1)) (y:=min (max y 0) ((Lc f p).2-1)) (by omega) (by omega) (by omega) (by omega) (by omega)
 have h4:(Lc f p).1*(Lc f p).2<=64*64:=Int.mul_le_mul hb.2.1 hb.2.2.2 hb.2.2.1 (by omega)
 rw[h3] at hc
 omega
def NY(f:FD)(p x y:Int):Int:=if (Lc f p).1=0 then 0 else (((f.pl p).getD (Sv f p x y).toNat 0:Nat):Int)
theorem SW{f:FD}{p:Int}(x y:Int)(h:(Lc f p).1=0):NY f p x y=0:=if_pos h
theorem W6{f:FD}{p:Int}(x y:Int)(h:(Lc f p).1≠0):NY f p x y=(((f.pl p).getD (Sv f p x y).toNat 0:Nat):Int):=if_neg h
def LU(n:Int):Int:=min (max n (-64)) 128
theorem Vl(n:Int) : -64<=LU n/\LU n<=128:=by unfold LU;omega
def VG(f:FD)(p x y:Int):Nat->Int:=fun i=>NY f p (LU x+((i%4:Nat):Int)) (LU y+((i/4:Nat):Int))
def Wr(l m:List Nat):Bool:=(Mx l).toList==(Mx m).toList
def Q6(a b:FD):Bool:=decide (a.W=b.W) && decide (a.H=b.H) && (Wr a.p0 b.p0 && Wr a.p1 b.p1 && Wr a.p2 b.p2)
theorem QF{a b:FD}(h:((Mx a.p0).toList==(Mx b.p0).toList)=false):Q6 a b=false:=by unfold Q6 Wr;rw[h];simp
theorem QD{a b:FD}(h:((Mx a.p1).toList==(Mx b.p1).toList)=false):Q6 a b=false:=by unfold Q6 Wr;rw[h];simp
theorem Qz{a b:FD}(h:¬ a.W=b.W):Q6 a b=false:=by unfold Q6;simp[h]
theorem QG{a b:FD}(h:¬ a.H=b.H):Q6 a b=false:=by unfold Q6;simp[h]
theorem QJ{a b:FD}(h0:((Mx a.p0).toList==(Mx b.p0).toList)=true)(h1:((Mx a.p1).toList==(Mx b.p1).toList)=true)(hw:a.W=b.W)(hh:a.H=b.H):Q6 a b=((Mx a.p2).toList==(Mx b.p2).toList):=by
 unfold Q6 Wr;rw[h0,h1];simp[hw,hh]
def aFZ(l m:List Nat)(s:Int):Nat->Int
 | 0=>s
 | k+1=>max (max (aFZ l m s k) (((l.getD k 0:Nat):Int)-((m.getD k 0:Nat):Int))) (-(((l.getD k 0:Nat):Int)-((m.getD k 0:Nat):Int)))
def aCg(a b:FD):Prop:=PD a/\PD b/\a.W=b.W/\a.H=b.H
instance (a b:FD):Decidable (aCg a b):=by unfold aCg;infer_instance
def Nj(f:FD):FD:=if PD f then f else FD.none
theorem NL{f:FD}(h:PD f):Nj f=f:=if_pos h
theorem PP{f:FD}(h:¬ PD f):Nj f=FD.none:=if_neg h
def FD.setp(f:FD)(p:Int)(j n:Nat):FD:=if p=0 then { f with p0:=f.p0.set j n } else if p=1 then { f with p1:=f.p1.set j n } else { f with p2:=f.p2.set j n }
def L6(n:Int):Nat:=(min (max n 0) 255).toNat
theorem OG(n:Int):L6 n<256:=by unfold L6;omega
def within(w h u v:Int):Prop:=0<=u/\u<w/\0<=v/\v<h
instance (w h u v:Int):Decidable (within w h u v):=by unfold within;infer_instance
def MU(f:FD)(p x y:Int)(b:Nat->Int):Nat->FD
 | 0=>Nj f
 | k+1=>if within (Lc f p).1 (Lc f p).2 (LU x+((k%4:Nat):Int)) (LU y+((k/4:Nat):Int)) then
   (MU f p x y b k).setp p ((LU y+((k/4:Nat):Int))*(Lc f p).1+(LU x+((k%4:Nat):Int))).toNat (L6 (b k))
  else MU f p x y b k
def Qd(f:FD)(p x y:Int)(b:Nat->Int):FD:=MU f p x y b 16
theorem UL{f:FD}{p x y:Int}{b:Nat->Int}{k:Nat}(h:¬ within (Lc f p).1 (Lc f p).2 (LU x+((k%4:Nat):Int)) (LU y+((k/4:Nat):Int))):MU f p x y b (k+1)=MU f p x y b k:=by rw[MU,if_neg h]
theorem aBH{f:FD}{p x y:Int}{b:Nat->Int}{k:Nat}(h:within (Lc f p).1 (Lc f p).2 (LU x+((k%4:Nat):Int)) (LU y+((k/4:Nat):Int))) :
  MU f p x y b (k+1)=(MU f p x y b k).setp p ((LU y+((k/4:Nat):Int))*(Lc f p).1+(LU x+((k%4:Nat):Int))).toNat (L6 (b k)):=by rw[MU,if_pos h]
theorem aAW(f:FD)(p:Int)(j n:Nat):(f.setp p j n).W=f.W/\(f.setp p j n).H=f.H/\(f.setp p j n).p0.length=f.p0.length/\(f.setp p j n).p1.length=f.p1.length/\(f.setp p j n).p2.length=f.p2.length:=by
 unfold FD.setp
 split
 ·simp
 ·split <;> simp
theorem RH(f:FD)(p x y:Int)(b:Nat->Int)(k:Nat):(MU f p x y b k).W=(Nj f).W/\(MU f p x y b k).H=(Nj f).H/\(MU f p x y b k).p0.length=(Nj f).p0.length/\(MU f p x y b k).p1.length=(Nj f).p1.length/\(MU f p x y b k).p2.length=(Nj f).p2.length:=by
 induction k with
 | zero=>simp[MU]
 | succ k ih =>
  rw[MU]
  split
  ·have h:=aAW (MU f p x y b k) p ((LU y+((k/4:Nat):Int))*(Lc f p).1+(LU x+((k%4:Nat):Int))).toNat (L6 (b k))
   omega
  ·exact ih
theorem Up{f:FD}{p:Int}(x y:Int)(b:Nat->Int)(k:Nat)(h:(Lc f p).1≠0):(MU f p x y b k).p0.length=f.p0.length/\(MU f p x y b k).p1.length=f.p1.length/\(MU f p x y b k).p2.length=f.p2.length:=by
 have h1:=RH f p x y b k
 rw[NL (N7 h).1] at h1
 exact h1.2.2
theorem Ow{f:FD}{p u v:Int}(h:within (Lc f p).1 (Lc f p).2 u v):(Lc f p).1≠0/\0<=v*(Lc f p).1/\v*(Lc f p).1<=4096/\0<=v*(Lc f p).1+u/\v*(Lc f p).1+u<((f.pl p).length:Int):=by
 obtain⟨h1,h2,h3,h4⟩:=h
 have hne:(Lc f p).1≠0:=by omega
 obtain⟨_,_,hl⟩:=NW (N7 hne)
 have hb:=NF f p
 have hc:=az2 (w:=(Lc f p).1) (h:=(Lc f p).2) (x:=u) (y:=v) (by omega) (by omega) (by omega) (by omega) (by omega)
 have h5:(Lc f p).1*(Lc f p).2<=64*64:=Int.mul_le_mul hb.2.1 hb.2.2.2 hb.2.2.1 (by omega)
 rw[hl] at hc h5
 exact⟨hne,by omega,by omega,by omega,by omega⟩
def VW(l:List Nat)(p i:Nat):Nat:=if 0<l.length then (l.getD ((i+7*p)%l.length) 0+i/16)%256 else i*3%256
theorem TX(l:List Nat)(p i:Nat):VW l p i<256:=by unfold VW;split <;> omega
theorem Wm{l:List Nat}{p i:Nat}(h:0<l.length):VW l p i=(l.getD ((i+7*p)%l.length) 0+i/16)%256:=if_pos h
theorem Wa{l:List Nat}{p i:Nat}(h:¬ 0<l.length):VW l p i=i*3%256:=if_neg h
def SA(l:List Nat)(p n:Nat):List Nat:=(List.range n).map (VW l p)
theorem QP(l:List Nat)(p n:Nat):SA l p (n+1)=SA l p n ++ [VW l p n]:=by unfold SA;rw[List.range_succ,List.map_append];rfl
theorem N9(l:List Nat)(p n:Nat):(SA l p n).length=n:=by simp[SA]
theorem Yn(l:List Nat)(p n:Nat):∀ x∈SA l p n,x<256:=by
 intro x hx
 obtain⟨i,_,rfl⟩:=List.mem_map.1 hx
 exact TX l p i
def pn(n:Nat):Nat->Nat
 | 0=>n
 | _=>n/4
theorem aCN(n k:Nat):pn n k<=n:=by cases k <;> simp[pn];omega
def sd(w:Nat):Nat:=8*(1+w%3)
def LP(w h:Nat)(l:List Nat):FD:=⟨(sd w:Nat),(sd h:Nat),SA l 0 (sd w*sd h),SA l 1 (sd w*sd h/4),SA l 2 (sd w*sd h/4)⟩
theorem aBr(w:Nat):sd w=8\/sd w=16\/sd w=24:=by unfold sd;omega
theorem aFj(w h:Nat)(l:List Nat):PD (LP w h l):=by
 have hs:∀ n,Mz ((sd n:Nat):Int)=true:=fun n=>by
  rcases aBr n with e|e|e <;> rw[e] <;> decide
 refine⟨hs w,hs h,?_,?_,?_⟩
 ·simp only[LP,N9,Int.natCast_mul]
 ·simp only[LP,N9]
  rw[← Int.natCast_mul];exact(Pl _ 4).symm
 ·simp only[LP,N9]
  rw[← Int.natCast_mul];exact(Pl _ 4).symm
theorem FD.eq{a b:FD}(h1:a.W=b.W)(h2:a.H=b.H)(h3:a.p0=b.p0)(h4:a.p1=b.p1)(h5:a.p2=b.p2):a=b:=by
 cases a;cases b;simp only at *;subst h1;subst h2;subst h3;subst h4;subst h5;rfl
theorem aEI{f g:FD}(h:PD f)(hw:g.W=f.W)(hh:g.H=f.H)(h0:g.p0.length=f.p0.length)(h1:g.p1.length=f.p1.length)(h2:g.p2.length=f.p2.length):PD g:=by
 obtain⟨a,b,c,d,e⟩:=h
 exact⟨by rw[hw];exact a,by rw[hh];exact b,by rw[hw,hh,h0];exact c,by rw[hw,hh,h1];exact d,by rw[hw,hh,h2];exact e⟩
theorem Ym{f g:FD}(h:PD f)(hg:PD g)(hw:g.W=f.W)(hh:g.H=f.H)(p:Int):Lc g p=Lc f p:=by
 unfold Lc;rw[hw,hh]
 by_cases hp:0<=p/\p<=2
 ·have e1:(PD g/\0<=p/\p<=2):=⟨hg,hp⟩
  have e2:(PD f/\0<=p/\p<=2):=⟨h,hp⟩
  simp only[e1,e2,and_self,if_true]
 ·have e1:¬ (PD g/\0<=p/\p<=2):=fun x=>hp x.2
  have e2:¬ (PD f/\0<=p/\p<=2):=fun x=>hp x.2
  simp only[e1,e2,if_false]
theorem aB8{f:FD}(h:PD f)(p x y:Int)(b:Nat->Int)(k:Nat):PD (MU f p x y b k):=by
 obtain⟨a1,a2,a3,a4,a5⟩:=RH f p x y b k
 rw[NL h] at a1 a2 a3 a4 a5
 exact aEI h a1 a2 a3 a4 a5
def SK(l:List Nat)(j c:Nat->Nat):Nat->List Nat
 | 0=>l
 | n+1=>(SK l j c n).set (j n) (c n)
theorem Xk(l:List Nat)(j c:Nat->Nat)(n:Nat):(SK l j c n).length=l.length:=by
 induction n with
 | zero=>rfl
 | succ n ih=>rw[SK,List.length_set,ih]
theorem V7(l:List Nat)(i q x:Nat):(l.set i x).getD q 0=if i=q/\q<l.length then x else l.getD q 0:=by
 by_cases h:i=q
 ·subst h
  by_cases hl:i<l.length
  ·rw[if_pos ⟨rfl,hl⟩];simp[List.getD,hl]
  ·rw[if_neg (fun h=>hl h.2)];simp[List.getD,hl]
 ·rw[if_neg (fun e=>h e.1)];simp[List.getD,List.getElem?_set_ne h]
theorem X9(l:List Nat)(j c:Nat->Nat)(q:Nat):∀ n,(∀ i,i<n->j i≠q)->(SK l j c n).getD q 0=l.getD q 0:=by
 intro n
 induction n with
 | zero=>intro _;rfl
 | succ n ih =>
  intro h
  rw[SK,V7,if_neg (fun e=>h n (by omega) e.1)]
  exact ih (fun i hi=>h i (by omega))
theorem aAw(l:List Nat)(j c:Nat->Nat):∀ n,(∀ i i',i<n->i'<n->j i=j i'->i=i')->∀ i,i<n->j i<l.length->(SK l j c n).getD (j i) 0=c i:=by
 intro n
 induction n with
 | zero=>intro _ i hi;omega
 | succ n ih =>
  intro hinj i hi hl
  rw[SK,V7,Xk]
  by_cases h:i=n
  ·subst h;rw[if_pos ⟨rfl,hl⟩]
  ·rw[if_neg (fun e=>h (hinj i n hi (by omega) e.1.symm))]
   exact ih (fun a a' ha ha'=>hinj a a' (by omega) (by omega)) i (by omega) hl
structure Sn (f:FD) (k x y:Int):Prop where
  ok:PD f
  k0:0<=k
  k2:k<=2
  x0:0<=x
  x1:x+4<=(Lc f k).1
  y0:0<=y
  y1:y+4<=(Lc f k).2
theorem azE{n:Int}(h0:0<=n)(h1:n<=64):LU n=n:=by unfold LU;omega
def jAt(f:FD)(k x y:Int)(i:Nat):Nat:=((y+((i/4:Nat):Int))*(Lc f k).1+(x+((i%4:Nat):Int))).toNat
theorem Sn.near{f:FD}{k x y:Int}(h:Sn f k x y):LU x=x/\LU y=y:=by
 have hb:=NF f k
 have h1:=h.x1;have h2:=h.y1
 exact⟨azE h.x0 (by omega),azE h.y0 (by omega)⟩
theorem Sn.within{f:FD}{k x y:Int}(h:Sn f k x y)(i:Nat)(hi:i<16):within (Lc f k).1 (Lc f k).2 (x+((i%4:Nat):Int)) (y+((i/4:Nat):Int)):=by
 have h1:=h.x0;have h2:=h.x1;have h3:=h.y0;have h4:=h.y1
 exact⟨by omega,by omega,by omega,by omega⟩
theorem Sn.inj{f:FD}{k x y:Int}(h:Sn f k x y)(i i':Nat)(hi:i<16)(hi':i'<16)(e:jAt f k x y i=jAt f k x y i'):i=i':=by
 have w1:=Ow (h.within i hi)
 have w2:=Ow (h.within i' hi')
 have hx1:=h.x1;have hx0:=h.x0
 unfold jAt at e
 have e2:(y+((i/4:Nat):Int))*(Lc f k).1+(x+((i%4:Nat):Int))=(y+((i'/4:Nat):Int))*(Lc f k).1+(x+((i'%4:Nat):Int)):=by omega
 rw[Int.add_mul,Int.add_mul] at e2
 have hw:4<=(Lc f k).1:=by omega
 generalize (Lc f k).1=w at *
 have hq:i/4=i'/4:=by
  by_cases hlt:i/4<i'/4
  ·have:((i/4:Nat):Int)*w+w<=((i'/4:Nat):Int)*w:=by
    have h5:(((i/4:Nat):Int)+1)*w<=((i'/4:Nat):Int)*w:=Int.mul_le_mul_of_nonneg_right (by omega) (by omega)
    rw[Int.add_mul,Int.one_mul] at h5;exact h5
   omega
  ·by_cases hgt:i'/4<i/4
   ·have:((i'/4:Nat):Int)*w+w<=((i/4:Nat):Int)*w:=by
     have h5:(((i'/4:Nat):Int)+1)*w<=((i/4:Nat):Int)*w:=Int.mul_le_mul_of_nonneg_right (by omega) (by omega)
     rw[Int.add_mul,Int.one_mul] at h5;exact h5
    omega
   ·omega
 rw[hq] at e2
 omega
theorem azO(f:FD)(p:Int)(j n:Nat)(hp:0<=p)(hp2:p<=2):(f.setp p j n).pl p=(f.pl p).set j n/\∀ q,0<=q->q<=2->q≠p->(f.setp p j n).pl q=f.pl q:=by
 have h3:p=0\/p=1\/p=2:=by omega
 have hq3:∀ q:Int,0<=q->q<=2->q=0\/q=1\/q=2:=by omega
 rcases h3 with rfl|rfl|rfl
 ·refine⟨rfl,fun q h1 h2 h3=>?_⟩
  rcases hq3 q h1 h2 with rfl|rfl|rfl
  ·exact absurd rfl h3
  ·rfl
  ·rfl
 ·refine⟨rfl,fun q h1 h2 h3=>?_⟩
  rcases hq3 q h1 h2 with rfl|rfl|rfl
  ·rfl
  ·exact absurd rfl h3
  ·rfl
 ·refine⟨rfl,fun q h1 h2 h3=>?_⟩
  rcases hq3 q h1 h2 with rfl|rfl|rfl
  ·rfl
  ·rfl
  ·exact absurd rfl h3
theorem aDm{f:FD}{k x y:Int}(h:Sn f k x y)(b:Nat->Int):∀ n,n<=16->(MU f k x y b n).pl k=SK (f.pl k) (jAt f k x y) (fun i=>L6 (b i)) n/\∀ q,0<=q->q<=2->q≠k->(MU f k x y b n).pl q=f.pl q:=by
 intro n
 induction n with
 | zero=>intro _;rw[MU,NL h.ok];exact⟨rfl,fun _ _ _ _=>rfl⟩
 | succ n ih =>
  intro hn
  obtain⟨i1,i2⟩:=ih (by omega)
  obtain⟨nx,ny⟩:=h.near
  have hw:=h.within n (by omega)
  rw[aBH (by rw[nx,ny];exact hw),nx,ny]
  obtain⟨s1,s2⟩:=azO (MU f k x y b n) k ((y+((n/4:Nat):Int))*(Lc f k).1+(x+((n%4:Nat):Int))).toNat (L6 (b n)) h.k0 h.k2
  refine⟨by rw[s1,i1];rfl,fun q a1 a2 a3=>by rw[s2 q a1 a2 a3];exact i2 q a1 a2 a3⟩
theorem aEO{f:FD}{k x y:Int}(h:Sn f k x y)(i:Nat)(hi:i<16):VG f k x y i=(((f.pl k).getD (jAt f k x y i) 0:Nat):Int):=by
 obtain⟨nx,ny⟩:=h.near
 have hx1:=h.x1;have hx0:=h.x0;have hy0:=h.y0;have hy1:=h.y1
 have hne:(Lc f k).1≠0:=by omega
 unfold VG
 rw[nx,ny,W6 _ _ hne]
 have e:Sv f k (x+((i%4:Nat):Int)) (y+((i/4:Nat):Int))=(y+((i/4:Nat):Int))*(Lc f k).1+(x+((i%4:Nat):Int)):=by
  unfold Sv
  rw[show min (max (y+((i/4:Nat):Int)) 0) ((Lc f k).2-1)=y+((i/4:Nat):Int) by omega,show min (max (x+((i%4:Nat):Int)) 0) ((Lc f k).1-1)=x+((i%4:Nat):Int) by omega]
 rw[e];rfl
structure PY (f:FD):Prop where
  b0:∀ x∈f.p0,x<256
  b1:∀ x∈f.p1,x<256
  b2:∀ x∈f.p2,x<256
theorem aAJ(w h:Nat)(l:List Nat):PY (LP w h l):=⟨Yn _ _ _,Yn _ _ _,Yn _ _ _⟩
def LR(w h:Int)(s:Nat):FD:=if Mz w=true/\Mz h=true then ⟨w,h,List.replicate (w*h).toNat s,List.replicate (w*h/4).toNat s,List.replicate (w*h/4).toNat s⟩ else FD.none
def SF(w h:Int):Int:=if Mz w=true/\Mz h=true then 0 else 70
theorem Qe{w h:Int}(s:Nat)(hw:Mz w=true)(hh:Mz h=true):LR w h s=⟨w,h,List.replicate (w*h).toNat s,List.replicate (w*h/4).toNat s,List.replicate (w*h/4).toNat s⟩:=if_pos ⟨hw,hh⟩
theorem az4{w h:Int}(s:Nat)(hn:¬ (Mz w=true/\Mz h=true)):LR w h s=FD.none:=if_neg hn
theorem UG{w h:Int}(hw:Mz w=true)(hh:Mz h=true):SF w h=0:=if_pos ⟨hw,hh⟩
theorem YA{w h:Int}(hn:¬ (Mz w=true/\Mz h=true)):SF w h=70:=if_neg hn
theorem YE{w h:Int}(s:Nat)(hw:Mz w=true)(hh:Mz h=true):PD (LR w h s):=by
 rw[Qe s hw hh]
 have ha:=OU hw hh
 refine⟨hw,hh,?_,?_,?_⟩
 ·simp only[List.length_replicate];omega
 ·simp only[List.length_replicate];rw[Zu (by omega)];omega
 ·simp only[List.length_replicate];rw[Zu (by omega)];omega
theorem TP{f:FD}(hb:PY f)(p x y:Int):0<=NY f p x y/\NY f p x y<=255:=by
 by_cases h:(Lc f p).1=0
 ·rw[SW x y h];omega
 ·rw[W6 x y h]
  have h3:=TY h
  have:(f.pl p).getD (Sv f p x y).toNat 0<256:=by
   rcases h3 with rfl|rfl|rfl
   ·exact Rk hb.b0 _
   ·exact Rk hb.b1 _
   ·exact Rk hb.b2 _
  omega
def Oy(f:FD)(p x y k:Int):Int:=if y<=0 then 128 else NY f p (x+k) (y-1)
def PE(f:FD)(p x y i:Int):Int:=if x<=0 then 128 else NY f p (x-1) (y+i)
theorem aCO{f:FD}(hb:PY f)(p x y k:Int):0<=Oy f p x y k/\Oy f p x y k<=255:=by
 unfold Oy;split
 ·omega
 ·exact TP hb _ _ _
theorem aD8{f:FD}(hb:PY f)(p x y k:Int):0<=PE f p x y k/\PE f p x y k<=255:=by
 unfold PE;split
 ·omega
 ·exact TP hb _ _ _
def aDo(f:FD)(p x y:Int):Nat->Int
 | 0=>4
 | k+1=>aDo f p x y k+Oy f p x y (k:Nat)+PE f p x y (k:Nat)
def ZX(f:FD)(p x y mode:Int)(n:Nat):Int :=
 if mode=0 then Int.tdiv (aDo f p x y 4) 8 else if mode=1 then Oy f p x y ((n%4:Nat):Int) else if mode=2 then PE f p x y ((n/4:Nat):Int)
 else Int.tdiv (Oy f p x y ((n%4:Nat):Int)+PE f p x y ((n/4:Nat):Int)+1) 2
theorem aFQ{n:Int}(h:0<=n):Int.tdiv n 8=n/8:=Int.tdiv_eq_ediv_of_nonneg h
def Ni(f:FD)(p x y:Int):Prop:=PD f/\0<=p/\p<=2/\0<=x/\x<=64/\0<=y/\y<=64
instance (f:FD) (p x y:Int):Decidable (Ni f p x y):=by unfold Ni;infer_instance
def Sr(f:FD)(p x y mode:Int):Int:=if Ni f p x y then (if 0<=mode/\mode<=3 then 0 else 80) else 70
def Wc(f:FD)(p x y mode:Int):Nat->Int:=if Ni f p x y/\0<=mode/\mode<=3 then ZX f p x y mode else fun _=>0
theorem Oj{f:FD}{p x y mode:Int}(h:¬ Ni f p x y):Sr f p x y mode=70/\Wc f p x y mode=fun _=>0:=⟨if_neg h,if_neg (fun x=>h x.1)⟩
theorem Nt{f:FD}{p x y mode:Int}(h:Ni f p x y)(hm:¬ (0<=mode/\mode<=3)):Sr f p x y mode=80/\Wc f p x y mode=fun _=>0:=by
 refine⟨?_,if_neg (fun x=>hm x.2)⟩
 unfold Sr;rw[if_pos h,if_neg hm]
theorem NP{f:FD}{p x y mode:Int}(h:Ni f p x y)(hm:0<=mode/\mode<=3):Sr f p x y mode=0/\Wc f p x y mode=ZX f p x y mode:=by
 refine⟨?_,if_pos ⟨h,hm⟩⟩
 unfold Sr;rw[if_pos h,if_pos hm]
def Xd(f:FD)(p u v:Int):Int :=
 if u%2=0/\v%2=0 then NY f p (u/2) (v/2)
 else if v%2=0 then (NY f p (u/2) (v/2)+NY f p ((u+1)/2) (v/2)+1)/2
 else if u%2=0 then (NY f p (u/2) (v/2)+NY f p (u/2) ((v+1)/2)+1)/2
 else (NY f p (u/2) (v/2)+NY f p ((u+1)/2) (v/2)+NY f p (u/2) ((v+1)/2)+NY f p ((u+1)/2) ((v+1)/2)+2)/4
def Xg(n:Int):Int:=min (max n (-256)) 256
def aD0(f:FD)(p x y:Int):Int:=Xd f p (Xg x) (Xg y)
theorem UH{f:FD}{p u v:Int}(h1:u%2=0)(h2:v%2=0):Xd f p u v=NY f p (u/2) (v/2):=by unfold Xd;rw[if_pos ⟨h1,h2⟩]
theorem WC{f:FD}{p u v:Int}(h1:¬ u%2=0)(h2:v%2=0):Xd f p u v=(NY f p (u/2) (v/2)+NY f p ((u+1)/2) (v/2)+1)/2:=by
 unfold Xd;rw[if_neg (fun h=>h1 h.1),if_pos h2]
theorem Wq{f:FD}{p u v:Int}(h1:u%2=0)(h2:¬ v%2=0):Xd f p u v=(NY f p (u/2) (v/2)+NY f p (u/2) ((v+1)/2)+1)/2:=by
 unfold Xd;rw[if_neg (fun h=>h2 h.2),if_neg h2,if_pos h1]
theorem V5{f:FD}{p u v:Int}(h1:¬ u%2=0)(h2:¬ v%2=0):Xd f p u v=(NY f p (u/2) (v/2)+NY f p ((u+1)/2) (v/2)+NY f p (u/2) ((v+1)/2)+NY f p ((u+1)/2) ((v+1)/2)+2)/4:=by
 unfold Xd;rw[if_neg (fun h=>h1 h.1),if_neg h2,if_neg h1]
def M1(X Y:Int):Prop := -31<=X/\X<=31 ∧ -31<=Y/\Y<=31
instance (X Y:Int):Decidable (M1 X Y):=by unfold M1;infer_instance
def Qw(X Y:Int):Int:=if M1 X Y then 0 else 90
theorem PG{X Y:Int}(h:M1 X Y):Qw X Y=0:=if_pos h
theorem Oa{X Y:Int}(h:¬ M1 X Y):Qw X Y=90:=if_neg h
theorem SL(X Y:Int):Qw X Y=0↔M1 X Y:=by unfold Qw;split <;> simp_all
def mvN(f:FD)(p x y X Y:Int)(n:Nat):Int:=aD0 f p (2*(x+((n%4:Nat):Int))+X) (2*(y+((n/4:Nat):Int))+Y)
def PC(f:FD)(p x y X Y:Int):Int:=if Ni f p x y then Qw X Y else 70
def U2(f:FD)(p x y X Y:Int):Nat->Int:=if Ni f p x y/\M1 X Y then mvN f p x y X Y else fun _=>0
theorem Q2{f:FD}{p x y X Y:Int}(h:¬ Ni f p x y):PC f p x y X Y=70/\U2 f p x y X Y=fun _=>0:=⟨if_neg h,if_neg (fun x=>h x.1)⟩
theorem Oz{f:FD}{p x y X Y:Int}(h:Ni f p x y)(hv:¬ M1 X Y):PC f p x y X Y=90/\U2 f p x y X Y=fun _=>0 :=
 ⟨by unfold PC;rw[if_pos h,Oa hv],if_neg (fun x=>hv x.2)⟩
theorem O9{f:FD}{p x y X Y:Int}(h:Ni f p x y)(hv:M1 X Y):PC f p x y X Y=0/\U2 f p x y X Y=mvN f p x y X Y :=
 ⟨by unfold PC;rw[if_pos h,PG hv],if_pos ⟨h,hv⟩⟩
def c8(n:Int):Int:=min (max n 0) 255
theorem az0(n:Int):0<=c8 n/\c8 n<=255:=by unfold c8;omega
def UD(a b:Nat->Int):Nat->Int:=fun i=>Int.tdiv (c8 (a i)+c8 (b i)+1) 2
theorem Y5(a b:Nat->Int)(i:Nat):UD a b i=(c8 (a i)+c8 (b i)+1)/2:=by
 have h1:=az0 (a i);have h2:=az0 (b i)
 unfold UD;rw[PH (by omega)]
def aAx(n:Int):Int:=min (max n (-100)) 100
def Tr(a b c:Int):Int:=max (min a b) (min (max a b) c)
theorem XC(a:Int):Tr a a a=a:=by unfold Tr;omega
structure VF where
  w:Int
  h:Int
  X:Int->Int->Int
  Y:Int->Int->Int
def XX(f:VF)(x y:Int):Prop:=0<=x/\x<f.w/\0<=y/\y<f.h
instance (f:VF) (x y:Int):Decidable (XX f x y):=by unfold XX;infer_instance
structure OkV (f:VF):Prop where
  w:1<=f.w/\f.w<=16
  h:1<=f.h/\f.h<=16
  out:∀ x y,¬ XX f x y->f.X x y=0/\f.Y x y=0
  low:∀ x y,M1 (f.X x y) (f.Y x y)
def Ob(w h:Int):Prop:=1<=w/\w<=16/\1<=h/\h<=16
instance (w h:Int):Decidable (Ob w h):=by unfold Ob;infer_instance
def Qo(w h:Int):VF:=⟨w,h,fun _ _=>0,fun _ _=>0⟩
theorem aD4{w h:Int}(k:Ob w h):OkV (Qo w h):=⟨⟨k.1,k.2.1⟩,⟨k.2.2.1,k.2.2.2⟩,fun _ _ _=>⟨rfl,rfl⟩,fun _ _=>by show M1 0 0;decide⟩
def ZA(f:VF)(x y X Y:Int):Int:=if XX f x y then Qw X Y else 1
def aC2(f:VF)(x y X Y:Int):VF:=⟨f.w,f.h,fun a b=>if a=x/\b=y then X else f.X a b,fun a b=>if a=x/\b=y then Y else f.Y a b⟩
def RA(f:VF)(x y X Y:Int):VF:=if XX f x y/\M1 X Y then aC2 f x y X Y else f
theorem Rt{f:VF}{x y X Y:Int}(h:¬ XX f x y):ZA f x y X Y=1/\RA f x y X Y=f:=⟨if_neg h,if_neg fun k=>h k.1⟩
theorem Ph{f:VF}{x y X Y:Int}(h:XX f x y)(hv:¬ M1 X Y):ZA f x y X Y=90/\RA f x y X Y=f:=⟨by unfold ZA;rw[if_pos h,Oa hv],if_neg fun k=>hv k.2⟩
theorem P7{f:VF}{x y X Y:Int}(h:XX f x y)(hv:M1 X Y):ZA f x y X Y=0/\RA f x y X Y=aC2 f x y X Y:=⟨by unfold ZA;rw[if_pos h,PG hv],if_pos ⟨h,hv⟩⟩
theorem UI{f:VF}(k:OkV f){x y X Y:Int}(h:XX f x y)(hv:M1 X Y):OkV (aC2 f x y X Y):=by
 refine⟨k.w,k.h,fun a b hn=>?_,fun a b=>?_⟩
 ·have hn':¬ XX f a b:=hn
  have:¬ (a=x/\b=y):=fun e=>hn' (by rw[e.1,e.2];exact h)
  show (if a=x/\b=y then X else f.X a b)=0/\(if a=x/\b=y then Y else f.Y a b)=0
  rw[if_neg this,if_neg this];exact k.out a b hn'
 ·show M1 (if a=x/\b=y then X else f.X a b) (if a=x/\b=y then Y else f.Y a b)
  split
  ·exact hv
  ·exact k.low a b
def gX(f:VF)(x y:Int):Int:=Tr (f.X (x-1) y) (f.X x (y-1)) (f.X (x+1) (y-1))
def gY(f:VF)(x y:Int):Int:=Tr (f.Y (x-1) y) (f.Y x (y-1)) (f.Y (x+1) (y-1))
def P3(X Y gx gy:Int):List Bool:=M4 (cl 64 X-cl 64 gx)++M4 (cl 64 Y-cl 64 gy)
theorem aDF(n:Int) : -64<=cl 64 n/\cl 64 n<=64:=by unfold cl;omega
def Pf(l:List Nat)(s:Option Nat):Int×Option Nat:=Ls (L1 l 128) s
def SN(l:List Nat)(gx gy:Int)(s:Option Nat):Prop:=(Pf l (Pf l s).2).2≠none/\M1 ((Pf l s).1+cl 64 gx) ((Pf l (Pf l s).2).1+cl 64 gy)
instance (l:List Nat) (gx gy:Int) (s:Option Nat):Decidable (SN l gx gy s):=by unfold SN;infer_instance
def Se(l:List Nat)(gx gy:Int)(s:Option Nat):Int:=if SN l gx gy s then (Pf l s).1+cl 64 gx else 0
def R2(l:List Nat)(gx gy:Int)(s:Option Nat):Int:=if SN l gx gy s then (Pf l (Pf l s).2).1+cl 64 gy else 0
def QN(l:List Nat)(gx gy:Int)(s:Option Nat):Int:=if SN l gx gy s then 0 else 90
def vrS(l:List Nat)(s:Option Nat):Option Nat:=(Pf l (Pf l s).2).2
theorem Yt{l:List Nat}{gx gy:Int}{s:Option Nat}(h:SN l gx gy s):Se l gx gy s=(Pf l s).1+cl 64 gx/\R2 l gx gy s=(Pf l (Pf l s).2).1+cl 64 gy/\QN l gx gy s=0:=⟨if_pos h,if_pos h,if_pos h⟩
theorem aAg{l:List Nat}{gx gy:Int}{s:Option Nat}(h:¬ SN l gx gy s):Se l gx gy s=0/\R2 l gx gy s=0/\QN l gx gy s=90:=⟨if_neg h,if_neg h,if_neg h⟩
theorem aBI(l:List Nat)(s:Option Nat) : -128<=(Pf l s).1/\(Pf l s).1<=128:=U0 l 128 (by omega) s
theorem Y1(l:List Nat)(a:Nat)(n:Int)(h : -128<=n/\n<=128)(hb:Nn l a (M4 n)):Pf l (some a)=(n,some (a+(M4 n).length)):=by
 have:=Tv l a n 128 (by omega) (by omega) (by omega) (by omega) hb
 unfold Pf;simp[Ls,this]
theorem aEf(l:List Nat)(a:Nat)(X Y gx gy:Int)(hv:M1 X Y)(hb:Nn l a (P3 X Y gx gy)) :
  Se l gx gy (some a)=X/\R2 l gx gy (some a)=Y/\QN l gx gy (some a)=0/\vrS l (some a)=some (a+(P3 X Y gx gy).length):=by
 have h1:=aDF gx;have h2:=aDF gy
 have hX:cl 64 X=X:=azD _ _ (by unfold M1 at hv;omega) (by unfold M1 at hv;omega)
 have hY:cl 64 Y=Y:=azD _ _ (by unfold M1 at hv;omega) (by unfold M1 at hv;omega)
 unfold P3 at hb
 have hv':=hv
 unfold M1 at hv'
 have e1:=Y1 l a (cl 64 X-cl 64 gx) (by omega) hb.left
 have e2:=Y1 l _ (cl 64 Y-cl 64 gy) (by omega) hb.right
 have hk:SN l gx gy (some a):=by
  unfold SN;rw[e1];simp only;rw[e2];simp only
  refine⟨by simp,?_⟩
  rw[show cl 64 X-cl 64 gx+cl 64 gx=X by omega,show cl 64 Y-cl 64 gy+cl 64 gy=Y by omega];exact hv
 obtain⟨k1,k2,k3⟩:=Yt hk
 refine⟨?_,?_,k3,?_⟩
 ·rw[k1,e1];simp only;omega
 ·rw[k2,e1];simp only;rw[e2];simp only;omega
 ·unfold vrS;rw[e1];simp only;rw[e2];simp only[P3,List.length_append];congr 1;omega
open Go.RowKit
def Ro(L:Nat->Bool)(i:Nat):Nat->Bool:=fun j=>if j=i then true else L j
def VE(v:Nat->Value)(i:Nat)(x:Value):Nat->Value:=fun j=>if j=i then x else v j
def aBt(os:List Oper)(t:Tmp)(i:Nat):Bool:=os.all fun o=>o.dst != some t || o.after.toList.any fun e=>Region.binds .any e && e.on==i
def XB(os:List Oper)(P:Program)(D:List (Option Tmp))(J:(Nat->Bool)->(Nat->Value)->World->Prop)(a0:Act)(i:Nat)(o:Oper):Prop :=
 ∀ (L:Nat->Bool) (v:Nat->Value) (a:Act) (w:World),J L v w->L i=false->(∀ e∈o.after.toList,Region.binds .any e=true->L e.on=true) →
  (∀ t,some t∉D->a.eval (.tmp t)=a0.eval (.tmp t))->(∀ j d,L j=true->D[j]? = some (some d)->a.eval (.tmp d)=v j)->(∀ t,aBt os t i=true->a.eval (.tmp t)=a0.eval (.tmp t)) →
  (Qs D o a=true->Lg P a.eval o w (fun x w'=>J (Ro L i) (VE v i x) w'))/\(Qs D o a=false->J (Ro L i) (VE v i undef) w)
def QU(os:List Oper)(P:Program)(D:List (Option Tmp))(J:(Nat->Bool)->(Nat->Value)->World->Prop)(a0:Act):Nat->List Oper->Prop
 | _,[]=>True
 | i,o::r=>XB os P D J a0 i o/\QU os P D J a0 (i+1) r
theorem QU.at{all:List Oper}{P:Program}{D:List (Option Tmp)}{J:(Nat->Bool)->(Nat->Value)->World->Prop}{a0:Act}:∀ {i:Nat} {os:List Oper},QU all P D J a0 i os->∀ k o,os[k]? = some o->XB all P D J a0 (i+k) o:=by
 intro i os
 induction os generalizing i with
 | nil=>intro _ k o h;simp at h
 | cons x r ih =>
  intro h k o hk
  cases k with
  | zero=>simp at hk;subst hk;exact h.1
  | succ k =>
   simp at hk
   have:=ih h.2 k o hk
   rwa [show i+1+k=i+(k+1) by omega] at this
structure aAP (ops:Array Oper) (D:List (Option Tmp)) (J:(Nat->Bool)->(Nat->Value)->World->Prop) (a0:Act) (v:Nat->Value) (listed:Array Bool) (a:Act) (w:World):Prop where
  size:a.tmps.size=a0.tmps.size
  ls:listed.size=ops.size
  defers:a.defers=a0.defers
  out:∀ t,(∀ j,listed.getD j false=true->D[j]? ≠ some (some t))->a.tmps.getD t undef=a0.tmps.getD t undef
  here:∀ j d,listed.getD j false=true->D[j]? = some (some d)->a.tmps.getD d undef=v j
  good:J (fun j=>listed.getD j false) v w
  cl:∀ (k:Nat) (o:Oper),ops[k]? = some o->listed.getD k false=true->∀ e∈o.after.toList,Region.binds .any e=true->listed.getD e.on false=true
theorem aAK{P:Program}{ops:Array Oper}{Q:Exit->Act->World->Prop}{a0:Act}(D:List (Option Tmp))(J:(Nat->Bool)->(Nat->Value)->World->Prop)
  (hpl:plain a0.tmps.size 0 D ops.toList=true) (hsteps:QU ops.toList P D J a0 0 ops.toList)
  (hend:∀ (L:Nat->Bool) (v:Nat->Value) (w:World),J L v w->(∀ i,i<ops.size->L i=true)->Q .normal (MI v 0 D a0) w) :
  ∀ (fuel:Nat) (listed:Array Bool) (v:Nat->Value) (a:Act) (w:World),aAP ops D J a0 v listed a w->(fuel=0->Region.ready .any ops listed=[]) →
   (List.range ops.size).countP (fun i => !listed.getD i false)<=fuel->wpAny P .any ops Q fuel listed a w:=by
 obtain⟨hDl,hpa⟩:=SO hpl
 have hlen:D.length=ops.size:=by simpa using hDl
 have hback:∀ (k:Nat) (o:Oper),ops[k]? = some o->∀ e∈o.after.toList,Region.binds .any e=true->e.on<k:=by
  intro k o hk e he hb
  have:=(hpa k o (by simpa using hk)).2.2 e he hb
  omega
 have fin:∀ (listed:Array Bool) (v:Nat->Value) (a:Act) (w:World),aAP ops D J a0 v listed a w->Region.ready .any ops listed=[]->Q .normal a w:=by
  intro listed v a w hm hr
  have hall:=Q8 hback hr hm.ls
  have hp:=PM v D 0 a0
  have ha:a=MI v 0 D a0:=by
   have ht:a.tmps=(MI v 0 D a0).tmps:=by
    apply Array.ext
    ·rw[hm.size,hp.1]
    ·intro t h1 h2
     have e:a.tmps.getD t undef=(MI v 0 D a0).tmps.getD t undef:=by
      by_cases hmem:some t∈D
      ·obtain⟨j,hj⟩:=List.mem_iff_getElem?.1 hmem
       have hjs:j<ops.size:=by rw[← hlen];exact(List.getElem?_eq_some_iff.1 hj).1
       obtain⟨g1,g2,_⟩:=hpa j ops[j] (by simp[hjs])
       have hdst:ops[j].dst=some t:=by rw[hj] at g1;exact(Option.some.inj g1).symm
       obtain⟨k1,k2⟩:=g2 t hdst
       rw[hm.here j t (hall j hjs) hj,hp.2.2.2 j t hj k2 k1,Nat.zero_add]
      ·rw[hp.2.2.1 t hmem,hm.out t (fun j _ hj=>hmem (List.mem_of_getElem? hj))]
     simpa [Array.getD_eq_getD_getElem?,h1,h2] using e
   have hd:a.defers=(MI v 0 D a0).defers:=by rw[hm.defers,hp.2.1]
   cases a
   cases hq:MI v 0 D a0
   rw[hq] at ht hd
   simp only at ht hd
   rw[ht,hd]
  rw[ha]
  exact hend _ v w hm.good hall
 intro fuel
 induction fuel with
 | zero =>
  intro listed v a w hm h0 _
  exact⟨h0 rfl,fin listed v a w hm (h0 rfl)⟩
 | succ fuel ih =>
  intro listed v a w hm _ hcount
  refine⟨fin listed v a w hm,fun i hi=>?_⟩
  obtain⟨hlt,hnl,o,ho,haft⟩:=NA hi
  have hlsz:i<listed.size:=by rw[hm.ls];exact hlt
  have hnl':listed.getD i false=false:=by simpa [Array.getD,hlsz] using hnl
  obtain⟨g1,g2,g3⟩:=hpa i o (by simpa using ho)
  have hstep:=hsteps.at i o (by simpa using ho)
  rw[Nat.zero_add] at hstep
  have hout:∀ t,some t∉D->a.eval (.tmp t)=a0.eval (.tmp t):=fun t ht=>hm.out t (fun j _ hj=>ht (List.mem_of_getElem? hj))
  have hlate:∀ t,aBt ops.toList t i=true->a.eval (.tmp t)=a0.eval (.tmp t):=by
   intro t ht
   refine hm.out t fun j hj hD=>?_
   have hjs:j<ops.size:=by rw[← hlen];exact(List.getElem?_eq_some_iff.1 hD).1
   obtain⟨k1,_,_⟩:=hpa j ops[j] (by simp[hjs])
   have hdst:ops[j].dst=some t:=by rw[hD] at k1;exact(Option.some.inj k1).symm
   unfold aBt at ht
   have h1:=List.all_eq_true.1 ht ops[j] (by simp)
   simp only[hdst,bne_self_eq_false,Bool.false_or] at h1
   obtain⟨e,he,hb⟩:=List.any_eq_true.1 h1
   simp only[Bool.and_eq_true,beq_iff_eq] at hb
   have h2:=hm.cl j ops[j] (by simp[hjs]) hj e he hb.1
   rw[hb.2,hnl'] at h2
   cases h2
  obtain⟨s1,s2⟩:=hstep (fun j=>listed.getD j false) v a w hm.good hnl' haft hout (fun j d hj hD=>hm.here j d hj hD) hlate
  -- what is left when it answers x in the world w'
  have next:∀ (x:Value) (w':World),J (Ro (fun j=>listed.getD j false) i) (VE v i x) w'->wpAny P .any ops Q fuel (listed.setIfInBounds i true) (a.put o.dst x) w':=by
   intro x w' hJ
   have hcnt:(List.range ops.size).countP (fun j => !(listed.setIfInBounds i true).getD j false)<=fuel:=by
    have h1:(List.range ops.size).countP (fun j => !(listed.setIfInBounds i true).getD j false)<(List.range ops.size).countP (fun j => !listed.getD j false):=by
     have hmemi:i∈List.range ops.size:=by simpa using hlt
     have key:∀ (l:List Nat),i∈l->(∀ j,(!(listed.setIfInBounds i true).getD j false)=true->(!listed.getD j false)=true)->l.countP (fun j => !(listed.setIfInBounds i true).getD j false)<l.countP (fun j => !listed.getD j false):=by
      intro l
      induction l with
      | nil=>intro h;cases h
      | cons y r ihl =>
       intro hy himp
       have hle:r.countP (fun j => !(listed.setIfInBounds i true).getD j false)<=r.countP (fun j => !listed.getD j false):=List.countP_mono_left fun j _ hj=>himp j hj
       by_cases hyi:y=i
       ·subst hyi
        have e1:(!(listed.setIfInBounds y true).getD y false)=false:=by rw[LA _ _ _ hlsz,if_pos rfl];rfl
        have e2:(!listed.getD y false)=true:=by rw[hnl'];rfl
        rw[List.countP_cons,List.countP_cons]
        simp only[e1,e2,if_true,Bool.false_eq_true,if_false]
        omega
       ·have hir:i∈r:=by
         rcases List.mem_cons.1 hy with h|h
         ·exact absurd h.symm hyi
         ·exact h
        have:=ihl hir himp
        rw[List.countP_cons,List.countP_cons]
        have e3:(listed.setIfInBounds i true).getD y false=listed.getD y false:=by rw[LA _ _ _ hlsz,if_neg hyi]
        rw[e3];omega
     refine key _ hmemi fun j hj=>?_
     rw[LA _ _ _ hlsz] at hj
     by_cases hji:j=i
     ·rw[if_pos hji] at hj;cases hj
     ·rwa [if_neg hji] at hj
    omega
   have hmid:aAP ops D J a0 (VE v i x) (listed.setIfInBounds i true) (a.put o.dst x) w':=by
    refine⟨?_,by simpa using hm.ls,?_,?_,?_,?_,?_⟩
    ·rw[← hm.size];cases o.dst <;> simp[Act.put]
    ·rw[← hm.defers];cases o.dst <;> rfl
    ·intro t ht
     have hold:=hm.out t (fun j hj=>ht j (by rw[LA _ _ _ hlsz];split <;> first|rfl|exact hj))
     have hne:o.dst≠some t:=by
      intro e
      exact ht i (by rw[LA _ _ _ hlsz,if_pos rfl]) (by rw[g1,e])
     rw[← hold]
     cases hd:o.dst with
     | none=>rfl
     | some d =>
      have:d≠t:=fun e=>hne (by rw[hd,e])
      simp only[Act.put,Array.getD_eq_getD_getElem?,Array.getElem?_setIfInBounds_ne this]
    ·intro j d hj hD
     by_cases hji:j=i
     ·subst hji
      have hd:o.dst=some d:=by rw[g1] at hD;exact Option.some.inj hD
      have hsz:d<a.tmps.size:=by rw[hm.size];exact(g2 d hd).1
      simp[hd,Act.put,Array.getD_eq_getD_getElem?,hsz,VE]
     ·rw[LA _ _ _ hlsz,if_neg hji] at hj
      have hold:=hm.here j d hj hD
      rw[show VE v i x j=v j from if_neg hji,← hold]
      cases hd:o.dst with
      | none=>rfl
      | some y =>
       have hne:y≠d:=by
        rintro rfl
        rw[hd] at g1
        rcases Nat.lt_or_gt_of_ne hji with hlt2|hgt2
        ·have hjs:j<ops.size:=by rw[← hlen];exact(List.getElem?_eq_some_iff.1 hD).1
         obtain⟨k1,k2,_⟩:=hpa j ops[j] (by simp[hjs])
         have hdst:ops[j].dst=some y:=by rw[hD] at k1;exact(Option.some.inj k1).symm
         exact(k2 y hdst).2 i hlt2 g1
        ·exact(g2 y hd).2 j hgt2 hD
       simp only[Act.put,Array.getD_eq_getD_getElem?,Array.getElem?_setIfInBounds_ne hne]
    ·have e:(fun j=>(listed.setIfInBounds i true).getD j false)=Ro (fun j=>listed.getD j false) i:=by
      funext j;exact LA _ _ _ hlsz
     rw[e];exact hJ
    ·intro k o' hk hl e he hb
     rw[LA _ _ _ hlsz] at hl ⊢
     by_cases hee:e.on=i
     ·rw[if_pos hee]
     ·rw[if_neg hee]
      by_cases hki:k=i
      ·subst hki
       rw[ho] at hk
       cases hk
       exact haft e he hb
      ·rw[if_neg hki] at hl
       exact hm.cl k o' hk hl e he hb
   refine ih _ _ _ _ hmid ?_ hcnt
   intro hz
   subst hz
   have hz0:(List.range ops.size).countP (fun j => !(listed.setIfInBounds i true).getD j false)=0:=by omega
   rw[List.countP_eq_zero] at hz0
   cases hr:Region.ready .any ops (listed.setIfInBounds i true) with
   | nil=>rfl
   | cons y r =>
    have hy:y∈Region.ready .any ops (listed.setIfInBounds i true):=by rw[hr];simp
    obtain⟨q1,q2,_⟩:=NA hy
    have:=hz0 y (by simpa using q1)
    have hys:y<(listed.setIfInBounds i true).size:=by simp[hm.ls];exact q1
    have q3:(listed.setIfInBounds i true).getD y false=false:=by rw[← PW _ y hys];exact q2
    rw[q3] at this
    exact absurd rfl this
  have hwant:Region.wanted o (yielded ops a.tmps)=Qs D o a:=by
   unfold Region.wanted Qs
   cases hg:o.guard with
   | none=>rfl
   | some p =>
    obtain⟨j,want⟩:=p
    simp only[yielded]
    by_cases hj:j<ops.size
    ·obtain⟨k1,k2,_⟩:=hpa j ops[j] (by simp[hj])
     have hDj:D.getD j none=ops[j].dst:=by simp[List.getD,k1]
     rw[hDj]
     simp only[Array.getElem?_eq_getElem hj,Option.bind_some]
     cases hd:ops[j].dst with
     | none=>simp
     | some d =>
      have hsz:d<a.tmps.size:=by rw[hm.size];exact(k2 d hd).1
      simp only[Option.bind_some,Array.getElem?_eq_getElem hsz]
      have he:a.eval (.tmp d)=a.tmps[d]:=by simp[Act.eval,Array.getD,hsz]
      rw[he]
      cases a.tmps[d] <;> simp
    ·have hDj:D.getD j none=none:=by simp[List.getD,List.getElem?_eq_none (show D.length<=j by omega)]
     rw[hDj]
     simp[Array.getElem?_eq_none (show ops.size<=j by omega)]
  unfold wpOp
  rw[ho]
  simp only[hwant]
  cases hgo:Qs D o a with
  | true =>
   simp only[if_true]
   refine .inl (Lg.wp ?_)
   have:=s1 hgo
   revert this
   unfold Lg
   generalize (execOp a.eval o).run P w=res
   intro h
   cases res with
   | ok n w' =>
    cases n <;> simp only at h ⊢ <;> first
     | exact next _ _ h
     | exact h.elim
     | exact Calls.mono h (fun e w'' ⟨y,he,hk⟩=>⟨y,he,next _ _ hk⟩)
   | halt y w'=>exact h.elim
  | false =>
   simp only[Bool.false_eq_true,if_false]
   exact next undef w (s2 hgo)
theorem TA{P:Program}{id:Nat}{ops:Array Oper}{Q:Exit->Act->World->Prop}{a0:Act}{w0:World}(D:List (Option Tmp))(J:(Nat->Bool)->(Nat->Value)->World->Prop)
  (hm:P.follows .mixedOrders=true) (hpl:plain a0.tmps.size 0 D ops.toList=true) (h0:J (fun _=>false) (fun _=>undef) w0.drew) (hsteps:QU ops.toList P D J a0 0 ops.toList)
  (hend:∀ (L:Nat->Bool) (v:Nat->Value) (w:World),J L v w->(∀ i,i<ops.size->L i=true)->Q .normal (MI v 0 D a0) w):(Code.region id ops true).wp P Q a0 w0:=by
 refine wp_region_any hm ?_
 have hno:∀ j,(Array.replicate ops.size false).getD j false=false:=by
  intro j
  by_cases h:j<ops.size <;> simp[Array.getD,h]
 refine aAK D J hpl hsteps hend ops.size _ (fun _=>undef) a0 _ ⟨rfl,by simp,rfl,fun _ _=>rfl,fun j _ hj=>?_,?_,fun k _ _ hl=>?_⟩ ?_ ?_
 ·rw[hno] at hj;cases hj
 ·have e:(fun j=>(Array.replicate ops.size false).getD j false)=fun _=>false:=funext hno
  rw[e];exact h0
 ·rw[hno] at hl;cases hl
 ·intro h0
  cases hr:Region.ready .any ops (Array.replicate ops.size false) with
  | nil=>rfl
  | cons y r =>
   have hy:y∈Region.ready .any ops (Array.replicate ops.size false):=by rw[hr];simp
   have:=(NA hy).1
   omega
 ·exact Nat.le_trans (List.countP_le_length) (by simp)
open Go.RowKit
section
variable {P:Program} {N:Nat} {F:Nat->Value} {w:World} {Q:Exit->(Nat->Value)->World->Prop}
theorem Lg.mono'{ρ:Operand->Value}{o:Oper}{R R':Value->World->Prop}(h:Lg P ρ o w R)(hr:∀ v w',R v w'->R' v w'):Lg P ρ o w R':=by
 revert h
 unfold Lg
 generalize (execOp ρ o).run P w=r
 intro h
 cases r with
 | ok n w' =>
  cases n <;> simp only at h ⊢ <;> first
   | exact hr _ _ h
   | exact h.elim
   | exact Calls.mono h (fun e w'' ⟨y,he,hk⟩=>⟨y,he,hr _ _ hk⟩)
 | halt y w'=>exact h.elim
end
open Go.RowKit
structure Thg where
  A:World->Prop
  T:Nat->Prop
  B:(Nat->Prop)->World->Prop
  stA:∀ (w w':World) (S:Nat->Prop),A w->KR S w w'->KO T S->A w'
  stB:∀ (w w':World) (S T':Nat->Prop),B T' w->KR S w w'->KO T' S->B T' w'
  liA:∀ w,A w->PI w T
  liB:∀ w T',B T' w->PI w T'
inductive Pt where
  | eq (v:Value)
  | thg (t:Thg) (v:Value)
def Pt.none:Pt:=.eq undef
def aBS:Pt->Value
 | .eq v=>v
 | .thg _ v=>v
def Q0(Gs:List Pt)(L:Nat->Bool)(Tf:Nat->Nat->Prop)(i:Nat):Nat->Prop:=match Gs.getD i Pt.none with
 | .eq _=>Mb
 | .thg t _=>if L i=true then Tf i else t.T
def YU(Gs:List Pt)(L:Nat->Bool)(Tf:Nat->Nat->Prop)(w:World)(i:Nat):Prop:=match Gs.getD i Pt.none with
 | .eq _=>True
 | .thg t _=>if L i=true then t.B (Tf i) w else t.A w
structure JT (S:Nat->Prop) (w0:World) (Gs:List Pt) (M:List (Nat×Nat)) (L:Nat->Bool) (v:Nat->Value) (Tf:Nat->Nat->Prop) (w:World):Prop where
  kept:KR S w0 w
  vals:∀ i,L i=true->v i=aBS (Gs.getD i Pt.none)
  things:∀ i,YU Gs L Tf w i
  grew:∀ i t x,Gs.getD i Pt.none = .thg t x->L i=true->KS w0 t.T (Tf i)
  apart:∀ i j,i≠j->KO (Q0 Gs L Tf i) (Q0 Gs L Tf j)
  clos:∀ j i,(j,i)∈M->L j=true->L i=true
def aCA(S:Nat->Prop)(w0:World)(Gs:List Pt):Prop:=(∀ i t x,Gs.getD i Pt.none = .thg t x->(∀ b,t.T b->S b)/\t.A w0)/\∀ i j,i≠j->KO (Q0 Gs (fun _=>false) (fun _=>Mb) i) (Q0 Gs (fun _=>false) (fun _=>Mb) j)
def aCG(T:Nat->Prop):List Pt->Prop
 | []=>True
 | .thg t _::r=>KO T t.T/\aCG T r
 | .eq _::r=>aCG T r
def Tt(S:Nat->Prop)(w0:World):List Pt->Prop
 | []=>True
 | .thg t _::r=>((∀ b,t.T b->S b)/\t.A w0/\aCG t.T r)/\Tt S w0 r
 | .eq _::r=>Tt S w0 r
theorem aCG.at{T:Nat->Prop}:∀ {Gs:List Pt},aCG T Gs->∀ i t x,Gs.getD i Pt.none = .thg t x->KO T t.T:=by
 intro Gs
 induction Gs with
 | nil=>intro _ i t x h;cases h
 | cons g r ih =>
  intro h i t x e
  cases i with
  | zero =>
   have e:g = .thg t x:=by simpa using e
   subst e;exact h.1
  | succ i =>
   have e:r.getD i Pt.none = .thg t x:=by simpa using e
   cases g <;> first|exact ih h.2 i t x e|exact ih h i t x e
theorem Tt.at{S:Nat->Prop}{w0:World}:∀ {Gs:List Pt},Tt S w0 Gs->∀ i t x,Gs.getD i Pt.none = .thg t x->(∀ b,t.T b->S b)/\t.A w0:=by
 intro Gs
 induction Gs with
 | nil=>intro _ i t x h;cases h
 | cons g r ih =>
  intro h i t x e
  cases i with
  | zero =>
   have e:g = .thg t x:=by simpa using e
   subst e;exact⟨h.1.1,h.1.2.1⟩
  | succ i =>
   have e:r.getD i Pt.none = .thg t x:=by simpa using e
   cases g <;> first|exact ih h.2 i t x e|exact ih h i t x e
theorem Tt.far{S:Nat->Prop}{w0:World}:∀ {Gs:List Pt},Tt S w0 Gs->∀ i j t x t' x',i<j->Gs.getD i Pt.none = .thg t x->Gs.getD j Pt.none = .thg t' x'->KO t.T t'.T:=by
 intro Gs
 induction Gs with
 | nil=>intro _ i j t x t' x' _ h;cases h
 | cons g r ih =>
  intro h i j t x t' x' hij e1 e2
  cases j with
  | zero=>omega
  | succ j =>
   have e2:r.getD j Pt.none = .thg t' x':=by simpa using e2
   cases i with
   | zero =>
    have e1:g = .thg t x:=by simpa using e1
    subst e1;exact h.1.2.2.at j t' x' e2
   | succ i =>
    have e1:r.getD i Pt.none = .thg t x:=by simpa using e1
    cases g <;> first|exact ih h.2 i j t x t' x' (by omega) e1 e2|exact ih h i j t x t' x' (by omega) e1 e2
theorem Tt.old{S:Nat->Prop}{w0:World}{Gs:List Pt}(h:Tt S w0 Gs):aCA S w0 Gs:=by
 refine⟨fun i t x e=>h.at i t x e,fun i j hij=>?_⟩
 unfold Q0
 cases e1:Gs.getD i Pt.none with
 | eq x=>exact fun _ z=>z.elim
 | thg t x =>
  cases e2:Gs.getD j Pt.none with
  | eq y=>exact fun _ _ z=>z
  | thg t' y =>
   simp only[Bool.false_eq_true,if_false]
   rcases Nat.lt_or_gt_of_ne hij with hlt|hgt
   ·exact h.far i j t x t' y hlt e1 e2
   ·exact(h.far j i t' y t x hgt e2 e1).symm
def onT(w0:World)(Gs:List Pt)(i:Nat)(w:World):Prop:=match Gs.getD i Pt.none with
 | .eq _=>True
 | .thg t _=>∃ T',t.B T' w/\KS w0 t.T T'
def Z2(w0:World)(Gs:List Pt)(M:List (Nat×Nat)):Nat->Value->World->Prop:=fun j v w=>v=aBS (Gs.getD j Pt.none)/\onT w0 Gs j w/\∀ i,(j,i)∈M->onT w0 Gs i w
def Sb(os:List Oper)(M:List (Nat×Nat)):Bool:=M.all fun q=>match os[q.1]? with|some o=>o.after.toList.any (fun e=>Region.binds .any e && (e.on==q.2 || M.contains (e.on,q.2)))|none=>false
def Vs(Gs:List Pt)(i:Nat)(w:World)(v:Value)(w':World):Prop:=match Gs.getD i Pt.none with
 | .eq x=>v=x/\KR (fun _=>False) w w'
 | .thg t x=>v=x/\KR t.T w w'/\∃ T',t.B T' w'/\KS w t.T T'
theorem aCI{S:Nat->Prop}{w0 w:World}{Gs:List Pt}{L:Nat->Bool}{v:Nat->Value}{Tf:Nat->Nat->Prop}{M:List (Nat×Nat)}(h:JT S w0 Gs M L v Tf w)(i:Nat):PI w (Q0 Gs L Tf i):=by
 have:=h.things i
 unfold YU at this
 unfold Q0
 cases e:Gs.getD i Pt.none with
 | eq x=>exact fun _ h=>h.elim
 | thg t x =>
  rw[e] at this
  simp only at this ⊢
  cases hl:L i with
  | true=>rw[hl] at this;rw[if_pos rfl] at this ⊢;exact t.liB w _ this
  | false=>rw[hl] at this;rw[if_neg (by simp)] at this ⊢;exact t.liA w this
theorem aCu{Gs:List Pt}{L:Nat->Bool}{Tf Tf':Nat->Nat->Prop}{i j:Nat}(h:j≠i)(hT:Tf' j=Tf j):Q0 Gs (fun k=>if k=i then true else L k) Tf' j=Q0 Gs L Tf j:=by
 unfold Q0
 cases Gs.getD j Pt.none with
 | eq x=>rfl
 | thg t x=>simp only[if_neg h,hT]
theorem aEC{Gs:List Pt}{L:Nat->Bool}{Tf Tf':Nat->Nat->Prop}{w:World}{i j:Nat}(h:j≠i)(hT:Tf' j=Tf j):YU Gs (fun k=>if k=i then true else L k) Tf' w j=YU Gs L Tf w j:=by
 unfold YU
 cases Gs.getD j Pt.none with
 | eq x=>rfl
 | thg t x=>simp only[if_neg h,hT]
theorem aAi{S':Nat->Prop}{Gs:List Pt}{L:Nat->Bool}{Tf:Nat->Nat->Prop}{w w':World}{j:Nat}(h:YU Gs L Tf w j)(k:KR S' w w')(ha:KO (Q0 Gs L Tf j) S'):YU Gs L Tf w' j:=by
 unfold YU at h ⊢
 unfold Q0 at ha
 cases e:Gs.getD j Pt.none with
 | eq x=>trivial
 | thg t x =>
  rw[e] at h ha
  simp only at h ha ⊢
  split
  ·rename_i hl;rw[if_pos hl] at h ha;exact t.stB w w' S' _ h k ha
  ·rename_i hl;rw[if_neg hl] at h ha;exact t.stA w w' S' h k ha
theorem JT.more{S:Nat->Prop}{w0 w w':World}{Gs:List Pt}{M:List (Nat×Nat)}{L:Nat->Bool}{v:Nat->Value}{Tf:Nat->Nat->Prop}{i:Nat}{x:Value}(hO:aCA S w0 Gs)(h:JT S w0 Gs M L v Tf w)(hi:L i=false)(hM:∀ k,(i,k)∈M->L k=true)(hx:Vs Gs i w x w'):∃ Tf',JT S w0 Gs M (Ro L i) (VE v i x) Tf' w':=by
 have hcl:∀ j k,(j,k)∈M->Ro L i j=true->Ro L i k=true:=fun j k hm hj=>by
  have hk:L k=true:=by
   by_cases hji:j=i
   ·subst hji;exact hM k hm
   ·rw[show Ro L i j=L j from if_neg hji] at hj;exact h.clos j k hm hj
  unfold Ro;split <;> first|rfl|exact hk
 unfold Vs at hx
 cases e:Gs.getD i Pt.none with
 | eq y =>
  rw[e] at hx
  refine⟨Tf,h.kept.trans hx.2 (fun _ _ z=>z.elim),fun j hj=>?_,fun j=>?_,fun j t z hj hl=>?_,fun a b hab=>?_,hcl⟩
  ·by_cases hji:j=i
   ·subst hji;rw[show VE v j x j=x from if_pos rfl,e];exact hx.1
   ·rw[show Ro L i j=L j from if_neg hji] at hj;rw[show VE v i x j=v j from if_neg hji];exact h.vals j hj
  ·by_cases hji:j=i
   ·subst hji;unfold YU;rw[e];trivial
   ·rw[show YU Gs (Ro L i) Tf w' j=YU Gs L Tf w' j from aEC hji rfl];exact aAi (h.things j) hx.2 (fun _ _ z=>z)
  ·have hji:j≠i:=fun z'=>by rw[z',e] at hj;cases hj
   rw[show Ro L i j=L j from if_neg hji] at hl;exact h.grew j t z hj hl
  ·have hc:∀ c,Q0 Gs (Ro L i) Tf c=Q0 Gs L Tf c:=fun c=>by
    by_cases hci:c=i
    ·subst hci;unfold Q0;rw[e]
    ·exact aCu hci rfl
   rw[hc,hc];exact h.apart a b hab
 | thg t y =>
  rw[e] at hx
  obtain⟨hv,k,T',hB,hG⟩:=hx
  have hcur:Q0 Gs L Tf i=t.T:=by unfold Q0;rw[e];simp[hi]
  have hTf:∀ c,c≠i->(fun c=>if c=i then T' else Tf c) c=Tf c:=fun c hc=>by simp[hc]
  have hci:Q0 Gs (Ro L i) (fun c=>if c=i then T' else Tf c) i=T':=by unfold Q0;rw[e];simp[Ro]
  have hcj:∀ c,c≠i->Q0 Gs (Ro L i) (fun c=>if c=i then T' else Tf c) c=Q0 Gs L Tf c:=fun c hc=>aCu hc (hTf c hc)
  have hnew:∀ c,c≠i->KO T' (Q0 Gs L Tf c):=fun c hc=>by
   have:=h.apart i c (fun z=>hc z.symm)
   rw[hcur] at this
   exact this.grew hG (aCI h c)
  refine⟨fun c=>if c=i then T' else Tf c,h.kept.trans k (fun b _ hb=>(hO.1 i t y e).1 b hb),fun j hj=>?_,fun j=>?_,fun j t' z hj hl=>?_,fun a b hab=>?_,hcl⟩
  ·by_cases hji:j=i
   ·subst hji;rw[show VE v j x j=x from if_pos rfl,e];exact hv
   ·rw[show Ro L i j=L j from if_neg hji] at hj;rw[show VE v i x j=v j from if_neg hji];exact h.vals j hj
  ·by_cases hji:j=i
   ·subst hji;unfold YU;rw[e];simp only[Ro];simpa using hB
   ·rw[show YU Gs (Ro L i) (fun c=>if c=i then T' else Tf c) w' j=YU Gs L Tf w' j from aEC hji (hTf j hji)]
    exact aAi (h.things j) k (by have:=h.apart j i hji;rw[hcur] at this;exact this)
  ·by_cases hji:j=i
   ·subst hji
    rw[e] at hj;cases hj
    simp only[if_true]
    exact fun b hb=>(hG b hb).elim .inl (fun hge=>.inr (Nat.le_trans h.kept.size hge))
   ·rw[show Ro L i j=L j from if_neg hji] at hl
    simp only[if_neg hji];exact h.grew j t' z hj hl
  ·by_cases hai:a=i
   ·subst hai
    rw[hci,hcj b (fun z=>hab z.symm)];exact hnew b (fun z=>hab z.symm)
   ·rw[hcj a hai]
    by_cases hbi:b=i
    ·subst hbi;rw[hci];exact(hnew a hai).symm
    ·rw[hcj b hbi];exact h.apart a b hab
theorem Qk{P:Program}{ρ:Operand->Value}{o:Oper}{w:World}{R:Value->World->Prop}{ty t:TypeId}{x y:Operand}{p k:Nat}{v u:Value}{vs:List Value}(ho:o.op = .store ty x y)(hx:ρ x = .pointer (some ⟨p,k,none⟩))(hy:ρ y=v)(hB:MJ w p t vs)(hk:vs[k]? = some u)(hv:oneC v=true)
  (hs:(P.info? ty).map (·.size)=some 1)
  (h:∀ w',MJ w' p t (vs.set k v)->KR (fun k=>k=p) w w'->R undef w'):Lg P ρ o w R:=by
 have hc:=hB.cell hk
 have hf:w.frozen? ⟨p,k,none⟩=false:=Nm hB
 cases hq:P.info? ty with
 | none=>simp[hq] at hs
 | some i =>
  have hs':i.size=1:=by simpa [hq] using hs
  have e:(execOp ρ o).run P w = .ok .skip (w.setCell ⟨p,k,none⟩ v)\/(execOp ρ o).run P w = .ok (.value undef) (w.setCell ⟨p,k,none⟩ v):=by
   cases v <;> first
    | (simp[oneC] at hv;done)
    | simp[execOp,ho,hx,hy,Instr.storeAt,Instr.sureAddr,storeVar,sizeOf,typeInfo,hq,hs',Value.cells,hc,hf,go_sem]
  unfold Lg
  rcases e with e|e <;> rw[e] <;> exact h _ (hB.set k v) ((KR.refl (fun k=>k=p) w).setCell ⟨p,k,none⟩ (fun _=>rfl) _)
def aDj(p:Nat)(t:TypeId)(zs us:List Value):Thg:=⟨fun w=>MJ w p t zs,Lh p,fun T w=>T=Lh p/\MJ w p t us,fun _ _ _ h k ha=>h.all k (ha p rfl),fun _ _ _ _ h k ha=>⟨h.1,h.2.all k (ha p (by rw[h.1];rfl))⟩,fun _ h=>L8 h.lt,fun _ _ h=>by rw[h.1];exact L8 h.2.lt⟩
section
variable {P:Program} {N:Nat} {F:Nat->Value} {w:World} {Q:Exit->(Nat->Value)->World->Prop}
def N6(S:Nat->Prop)(M:List (Nat×Nat))(N:Nat)(P:Program)(D:List (Option Tmp))(Gs:List Pt)(F0:Nat->Value)(w0:World)(i:Nat)(o:Oper):Prop :=
 ∀ (F:Nat->Value) (w:World),KR S w0 w->(∀ t,Nat.blt t N=true->some t∉D->F t=F0 t)->Ol D (Z2 w0 Gs M) F w o.after.toList->(∀ k t x,(k=i\/(k,i)∈M)->Gs.getD k Pt.none = .thg t x->t.A w) →
  match o.guard with
  | none=>Lg P (ev F) o w (Vs Gs i w)
  | some (j,want)=>∃ d,D.getD j none=some d ∧
   ((F d = .bool want/\Lg P (ev F) o w (Vs Gs i w))\/((F d = .bool (!want)\/F d=undef)/\Gs.getD i Pt.none = .eq undef))
def Sa(S:Nat->Prop)(M:List (Nat×Nat))(N:Nat)(P:Program)(D:List (Option Tmp))(Gs:List Pt)(F0:Nat->Value)(w0:World):Nat->List Oper->Prop
 | _,[]=>True
 | i,o::r=>N6 S M N P D Gs F0 w0 i o/\Sa S M N P D Gs F0 w0 (i+1) r
theorem Vy{S:Nat->Prop}{M:List (Nat×Nat)}{D:List (Option Tmp)}{Gs:List Pt}{F0:Nat->Value}{w0:World}{i:Nat}:Sa S M N P D Gs F0 w0 i []:=trivial
theorem Nd{S:Nat->Prop}{M:List (Nat×Nat)}{D:List (Option Tmp)}{Gs:List Pt}{F0:Nat->Value}{w0:World}{i:Nat}{o:Oper}{r:List Oper}(h:N6 S M N P D Gs F0 w0 i o)(k:Sa S M N P D Gs F0 w0 (i+1) r):Sa S M N P D Gs F0 w0 i (o::r):=⟨h,k⟩
theorem N6.one{S:Nat->Prop}{M:List (Nat×Nat)}{D:List (Option Tmp)}{Gs:List Pt}{F0:Nat->Value}{w0:World}{i:Nat}{o:Oper}(hg:o.guard=none)
  (h:∀ (F:Nat->Value) (w:World),KR S w0 w->(∀ t,Nat.blt t N=true->some t∉D->F t=F0 t)->Ol D (Z2 w0 Gs M) F w o.after.toList->Lg P (ev F) o w (Vs Gs i w)):N6 S M N P D Gs F0 w0 i o:=by
 intro F w h1 h2 h3 _
 rw[hg];exact h F w h1 h2 h3
theorem N6.oneA{S:Nat->Prop}{M:List (Nat×Nat)}{D:List (Option Tmp)}{Gs:List Pt}{F0:Nat->Value}{w0:World}{i:Nat}{o:Oper}(hg:o.guard=none)
  (h:∀ (F:Nat->Value) (w:World),KR S w0 w->(∀ t,Nat.blt t N=true->some t∉D->F t=F0 t)->Ol D (Z2 w0 Gs M) F w o.after.toList->(∀ k t x,(k,i)∈M->Gs.getD k Pt.none = .thg t x->t.A w)->Lg P (ev F) o w (Vs Gs i w)):N6 S M N P D Gs F0 w0 i o:=by
 intro F w h1 h2 h3 h4
 rw[hg];exact h F w h1 h2 h3 (fun k t x hk=>h4 k t x (.inr hk))
theorem N6.turn{S:Nat->Prop}{M:List (Nat×Nat)}{D:List (Option Tmp)}{Gs:List Pt}{F0:Nat->Value}{w0:World}{i:Nat}{t:Thg}{x:Value}{o:Oper}(hg:o.guard=none)(he:Gs.getD i Pt.none = .thg t x)
  (h:∀ (F:Nat->Value) (w:World),KR S w0 w->(∀ t,Nat.blt t N=true->some t∉D->F t=F0 t)->Ol D (Z2 w0 Gs M) F w o.after.toList->t.A w->Lg P (ev F) o w (fun v w'=>v=x/\KR t.T w w'/\∃ T',t.B T' w'/\KS w t.T T')):N6 S M N P D Gs F0 w0 i o:=by
 intro F w h1 h2 h3 h4
 rw[hg]
 refine(h F w h1 h2 h3 (h4 i t x (.inl rfl) he)).mono' fun v w' hx=>?_
 unfold Vs;rw[he];exact hx
theorem N6.step{S:Nat->Prop}{M:List (Nat×Nat)}{os:List Oper}{D:List (Option Tmp)}{Gs:List Pt}{w0:World}{i:Nat}{o:Oper}{a0:Act}(hO:aCA S w0 Gs)(hmo:Sb os M=true)(hio:os[i]? = some o)(ha:Fr N F a0)(h:N6 S M N P D Gs F w0 i o):XB os P D (fun L v w=>∃ Tf,JT S w0 Gs M L v Tf w) a0 i o:=by
 rintro L v a w ⟨Tf,hJ⟩ hi hdone hout hhere _
 have hdeps:Ol D (Z2 w0 Gs M) (fun t=>a.tmps.getD t undef) w o.after.toList:=by
  refine RS.toF (RS.mk fun e he hb d hd=>?_)
  have hl:=hdone e he hb
  have hDe:D[e.on]? = some (some d):=by
   unfold List.getD at hd
   cases hq:D[e.on]? with
   | none=>rw[hq] at hd;cases hd
   | some y=>rw[hq] at hd;simp at hd;rw[hd]
  rw[hhere e.on d hl hDe,hJ.vals e.on hl]
  have key:∀ c,L c=true->onT w0 Gs c w:=fun c hc=>by
   have ht:=hJ.things c
   unfold onT
   unfold YU at ht
   cases e':Gs.getD c Pt.none with
   | eq y=>trivial
   | thg t y =>
    rw[e'] at ht
    simp only[hc,if_true] at ht
    exact⟨_,ht,hJ.grew c t y e' hc⟩
  exact⟨rfl,key _ hl,fun c hc=>key c (hJ.clos _ _ hc hl)⟩
 have hM:∀ k,(i,k)∈M->L k=true:=fun k hk=>by
  have:=List.all_eq_true.1 hmo _ hk
  simp only[hio] at this
  obtain⟨e,he,hb⟩:=List.any_eq_true.1 this
  simp only[Bool.and_eq_true,Bool.or_eq_true,beq_iff_eq] at hb
  have hl:=hdone e he hb.1
  rcases hb.2 with h1|h1
  ·rw[← h1];exact hl
  ·exact hJ.clos _ _ (by simpa using h1) hl
 have h1:=h (fun t=>a.tmps.getD t undef) w hJ.kept (fun t hb ht=>by rw[← ha.at' t hb];exact hout t ht) hdeps (fun k t x hk e=>by
  have hLk:L k=false:=by
   rcases hk with rfl|hk
   ·exact hi
   ·cases hL:L k with
    | false=>rfl
    | true=>have:=hJ.clos k i hk hL;rw[hi] at this;cases this
  have:=hJ.things k
  unfold YU at this
  rw[e] at this
  simpa [hLk] using this)
 rw[← R6 a] at h1
 unfold Qs
 cases hg:o.guard with
 | none=>rw[hg] at h1;exact⟨fun _=>h1.mono' fun x w' hx=>hJ.more hO hi hM hx,fun e=>by cases e⟩
 | some g =>
  obtain⟨j,want⟩:=g
  rw[hg] at h1
  obtain⟨d,hd,h1⟩:=h1
  simp only[hd]
  have hev:a.eval (.tmp d)=a.tmps.getD d undef:=rfl
  rcases h1 with ⟨hv,hy⟩ | ⟨hv,hs⟩
  ·rw[hev,hv];exact⟨fun _=>hy.mono' fun x w' hx=>hJ.more hO hi hM hx,fun e=>by simp at e⟩
  ·refine⟨fun e=>?_,fun _=>hJ.more hO hi hM (by unfold Vs;rw[hs];exact⟨rfl,KR.refl _ _⟩)⟩
   rcases hv with hv|hv
   ·rw[hev,hv] at e;cases want <;> simp at e
   ·rw[hev,hv] at e;simp[undef] at e
theorem Sa.steps{S:Nat->Prop}{M:List (Nat×Nat)}{all:List Oper}{D:List (Option Tmp)}{Gs:List Pt}{w0:World}{a0:Act}(hO:aCA S w0 Gs)(hmo:Sb all M=true)(ha:Fr N F a0):∀ {os:List Oper} {i:Nat},(∀ k o,os[k]? = some o->all[i+k]? = some o)->Sa S M N P D Gs F w0 i os->QU all P D (fun L v w=>∃ Tf,JT S w0 Gs M L v Tf w) a0 i os:=by
 intro os
 induction os with
 | nil=>intro i _ _;exact trivial
 | cons o r ih =>
  intro i hat h
  exact⟨h.1.step hO hmo (hat 0 o rfl) ha,ih (fun k o' hk=>by have:=hat (k+1) o' hk;rwa [show i+(k+1)=i+1+k by omega] at this) h.2⟩
theorem ZF{S:Nat->Prop}{id:Nat}{ops:Array Oper}(M:List (Nat×Nat))(D:List (Option Tmp))(Gs:List Pt)(hm:P.follows .mixedOrders=true)(hpl:plain N 0 D ops.toList=true)(hmo:Sb ops.toList M=true)(hsz:Gs.length=ops.size)(hO:aCA S w Gs)(hsteps:Sa S M N P D Gs F w 0 ops.toList)
  (hend:∀ (v:Nat->Value) (Tf:Nat->Nat->Prop) (F':Nat->Value) (w':World),KR S w w'->(∀ i,i<ops.size->v i=aBS (Gs.getD i Pt.none))->(∀ i t x,Gs.getD i Pt.none = .thg t x->t.B (Tf i) w'/\KS w t.T (Tf i))->(∀ i j t x t' x',i≠j->Gs.getD i Pt.none = .thg t x->Gs.getD j Pt.none = .thg t' x'->KO (Tf i) (Tf j))->(∀ t,F' t=Q9 v 0 D F t)->Q .normal F' w'):wq none P N (.region id ops true) Q F w:=by
 intro a ha
 refine wpIn_wide.2 ?_
 refine TA D (fun L v w'=>∃ Tf,JT S w Gs M L v Tf w') hm (by rw[ha.size];exact hpl) ⟨fun _=>Mb,(KR.refl _ w).drew,fun _ e=>(by cases e),fun i=>?_,fun _ _ _ _ e=>(by cases e),hO.2,fun _ _ _ e=>(by cases e)⟩ (hsteps.steps hO hmo ha (fun k o hk=>by rw[Nat.zero_add];exact hk)) fun L v w' ⟨Tf,hJ⟩ hL=>?_
 ·unfold YU
  cases e:Gs.getD i Pt.none with
  | eq y=>trivial
  | thg t y=>exact t.stA w _ (fun _=>False) (hO.1 i t y e).2 (KR.refl _ w).drew (fun _ _ z=>z)
 ·have hlt:∀ i t x,Gs.getD i Pt.none = .thg t x->L i=true:=fun i t x e=>by
   refine hL i ?_
   rw[← hsz]
   rcases Nat.lt_or_ge i Gs.length with h'|h'
   ·exact h'
   ·have:Gs.getD i Pt.none=Pt.none:=by simp[List.getD,List.getElem?_eq_none h']
    rw[this] at e;cases e
  refine⟨Q9 v 0 D F,Py v D 0 F a ha (OS hpl),hend v Tf _ w' hJ.kept (fun i hi=>hJ.vals i (hL i hi)) (fun i t x e=>?_) (fun i j t x t' x' hij e1 e2=>?_) fun _=>rfl⟩
  ·have:=hJ.things i
   unfold YU at this
   rw[e] at this
   simp only[hlt i t x e,if_true] at this
   exact⟨this,hJ.grew i t x e (hlt i t x e)⟩
  ·have:=hJ.apart i j hij
   unfold Q0 at this
   rw[e1,e2] at this
   simpa only [hlt i t x e1,hlt j t' x' e2,if_true] using this
end
open Go.RowKit
def hold(L:Nat->Bool)(v:Nat->Value)(C:Nat->List Nat)(vI:Value)(lI:List Nat):List Nat->Value×List Nat
 | []=>(vI,lI)
 | x::r=>if L x=true then (v x,C x) else hold L v C vI lI r
section
variable {os:List Oper} {P:Program} {D:List (Option Tmp)} {w0:World} {S0:Nat->Prop} {B:Nat} {vI:Value} {lI X:List Nat} {C:Nat->List Nat} {Gs:List Pd} {a0:Act} {i:Nat} {o:Oper}
end
open Go.RowKit
theorem WF(n:Nat):(madeCells (Value.int .u8 0).cells n).toList=LK (List.replicate n 0):=by
 unfold madeCells LK Value.cells
 rw[List.map_replicate]
 apply List.ext_getElem?
 intro i
 by_cases h:i<n
 ·simp[h,Nat.mod_one]
 ·simp[h]
theorem Wz(w:World)(kl kc:IntKind)(n:Nat)(hn:n<1099511627776) :
  (Instr.makeSlice 26 (.int kl (n:Int)) (.int kc (n:Int))).run Tryz.prog w = .ok (.slice (some ⟨w.heap.size,0,none⟩) n n) (w.alloc (.cells (LK (List.replicate n 0)).toArray 5)):=by
 obtain⟨i0,hi,hz0,hz1,hz2⟩:=info_parts Tryz.info_u8
 have hr:=run_make (P:=Tryz.prog) w 26 5 i0 (.int .u8 0) Tryz.underlying26 hi hz0 kl kc n n (by omega) (Int.le_refl _) (by rw[hz2];omega) (by omega)
 simp only[Int.toNat_natCast,hz1,Nat.mul_one] at hr
 rw[hr,← WF]
theorem aCB(n:Nat):∀ x∈List.replicate n 0,x<256:=by intro x hx;have:=(List.mem_replicate.1 hx).2;omega
theorem aAu(w:World)(B n:Nat)(hB:B<=w.heap.size)(hn:n<1099511627776):VH (w.alloc (.cells (LK (List.replicate n 0)).toArray 5)) B (.slice (some ⟨w.heap.size,0,none⟩) n n) (List.replicate n 0):=by
 have h:=VH.of_new (B:=B) (l:=List.replicate n 0) (heap_alloc_new w _) hB (by rw[List.length_replicate];unfold maxLen;omega) (aCB n)
 rwa [List.length_replicate] at h
theorem aE1{ρ:Operand->Value}{o:Oper}{w:World}{R:Value->World->Prop}{x y:Operand}{kl kc:IntKind}{n:Nat}(ho:o.op = .makeSlice 26 x y)(hx:ρ x = .int kl (n:Int))(hy:ρ y = .int kc (n:Int))(hn:n<1099511627776)
  (h:R (.slice (some ⟨w.heap.size,0,none⟩) n n) (w.alloc (.cells (LK (List.replicate n 0)).toArray 5))):Lg Tryz.prog ρ o w R :=
 Nf (by simp[execOp,ho,hx,hy,Wz w kl kc n hn]) h
theorem aBT{ρ:Operand->Value}{o:Oper}{w:World}{R:Value->World->Prop}{x:Operand}{c:Nat}(ho:o.op = .buildSlice 26 1 #[(0,x)])(hx:ρ x = .int .u8 (c:Int))
  (h:R (.slice (some ⟨w.heap.size,0,none⟩) 1 1) (w.alloc (.cells (LK [c]).toArray 5))):Lg Tryz.prog ρ o w R :=
 Nf (v:=.slice (some ⟨w.heap.size,0,none⟩) 1 1) (w':=w.alloc (.cells (LK [c]).toArray 5)) (by simp[execOp,ho,hx,go_sem];rfl) h
open Go.RowKit
def Md(w:World)(T:Nat->Prop)(v:Value)(l:List Nat):Prop:=VH w 0 v l/\∀ i,T i↔v.ownBlock=some i
theorem Md.nil(w:World):Md w Mb (.slice none 0 0) []:=⟨VH.nil w 0,fun i=>⟨fun h=>h.elim,fun h=>by cases h⟩⟩
theorem Md.live{w:World}{T:Nat->Prop}{v:Value}{l:List Nat}(h:Md w T v l):PI w T:=fun i hi=>(h.1.lt i ((h.2 i).1 hi)).2
theorem Md.byt{w:World}{T:Nat->Prop}{v:Value}{l:List Nat}(h:Md w T v l):Mv w T v l:=⟨h.1.bytes,h.live,fun _ a n c e=>(h.2 a.block).2 (by rw[e];rfl)⟩
theorem Md.all{S:Nat->Prop}{w w':World}{T:Nat->Prop}{v:Value}{l:List Nat}(h:Md w T v l)(k:KR S w w')(ha:KO T S):Md w' T v l:=⟨h.1.kept k (fun g hg=>ha g ((h.2 g).2 hg)),h.2⟩
instance {w w':World} {T:Nat->Prop} {v:Value} {l:List Nat}:Cr w w' (Md w T v l) (Md w' T v l):=⟨fun h k=>h.all k KO.none⟩
instance {w:World} {T:Nat->Prop} {v:Value} {l:List Nat}:Lv w (Md w T v l) (T):=⟨fun h=>h.live⟩
theorem Md.one{w:World}{T:Nat->Prop}{v:Value}{l:List Nat}(h:Md w T v l):v.oneCell'=true:=h.byt.one
theorem Md.oneC{w:World}{T:Nat->Prop}{v:Value}{l:List Nat}(h:Md w T v l):oneC v=true:=h.byt.oneC
theorem Md.cells{w:World}{T:Nat->Prop}{v:Value}{l:List Nat}(h:Md w T v l):Pw w T:=fun i hi=>by
 have hv:=(h.2 i).1 hi
 rcases h.1.1.2 with ⟨rfl,_⟩ | ⟨g,cap,cur,rfl,_,hg,_⟩
 ·cases hv
 ·cases hv;exact⟨_,hg,rfl⟩
theorem Md.row{A B:World}{row:Option Nat}{n:Nat}{T:Nat->Prop}{v:Value}{l:List Nat}(h:Md A T v l)(hg:A.grownBy B row)(hr:Rq n A row):Md B T v l:=h.all (Qi hg) (h.cells.apart hr)
theorem Md.lt256{w:World}{T:Nat->Prop}{v:Value}{l:List Nat}(h:Md w T v l):∀ x∈l,x<256:=h.1.2
theorem Md.of{w:World}{v:Value}{l:List Nat}(h:VH w 0 v l):Md w (fun i=>v.ownBlock=some i) v l:=⟨h,fun _=>Iff.rfl⟩
theorem Mv.lt256{w:World}{T:Nat->Prop}{v:Value}{l:List Nat}(h:Mv w T v l):∀ x∈l,x<256:=h.1.lt256
def NC(v:Value)(j:Nat):Value:=match v with
 | .slice (some a) _ _=>.pointer (some (a.add j))
 | _=>undef
section
variable {ρ:Operand->Value} {o:Oper} {w:World} {R:Value->World->Prop}
theorem azC{x ix:Operand}{T:Nat->Prop}{v:Value}{l:List Nat}{k:IntKind}(j:Nat){i:Int}(ho:o.op = .indexAddr 26 x ix)(hx:ρ x=v)(hi:ρ ix = .int k i)(hij:i=(j:Int))(hb:Mv w T v l)(hj:j<l.length)(h:R (NC v j) w):Lg Tryz.prog ρ o w R:=by
 subst hij
 obtain⟨⟨a,cap,rfl,_,_,_,_,hc⟩,_⟩:=hb
 obtain⟨b,off,rfl,_,_⟩:=hc (by omega)
 obtain⟨i0,hi0,hz0,hz1,hz2⟩:=info_parts Tryz.info_u8
 exact Nf (v:=NC (.slice (some ⟨b,off,none⟩) l.length cap) j) (w':=w) (by simp[execOp,ho,hx,hi,Instr.indexAt,run_underlying Tryz.underlying26,asIntOf,sizeOf,typeInfo,hi0,hz1,hj,NC]) h
theorem Mv.at_{w:World}{T:Nat->Prop}{v:Value}{l:List Nat}{j:Nat}(hb:Mv w T v l)(hj:j<l.length):∃ a,NC v j = .pointer (some a)/\w.cell? a=some (.int .u8 (l.getD j 0:Nat)):=by
 obtain⟨⟨a,cap,rfl,_,_,_,_,hc⟩,_⟩:=hb
 obtain⟨b,off,rfl,_,hcell⟩:=hc (by omega)
 exact⟨⟨b,off+j,none⟩,by rw[NC,Addr.add_lit],hcell j hj⟩
theorem azW{x:Operand}{T:Nat->Prop}{v:Value}{l:List Nat}{j:Nat}(ho:o.op = .load 5 x)(hx:ρ x=NC v j)(hb:Mv w T v l)(hj:j<l.length)(h:R (.int .u8 ((l.getD j 0:Nat):Int)) w):Lg Tryz.prog ρ o w R:=by
 obtain⟨a,ha,hc⟩:=hb.at_ hj
 exact ZN ho (hx.trans ha) Tryz.underlying5 rfl hc h
end
theorem Vk(w:World)(ty:TypeId)(v x:Value)(l m:List Nat)(hown:VH w 0 v l)(hx:MG w x m)(hl:l.length+m.length<1099511627776) :
  ∃ v' w',(Builtin.append_ #[26,26] ty #[v,x]).run Tryz.prog w = .ok v' w'/\Z7 w w' 0 v v' (l++m)/\(v'.ownBlock=v.ownBlock\/∀ i,v'.ownBlock=some i->w.heap.size<=i):=by
 obtain⟨v',w',hr,hA⟩:=RT w ty 0 v x l m hown hx hl (Nat.zero_le _)
 refine⟨v',w',hr,hA,?_⟩
 obtain⟨i0,hi,hz0,hz1,hz2⟩:=info_parts Tryz.info_u8
 obtain⟨a,cap,rfl,h1,h2,h3,h256,hc⟩:=hx
 rcases hown.1.2 with ⟨rfl,h0⟩ | ⟨g,cp,cur,rfl,hb,hg,hnc,hcm,hcs,htake⟩
 ·-- none yet: whatever there is is new
  right
  intro i hi'
  have hnil:l=[]:=List.eq_nil_of_length_eq_zero h0
  subst hnil
  obtain⟨v2,w2,hr2,hA2⟩:=RT w ty w.heap.size (.slice none 0 0) (.slice a m.length cap) [] m (VH.nil w _) ⟨a,cap,rfl,h1,h2,h3,h256,hc⟩ (by simpa using hl) (Nat.le_refl _)
  rw[hr] at hr2
  cases hr2
  exact(hA2.1.lt i hi').1
 ·cases a with
  | none =>
   have hc0:=h3 rfl
   subst hc0
   have hm:m=[]:=List.eq_nil_of_length_eq_zero (by omega)
   subst hm
   left
   have hr2:=run_append_owned_none (P:=Tryz.prog) w 0 26 ty _ i0 1 Tryz.underlying26 hi (.slice (some ⟨g,0,none⟩) l.length cp) _ _ hown.1
   simp only[List.length_nil] at hr
   rw[hr2] at hr
   cases hr;rfl
  | some ad =>
   have hcells:∀ j u,(LK m)[j]? = some u->w.cell? (ad.add j)=some u:=by
    intro j u hj
    have hjl:j<m.length:=by
     have:=(List.getElem?_eq_some_iff.1 hj).1
     rwa [LI] at this
    obtain⟨b,off,he,hb,hcell⟩:=hc (by omega)
    cases he
    rw[Addr.add_lit,hcell j hjl,← hj,Pz m j hjl]
   by_cases hroom:l.length+m.length<=cp
   ·left
    have hr2:=run_append_room (P:=Tryz.prog) w 26 ty 5 i0 Tryz.underlying26 hi g l.length cp cur hg ad m.length cap (LK m) (by rw[hz1,LI];omega) hcells (QB m) hroom (by rw[hz1,LI,hcs];omega)
    rw[hr2] at hr
    cases hr;rfl
   ·right
    intro i hi'
    have hr2:=run_append_grow (P:=Tryz.prog) w 26 ty 5 i0 (.int .u8 0) Tryz.underlying26 hi hz0 ⟨g,0,none⟩ l.length cp (LK l) (by rw[hz1,LI];omega) (hown.1.cells rfl) ad m.length cap (LK m) (by rw[hz1,LI];omega) hcells (by omega) (by omega) (growslice_fits (by omega) (by rw[hz2];omega))
    rw[hr2] at hr
    cases hr
    cases hi';exact Nat.le_refl _
section
variable {ro:Option Nat} {N:Nat} {Q:(Exit->(Nat->Value)->World->Prop)} {F:Nat->Value} {w:World} {o:Oper}
theorem Wn{ops:Array Oper}{rest:List Oper}{x y:Operand}{kl kc:IntKind}{n:Nat}{i j:Int}(hg:o.guard=none)(hd:OD N o.dst=true)(ho:o.op = .makeSlice 26 x y)(hx:ev (M3 N F) x = .int kl i)(hy:ev (M3 N F) y = .int kc j)(hi:i=(n:Int))(hj:j=(n:Int))(hn:n<1099511627776)
  (h:∀ v w' T,Md w' T v (List.replicate n 0)->KS w Mb T->KR (fun _=>False) w w'->wl ro Tryz.prog N ops Q rest (OQ F o.dst v) w'):wl ro Tryz.prog N ops Q (o::rest) F w:=by
 subst hi;subst hj
 refine NV hg hd (aE1 ho hx hy hn (h _ _ _ (Md.of (aAu w 0 n (Nat.zero_le _) hn)) (fun i hi=>.inr ?_) ((KR.refl _ _).alloc _)))
 cases hi;exact Nat.le_refl _
theorem ayO{ops:Array Oper}{rest:List Oper}(hg:o.guard=none)(hd:OD N o.dst=true)(ho:o.op = .buildSlice 26 0 #[])
  (h:∀ v w' T,Md w' T v []->KS w Mb T->KR (fun _=>False) w w'->wl ro Tryz.prog N ops Q rest (OQ F o.dst v) w'):wl ro Tryz.prog N ops Q (o::rest) F w:=by
 refine NV hg hd (Nf (v:=.slice (some ⟨w.heap.size,0,none⟩) 0 0) (w':=w.alloc (.cells (LK []).toArray 5)) (by simp[execOp,ho,go_sem];rfl) (h _ _ _ (Md.of (VH.of_new (B:=0) (l:=[]) (heap_alloc_new w _) (Nat.zero_le _) (Nat.zero_le _) (by simp))) (fun i hi=>.inr ?_) ((KR.refl _ _).alloc _)))
 cases hi;exact Nat.le_refl _
theorem O0{ops:Array Oper}{rest:List Oper}{x:Operand}{n:Nat}{z:Int}(hg:o.guard=none)(hd:OD N o.dst=true)(ho:o.op = .buildSlice 26 1 #[(0,x)])(hx:ev (M3 N F) x = .int .u8 z)(hz:z=(n:Int))(hn:n<256)
  (h:∀ v w' T,Md w' T v [n]->KS w Mb T->KR (fun _=>False) w w'->wl ro Tryz.prog N ops Q rest (OQ F o.dst v) w'):wl ro Tryz.prog N ops Q (o::rest) F w:=by
 subst hz
 refine NV hg hd (aBT ho hx (h _ _ _ (Md.of (VH.of_new (B:=0) (l:=[n]) (heap_alloc_new w _) (Nat.zero_le _) (show 1<=maxLen by decide) (by simpa using hn))) (fun i hi=>.inr ?_) ((KR.refl _ _).alloc _)))
 cases hi;exact Nat.le_refl _
theorem OR{ops:Array Oper}{rest:List Oper}{c:Call}{x y:Operand}{T U:Nat->Prop}{v u:Value}{l m:List Nat}(hg:o.guard=none)(hd:OD N o.dst=true)(ho:o.op = .call c)(hc:c={ callee:=.builtin .append,args:=#[x,y],argTypes:=#[26,26] })(hx:ev (M3 N F) x=v)(hy:ev (M3 N F) y=u)(hv:Md w T v l)(hu:Mv w U u m)(hl:l.length+m.length<1099511627776)
  (h:∀ v' w' T',Md w' T' v' (l++m)->KS w T T'->KR T w w'->wl ro Tryz.prog N ops Q rest (OQ F o.dst v') w'):wl ro Tryz.prog N ops Q (o::rest) F w:=by
 subst hc
 obtain⟨v',w',hr,hA,hw⟩:=Vk w o.type v u l m hv.1 hu.1 hl
 refine NV hg hd (Nf (v:=v') (w':=w') (by simp[execOp,ho,resolve,invoke,builtin,hx,hy,hr]) (h v' w' _ (Md.of hA.1) (fun i hi=>?_) ((KR.refl T w).grown hA.2 (fun k e _=>(hv.2 k).2 e))))
 rcases hw with hw|hw
 ·exact .inl ((hv.2 i).2 (hw ▸ hi))
 ·exact .inr (hw i hi)
theorem WA{ops:Array Oper}{rest:List Oper}{c:Call}{x y:Operand}{T U:Nat->Prop}{v u:Value}{l m:List Nat}(hg:o.guard=none)(hd:OD N o.dst=true)(ho:o.op = .call c)(hc:c={ callee:=.builtin .copy,args:=#[x,y],argTypes:=#[26,26] })(hx:ev (M3 N F) x=v)(hy:ev (M3 N F) y=u)(hv:Md w T v l)(hu:Mv w U u m)(hl:l.length=m.length)
  (h:∀ w',Md w' T v m->KR T w w'->wl ro Tryz.prog N ops Q rest (OQ F o.dst (.int .i64 ((m.length:Nat):Int))) w'):wl ro Tryz.prog N ops Q (o::rest) F w:=by
 subst hc
 have hsz:(Tryz.prog.info? 5).map (·.size)=some 1:=by
  obtain⟨i0,hi0,hz0,hz1,hz2⟩:=info_parts Tryz.info_u8
  rw[hi0];simp[hz1]
 obtain⟨⟨a,cap,rfl,h1,h2,h3,h256,hcu⟩,_⟩:=hu
 obtain⟨sa,scap,hsv⟩:=hv.1.shape
 by_cases h0:m.length=0
 ·have hm:m=[]:=List.eq_nil_of_length_eq_zero h0
  subst hm
  have hnil:l=[]:=List.eq_nil_of_length_eq_zero hl
  subst hnil
  have hrun:=run_copy_none (P:=Tryz.prog) w 26 26 o.type 5 sa a 0 scap 0 cap Tryz.underlying26 hsz rfl
  refine NV hg hd (Nf (v:=.int .i64 0) (w':=w) (by simp[execOp,ho,resolve,invoke,builtin,hx,hy,hsv,hrun,Result.andThen];rfl) (h w hv (KR.refl _ _)))
 ·obtain⟨b,off,rfl,_,hcell⟩:=hcu (by omega)
  rcases hv.1.1.2 with ⟨rfl,hz⟩ | ⟨g,cp,cur,rfl,hb,hgg,hnc,hcm,hcs,htake⟩
  ·omega
  ·have hrun:=run_copy_row (P:=Tryz.prog) w 26 26 o.type 5 g 0 l.length cp ⟨b,off,none⟩ m.length cap cur 5 (LK m) Tryz.underlying26 hsz hgg (by rw[LI,hl];simp) (fun j u hj=>by
    have hjl:j<m.length:=by
     have:=(List.getElem?_eq_some_iff.1 hj).1
     rwa [LI] at this
    rw[Addr.add_lit,hcell j hjl,← hj,Pz m j hjl]) (by rw[LI];omega) (QB m)
   refine NV hg hd (Nf (v:=.int .i64 ((m.length:Nat):Int)) (w':=w.setRow g (cur.toList.take 0++(LK m++cur.toList.drop (0+(LK m).length))).toArray) (by simp[execOp,ho,resolve,invoke,builtin,hx,hy,hrun,Result.andThen,LI];rfl) (h _ ⟨⟨⟨?_,.inr ⟨g,cp,_,?_,Nat.zero_le _,setRow_heap w g cur _ _ _ hgg,?_,hcm,?_,?_⟩⟩,h256⟩,hv.2⟩ ((KR.refl T w).setRow g (fun _=>(hv.2 g).2 rfl) _)))
   ·rw[LI];omega
   ·rw[hl]
   ·omega
   ·simp[LI];omega
   ·simp[LI]
end
open Go.RowKit
theorem La:Rf Tryz.prog 29 5:=⟨_,Tryz.underlying29,rfl,by kernel_rfl⟩
end Go.Proofs.YtknjpdcpmpfklaaGreatDoor
