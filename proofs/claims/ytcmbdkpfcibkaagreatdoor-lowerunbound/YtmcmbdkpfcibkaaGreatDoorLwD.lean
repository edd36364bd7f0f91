import Derived.Test.YtmcmbdkpfcibkaaGreatDoorRgIn
import Derived.Test.YtmcmbdkpfcibkaaGreatDoorLuI
import Derived.Test.YtmcmbdkpfcibkaaGreatDoorDwC
import Derived.Test.YtmcmbdkpfcibkaaGreatDoorLxU
import Derived.Test.YtmcmbdkpfcibkaaGreatDoorLvC
import Derived.Test.YtmcmbdkpfcibkaaGreatDoorLuE
import Derived.Test.YtmcmbdkpfcibkaaGreatDoorLvH
import Derived.Test.YtmcmbdkpfcibkaaGreatDoorLuG
import Derived.Test.YtmcmbdkpfcibkaaGreatDoorPmClone
import Derived.Test.YtmcmbdkpfcibkaaGreatDoorLuJ
import Derived.Test.YtmcmbdkpfcibkaaGreatDoorPoNext
import Derived.Laws.Concat
set_option linter.unusedVariables false
set_option maxHeartbeats 12800000
namespace Go.Proofs.YtmcmbdkpfcibkaaGreatDoor
set_option maxRecDepth 100000
open Go.RowKit
def N0:ByteArray->Nat:=fun _=>0
theorem N0_le {m:Nat}:∀ y,N0 y<=m:=fun _=>Nat.zero_le _
def OddR (p:Ph):Prop:=∀ p0,p0<=500->∃ q,q<=p0 + 20/\RunN 24 p N0 p0 q
theorem bad_var {nm:ByteArray} {N:ByteArray->Nat} {p:Nat} (hn:nm.size<=maxLen) (h0:N nm=0):RunN 24 (ph0 2 ⟨0,0,⟨#[]⟩⟩ nm 0 0 0 ⟨#[]⟩) N p p:=bad_alone (by
 have h:=al_var (it:=⟨0,0,⟨#[]⟩⟩) (tn:=⟨#[]⟩) (cn:=0) (ax:=0) (tk:=0) (N:=N) (p:=p) hn
 rw [if_pos h0] at h
 exact h)
theorem lit_1 (n:Int) (N:ByteArray->Nat) (p:Nat) (hp:p + 1<=700) (hg:litF ⟨2,n,⟨#[]⟩⟩=0):RunE (litN n) N p (p + 1) (exN 1 ⟨2,n,⟨#[]⟩⟩ ⟨#[]⟩ ⟨#[]⟩ 0 0 (fun _=>.no)):=e_lit ⟨2,n,⟨#[]⟩⟩ N p hp (Nat.zero_le _) hg ⟨#[]⟩ 0 0 0 ⟨#[]⟩
theorem pkO0:PcK [44,32,36,122,41] [⟨5,⟨#[44]⟩,0⟩,⟨4,⟨#[122]⟩,0⟩,⟨5,⟨#[41]⟩,0⟩]:=⟨by decide +kernel,fun R=>Cuts.of 60 (by kernel_rfl)⟩
theorem pkO1:PcK [44,32,46,41] [⟨5,⟨#[44]⟩,0⟩,⟨5,⟨#[46]⟩,0⟩,⟨5,⟨#[41]⟩,0⟩]:=⟨by decide +kernel,fun R=>Cuts.of 60 (by kernel_rfl)⟩
theorem pkO2:PcK [44,32,112,111,115,105,116,105,111,110,40,41,41] [⟨5,⟨#[44]⟩,0⟩,⟨1,⟨#[112,111,115,105,116,105,111,110]⟩,0⟩,⟨5,⟨#[40]⟩,0⟩,⟨5,⟨#[41]⟩,0⟩,⟨5,⟨#[41]⟩,0⟩]:=⟨by decide +kernel,fun R=>Cuts.of 60 (by kernel_rfl)⟩
theorem pkO3:PcK [44,32,108,97,115,116,40,41,41] [⟨5,⟨#[44]⟩,0⟩,⟨1,⟨#[108,97,115,116]⟩,0⟩,⟨5,⟨#[40]⟩,0⟩,⟨5,⟨#[41]⟩,0⟩,⟨5,⟨#[41]⟩,0⟩]:=⟨by decide +kernel,fun R=>Cuts.of 60 (by kernel_rfl)⟩
theorem pkO4:PcK [44,32,97,41] [⟨5,⟨#[44]⟩,0⟩,⟨1,⟨#[97]⟩,0⟩,⟨5,⟨#[41]⟩,0⟩]:=⟨by decide +kernel,fun R=>Cuts.of 60 (by kernel_rfl)⟩
theorem pkO5:PcK [44,32,102,111,114,32,36,120,32,105,110,32,36,120,32,114,101,116,117,114,110,32,49,41] [⟨5,⟨#[44]⟩,0⟩,⟨1,⟨#[102,111,114]⟩,0⟩,⟨4,⟨#[120]⟩,0⟩,⟨1,⟨#[105,110]⟩,0⟩,⟨4,⟨#[120]⟩,0⟩,⟨1,⟨#[114,101,116,117,114,110]⟩,0⟩,⟨2,⟨#[]⟩,1⟩,⟨5,⟨#[41]⟩,0⟩]:=⟨by decide +kernel,fun R=>Cuts.of 60 (by kernel_rfl)⟩
theorem pkO6:PcK [44,32,40,102,111,114,32,36,120,32,105,110,32,49,32,114,101,116,117,114,110,32,50,44,32,36,120,41,41] [⟨5,⟨#[44]⟩,0⟩,⟨5,⟨#[40]⟩,0⟩,⟨1,⟨#[102,111,114]⟩,0⟩,⟨4,⟨#[120]⟩,0⟩,⟨1,⟨#[105,110]⟩,0⟩,⟨2,⟨#[]⟩,1⟩,⟨1,⟨#[114,101,116,117,114,110]⟩,0⟩,⟨2,⟨#[]⟩,2⟩,⟨5,⟨#[44]⟩,0⟩,⟨4,⟨#[120]⟩,0⟩,⟨5,⟨#[41]⟩,0⟩,⟨5,⟨#[41]⟩,0⟩]:=⟨by decide +kernel,fun R=>Cuts.of 60 (by kernel_rfl)⟩
theorem pkO7:PcK [44,32,108,101,116,32,36,120,32,58,61,32,49,32,114,101,116,117,114,110,32,36,121,41] [⟨5,⟨#[44]⟩,0⟩,⟨1,⟨#[108,101,116]⟩,0⟩,⟨4,⟨#[120]⟩,0⟩,⟨5,⟨#[58,61]⟩,0⟩,⟨2,⟨#[]⟩,1⟩,⟨1,⟨#[114,101,116,117,114,110]⟩,0⟩,⟨4,⟨#[121]⟩,0⟩,⟨5,⟨#[41]⟩,0⟩]:=⟨by decide +kernel,fun R=>Cuts.of 60 (by kernel_rfl)⟩
theorem pkO8:PcK [44,32,115,111,109,101,32,36,120,32,105,110,32,49,32,115,97,116,105,115,102,105,101,115,32,36,121,41] [⟨5,⟨#[44]⟩,0⟩,⟨1,⟨#[115,111,109,101]⟩,0⟩,⟨4,⟨#[120]⟩,0⟩,⟨1,⟨#[105,110]⟩,0⟩,⟨2,⟨#[]⟩,1⟩,⟨1,⟨#[115,97,116,105,115,102,105,101,115]⟩,0⟩,⟨4,⟨#[121]⟩,0⟩,⟨5,⟨#[41]⟩,0⟩]:=⟨by decide +kernel,fun R=>Cuts.of 60 (by kernel_rfl)⟩
theorem odd0:IsSg [⟨4,⟨#[122]⟩,0⟩] (ph0 2 ⟨0,0,⟨#[]⟩⟩ ⟨#[122]⟩ 0 0 0 ⟨#[]⟩) 12/\OddR (ph0 2 ⟨0,0,⟨#[]⟩⟩ ⟨#[122]⟩ 0 0 0 ⟨#[]⟩):=⟨(sg_prim0 (prim_dol (s:=⟨#[122]⟩) (by decide))).more (by decide),fun p0 _=>⟨p0,by omega,bad_var (by decide) rfl⟩⟩
theorem odd1:IsSg [⟨5,⟨#[46]⟩,0⟩] (ph0 27 ⟨0,0,⟨#[]⟩⟩ ⟨#[]⟩ 0 0 0 ⟨#[]⟩) 12/\OddR (ph0 27 ⟨0,0,⟨#[]⟩⟩ ⟨#[]⟩ 0 0 0 ⟨#[]⟩):=⟨(sg_prim0 prim_dot).more (by decide),fun p0 _=>⟨p0,by omega,bad_alone (al_dot (N:=N0) (p:=p0))⟩⟩
theorem odd2:IsSg [⟨1,⟨#[112,111,115,105,116,105,111,110]⟩,0⟩,⟨5,⟨#[40]⟩,0⟩,⟨5,⟨#[41]⟩,0⟩] (ph0 8 ⟨0,0,⟨#[]⟩⟩ ⟨#[112,111,115,105,116,105,111,110]⟩ 0 0 0 ⟨#[]⟩) 12/\OddR (ph0 8 ⟨0,0,⟨#[]⟩⟩ ⟨#[112,111,115,105,116,105,111,110]⟩ 0 0 0 ⟨#[]⟩):=⟨(sg_prim0 (prim_call0 (s:=⟨#[112,111,115,105,116,105,111,110]⟩) (by decide +kernel))).more (by decide),fun p0 _=>⟨p0,by omega,bad_alone (al_pos (N:=N0) (p:=p0))⟩⟩
theorem odd3:IsSg [⟨1,⟨#[108,97,115,116]⟩,0⟩,⟨5,⟨#[40]⟩,0⟩,⟨5,⟨#[41]⟩,0⟩] (ph0 8 ⟨0,0,⟨#[]⟩⟩ ⟨#[108,97,115,116]⟩ 0 0 0 ⟨#[]⟩) 12/\OddR (ph0 8 ⟨0,0,⟨#[]⟩⟩ ⟨#[108,97,115,116]⟩ 0 0 0 ⟨#[]⟩):=⟨(sg_prim0 (prim_call0 (s:=⟨#[108,97,115,116]⟩) (by decide +kernel))).more (by decide),fun p0 _=>⟨p0,by omega,bad_alone (al_last (N:=N0) (p:=p0))⟩⟩
theorem odd4:IsSg [⟨1,⟨#[97]⟩,0⟩] (stepPh 1 4 ⟨#[97]⟩) 12/\OddR (stepPh 1 4 ⟨#[97]⟩):=⟨(sg_prim0 (prim_name pi_a)).more (by decide),fun p0 _=>⟨p0,by omega,bad_alone (al_step (N:=N0) (p:=p0) (ax:=1) (tk:=4) (tn:=⟨#[97]⟩) (by decide))⟩⟩
theorem odd5:IsSg [⟨1,⟨#[102,111,114]⟩,0⟩,⟨4,⟨#[120]⟩,0⟩,⟨1,⟨#[105,110]⟩,0⟩,⟨4,⟨#[120]⟩,0⟩,⟨1,⟨#[114,101,116,117,114,110]⟩,0⟩,⟨2,⟨#[]⟩,1⟩] (flwP 1 ⟨#[120]⟩ (ph0 2 ⟨0,0,⟨#[]⟩⟩ ⟨#[120]⟩ 0 0 0 ⟨#[]⟩) (litN 1)) 12/\OddR (flwP 1 ⟨#[120]⟩ (ph0 2 ⟨0,0,⟨#[]⟩⟩ ⟨#[120]⟩ 0 0 0 ⟨#[]⟩) (litN 1)):=⟨(sg_forinE (s:=⟨#[120]⟩) (X:=[⟨4,⟨#[120]⟩,0⟩]) (Y:=[⟨2,⟨#[]⟩,1⟩]) (by decide) (sg_prim0 (prim_dol (s:=⟨#[120]⟩) (by decide))) (sg_prim0 (prim_num 1))).more (by decide),fun p0 h=>⟨p0,by omega,expr_flwN (al_flw (K:=1) (nm:=⟨#[120]⟩) (by decide) (by decide +kernel)) (for_bad (bad_var (by decide) rfl) (by omega) (by decide) N0_le)⟩⟩
theorem odd6_for (p0:Nat) (h:p0<=500):∃ X,RunE (flwP 1 ⟨#[120]⟩ (litN 1) (litN 2)) N0 p0 (p0 + 3) X :=
 ⟨_,expr_for (alone_forP (nm:=⟨#[120]⟩) (n:=1) (ph:=litN 2) (by decide) (by decide +kernel)) (flwor_for (lit_1 1 N0 p0 (by omega) (by decide +kernel)) (lit_1 2 (inN N0 ⟨#[120]⟩) (p0 + 1) (by omega) (by decide +kernel)) (by omega) (by omega) (by decide) N0_le)⟩
theorem odd6:IsSg [⟨5,⟨#[40]⟩,0⟩,⟨1,⟨#[102,111,114]⟩,0⟩,⟨4,⟨#[120]⟩,0⟩,⟨1,⟨#[105,110]⟩,0⟩,⟨2,⟨#[]⟩,1⟩,⟨1,⟨#[114,101,116,117,114,110]⟩,0⟩,⟨2,⟨#[]⟩,2⟩,⟨5,⟨#[44]⟩,0⟩,⟨4,⟨#[120]⟩,0⟩,⟨5,⟨#[41]⟩,0⟩] (phN 3 ⟨0,0,⟨#[]⟩⟩ ⟨#[]⟩ 0 0 0 ⟨#[]⟩ 2 (phC (flwP 1 ⟨#[120]⟩ (litN 1) (litN 2)) [(mCo,[⟨4,⟨#[120]⟩,0⟩],(ph0 2 ⟨0,0,⟨#[]⟩⟩ ⟨#[120]⟩ 0 0 0 ⟨#[]⟩))])) 12/\OddR (phN 3 ⟨0,0,⟨#[]⟩⟩ ⟨#[]⟩ 0 0 0 ⟨#[]⟩ 2 (phC (flwP 1 ⟨#[120]⟩ (litN 1) (litN 2)) [(mCo,[⟨4,⟨#[120]⟩,0⟩],(ph0 2 ⟨0,0,⟨#[]⟩⟩ ⟨#[120]⟩ 0 0 0 ⟨#[]⟩))])):=by
 refine ⟨?_,fun p0 h=>?_⟩
 · have h1:=sg_forinE (s:=⟨#[120]⟩) (X:=[⟨2,⟨#[]⟩,1⟩]) (Y:=[⟨2,⟨#[]⟩,2⟩]) (by decide) (sg_prim0 (prim_num 1)) (sg_prim0 (prim_num 2))
   have h2:Sgs 3 [(mCo,[⟨4,⟨#[120]⟩,0⟩],(ph0 2 ⟨0,0,⟨#[]⟩⟩ ⟨#[120]⟩ 0 0 0 ⟨#[]⟩))]:=fun e he=>by rw [List.mem_singleton.1 he];exact ⟨rfl,(sg_prim0 (prim_dol (s:=⟨#[120]⟩) (by decide))).more (by decide)⟩
   have h3:=ls_sgsE h1 h2 (by simp)
   exact (sg_prim0 (prim_par h3)).more (by decide)
 · obtain ⟨X,hX⟩:=odd6_for p0 h
   exact ⟨p0 + 4,by omega,expr_seqN al_seq (parts_seq_bad (n:=2) (j0:=1) (A:=phC (flwP 1 ⟨#[120]⟩ (litN 1) (litN 2)) [(mCo,[⟨4,⟨#[120]⟩,0⟩],(ph0 2 ⟨0,0,⟨#[]⟩⟩ ⟨#[120]⟩ 0 0 0 ⟨#[]⟩))]) (X:=fun _=>X) (P:=fun k=>if k=0 then p0 else p0 + 3) (by decide) (by decide) (fun k _=>by split <;> omega) (by omega) (fun k hk=>by
    obtain rfl:k=0:=by omega
    exact hX) (bad_var (p:=p0 + 3) (by decide) rfl))⟩
theorem odd7:IsSg [⟨1,⟨#[108,101,116]⟩,0⟩,⟨4,⟨#[120]⟩,0⟩,⟨5,⟨#[58,61]⟩,0⟩,⟨2,⟨#[]⟩,1⟩,⟨1,⟨#[114,101,116,117,114,110]⟩,0⟩,⟨4,⟨#[121]⟩,0⟩] (flwP 2 ⟨#[120]⟩ (litN 1) (ph0 2 ⟨0,0,⟨#[]⟩⟩ ⟨#[121]⟩ 0 0 0 ⟨#[]⟩)) 12/\OddR (flwP 2 ⟨#[120]⟩ (litN 1) (ph0 2 ⟨0,0,⟨#[]⟩⟩ ⟨#[121]⟩ 0 0 0 ⟨#[]⟩)):=⟨(sg_letE (s:=⟨#[120]⟩) (X:=[⟨2,⟨#[]⟩,1⟩]) (Y:=[⟨4,⟨#[121]⟩,0⟩]) (by decide) (sg_prim0 (prim_num 1)) (sg_prim0 (prim_dol (s:=⟨#[121]⟩) (by decide)))).more (by decide),fun p0 h=>⟨p0 + 1,by omega,expr_flwN (al_flw (K:=2) (nm:=⟨#[120]⟩) (by decide) (by decide +kernel)) (let_bad (lit_1 1 N0 p0 (by omega) (by decide +kernel)) (bad_var (by decide) (by decide +kernel)) (by omega) (by decide) N0_le)⟩⟩
theorem odd8:IsSg [⟨1,⟨#[115,111,109,101]⟩,0⟩,⟨4,⟨#[120]⟩,0⟩,⟨1,⟨#[105,110]⟩,0⟩,⟨2,⟨#[]⟩,1⟩,⟨1,⟨#[115,97,116,105,115,102,105,101,115]⟩,0⟩,⟨4,⟨#[121]⟩,0⟩] (phN 23 ⟨0,0,⟨#[]⟩⟩ ⟨#[120]⟩ 0 0 0 ⟨#[]⟩ 2 (fun i=>if i=0 then litN 1 else (ph0 2 ⟨0,0,⟨#[]⟩⟩ ⟨#[121]⟩ 0 0 0 ⟨#[]⟩))) 12/\OddR (phN 23 ⟨0,0,⟨#[]⟩⟩ ⟨#[120]⟩ 0 0 0 ⟨#[]⟩ 2 (fun i=>if i=0 then litN 1 else (ph0 2 ⟨0,0,⟨#[]⟩⟩ ⟨#[121]⟩ 0 0 0 ⟨#[]⟩))):=⟨(sg_someE (s:=⟨#[120]⟩) (X:=[⟨2,⟨#[]⟩,1⟩]) (Y:=[⟨4,⟨#[121]⟩,0⟩]) (by decide) (sg_prim0 (prim_num 1)) (sg_prim0 (prim_dol (s:=⟨#[121]⟩) (by decide)))).more (by decide),fun p0 h=>⟨p0 + 1 + 6,by omega,expr_someN (al_some (by decide) (by decide +kernel)) (some_bad (A:=fun i=>if i=0 then litN 1 else (ph0 2 ⟨0,0,⟨#[]⟩⟩ ⟨#[121]⟩ 0 0 0 ⟨#[]⟩)) rfl rfl (lit_1 1 N0 p0 (by omega) (by decide +kernel)) (bad_var (by decide) (by decide +kernel)) (by omega) (by decide) N0_le)⟩⟩
def oddB:List (List UInt8):=[[36,122],[46],[112,111,115,105,116,105,111,110,40,41],[108,97,115,116,40,41],[97],[102,111,114,32,36,120,32,105,110,32,36,120,32,114,101,116,117,114,110,32,49],[40,102,111,114,32,36,120,32,105,110,32,49,32,114,101,116,117,114,110,32,50,44,32,36,120,41],[108,101,116,32,36,120,32,58,61,32,49,32,114,101,116,117,114,110,32,36,121],[115,111,109,101,32,36,120,32,105,110,32,49,32,115,97,116,105,115,102,105,101,115,32,36,121]]
theorem odd_all {i:Nat} (hi:i<9):∃ K p,PcK ([44,32] ++ (oddB.getD i [] ++ [41])) (mCo :: (K ++ [mCl]))/\IsSg K p 12/\OddR p:=by
 have h:i=0\/i=1\/i=2\/i=3\/i=4\/i=5\/i=6\/i=7\/i=8:=by omega
 rcases h with rfl | rfl | rfl | rfl | rfl | rfl | rfl | rfl | rfl
 · exact ⟨[⟨4,⟨#[122]⟩,0⟩],_,pkO0,odd0.1,odd0.2⟩
 · exact ⟨[⟨5,⟨#[46]⟩,0⟩],_,pkO1,odd1.1,odd1.2⟩
 · exact ⟨[⟨1,⟨#[112,111,115,105,116,105,111,110]⟩,0⟩,⟨5,⟨#[40]⟩,0⟩,⟨5,⟨#[41]⟩,0⟩],_,pkO2,odd2.1,odd2.2⟩
 · exact ⟨[⟨1,⟨#[108,97,115,116]⟩,0⟩,⟨5,⟨#[40]⟩,0⟩,⟨5,⟨#[41]⟩,0⟩],_,pkO3,odd3.1,odd3.2⟩
 · exact ⟨[⟨1,⟨#[97]⟩,0⟩],_,pkO4,odd4.1,odd4.2⟩
 · exact ⟨[⟨1,⟨#[102,111,114]⟩,0⟩,⟨4,⟨#[120]⟩,0⟩,⟨1,⟨#[105,110]⟩,0⟩,⟨4,⟨#[120]⟩,0⟩,⟨1,⟨#[114,101,116,117,114,110]⟩,0⟩,⟨2,⟨#[]⟩,1⟩],_,pkO5,odd5.1,odd5.2⟩
 · exact ⟨[⟨5,⟨#[40]⟩,0⟩,⟨1,⟨#[102,111,114]⟩,0⟩,⟨4,⟨#[120]⟩,0⟩,⟨1,⟨#[105,110]⟩,0⟩,⟨2,⟨#[]⟩,1⟩,⟨1,⟨#[114,101,116,117,114,110]⟩,0⟩,⟨2,⟨#[]⟩,2⟩,⟨5,⟨#[44]⟩,0⟩,⟨4,⟨#[120]⟩,0⟩,⟨5,⟨#[41]⟩,0⟩],_,pkO6,odd6.1,odd6.2⟩
 · exact ⟨[⟨1,⟨#[108,101,116]⟩,0⟩,⟨4,⟨#[120]⟩,0⟩,⟨5,⟨#[58,61]⟩,0⟩,⟨2,⟨#[]⟩,1⟩,⟨1,⟨#[114,101,116,117,114,110]⟩,0⟩,⟨4,⟨#[121]⟩,0⟩],_,pkO7,odd7.1,odd7.2⟩
 · exact ⟨[⟨1,⟨#[115,111,109,101]⟩,0⟩,⟨4,⟨#[120]⟩,0⟩,⟨1,⟨#[105,110]⟩,0⟩,⟨2,⟨#[]⟩,1⟩,⟨1,⟨#[115,97,116,105,115,102,105,101,115]⟩,0⟩,⟨4,⟨#[121]⟩,0⟩],_,pkO8,odd8.1,odd8.2⟩
open Go.RowKit Go.WideShapes
theorem odd_len {i:Nat} (hi:i<9):(oddB.getD i []).length<=30:=by
 have h:i=0\/i=1\/i=2\/i=3\/i=4\/i=5\/i=6\/i=7\/i=8:=by omega
 rcases h with rfl | rfl | rfl | rfl | rfl | rfl | rfl | rfl | rfl <;> decide
def oddCells:Array Value:=#[vS ⟨#[36,122]⟩,vS ⟨#[46]⟩,vS ⟨#[112,111,115,105,116,105,111,110,40,41]⟩,vS ⟨#[108,97,115,116,40,41]⟩,vS ⟨#[97]⟩,vS ⟨#[102,111,114,32,36,120,32,105,110,32,36,120,32,114,101,116,117,114,110,32,49]⟩,vS ⟨#[40,102,111,114,32,36,120,32,105,110,32,49,32,114,101,116,117,114,110,32,50,44,32,36,120,41]⟩,vS ⟨#[108,101,116,32,36,120,32,58,61,32,49,32,114,101,116,117,114,110,32,36,121]⟩,vS ⟨#[115,111,109,101,32,36,120,32,105,110,32,49,32,115,97,116,105,115,102,105,101,115,32,36,121]⟩]
theorem odd_cell {i:Nat} (hi:i<9):oddCells[i]?=some (vS ⟨(oddB.getD i []).toArray⟩):=by
 have h:i=0\/i=1\/i=2\/i=3\/i=4\/i=5\/i=6\/i=7\/i=8:=by omega
 rcases h with rfl | rfl | rfl | rfl | rfl | rfl | rfl | rfl | rfl <;> rfl
theorem cell_ofU {w:World} {b k:Nat} {cs:Array Value} {T:TypeId} {v:Value} (h:w.heap[b]?=some (.cells cs T)) (hk:cs[k]?=some v):w.cell? ⟨b,k,none⟩=some v:=by
 rw [Lib.cell_of_heap h]
 exact hk
theorem un_fact {s ox:ByteArray} {i:Nat} (h:Po .nod false 1 s) (hs:s.size<=110) (hi:i<9) (hox:ox=⟨(oddB.getD i []).toArray⟩):∃ T p q,ParT T p/\RunN 24 p N0 0 q/\cutT (⟨#[40]⟩ ++ s ++ ⟨#[44,32]⟩ ++ ox ++ ⟨#[41]⟩:ByteArray).data.toList=T/\cutP (⟨#[40]⟩ ++ s ++ ⟨#[44,32]⟩ ++ ox ++ ⟨#[41]⟩:ByteArray).data.toList=0/\cutE (⟨#[40]⟩ ++ s ++ ⟨#[44,32]⟩ ++ ox ++ ⟨#[41]⟩:ByteArray).data.toList=0:=by
 obtain ⟨Ks,pq,k0,ms,hmn,hlow,hk⟩:=(po_nod h).2.2.1 rfl rfl (by decide)
 obtain ⟨KO,po,hpk,hso,hodd⟩:=odd_all hi
 have hlen:=odd_len hi
 have hKs:Ks.length<=110:=Nat.le_trans ms.1.1 (by have e:s.data.toList.length=s.size:=rfl;omega)
 have hb:Beg ([44,32] ++ (oddB.getD i [] ++ [41])):=⟨44,_,rfl,by unfold Fol;decide⟩
 have m:MdK ([40] ++ (s.data.toList ++ ([44,32] ++ (oddB.getD i [] ++ [41])))) ([mOp] ++ (Ks ++ (mCo :: (KO ++ [mCl])))):=(pk10.app (ms.app hb hpk)).mid
 have hL:Sgs 12 [(mCo,KO,po)]:=fun e he=>by rw [List.mem_singleton.1 he];exact ⟨rfl,hso⟩
 have hg:=sg_prim0 (prim_par (ls_sgsE ((sg_min hmn).more (e:=12) (by omega)) hL (by simp)))
 have eK:[mOp] ++ (Ks ++ (mCo :: (KO ++ [mCl])))=(⟨5,⟨#[40]⟩,0⟩ :: ((Ks ++ jt [(mCo,KO,po)]) ++ [⟨5,⟨#[41]⟩,0⟩]):List Tok):=by simp [jt,mOp,mCl,mCo]
 rw [eK] at m
 obtain ⟨X,hX⟩:=hlow N0 0 N0_le (by omega)
 obtain ⟨q,hq,hbad⟩:=hodd (0 + k0) (by omega)
 have r:=par_of m (by simp only [List.length_append,List.length_cons,List.length_nil];have e:s.data.toList.length=s.size:=rfl;omega) hg (by omega)
 refine ⟨_,_,q + 1,r.1,expr_seqN al_seq (parts_seq_bad (n:=2) (j0:=1) (A:=phC pq [(mCo,KO,po)]) (X:=fun _=>X) (P:=fun k=>if k=0 then 0 else 0 + k0) (by decide) (by decide) (fun k _=>by split <;> omega) (by omega) (fun k hk=>by
  obtain rfl:k=0:=by omega
  exact hX) hbad),?_⟩
 have e:(⟨#[40]⟩ ++ s ++ ⟨#[44,32]⟩ ++ ox ++ ⟨#[41]⟩:ByteArray).data.toList=[40] ++ (s.data.toList ++ ([44,32] ++ (oddB.getD i [] ++ [41]))):=by
  rw [data_appQ,data_appQ,data_appQ,data_appQ,hox]
  simp
 rw [e]
 exact r.2
theorem lawLowerUnbound (v:Value) (n:Nat) (X:Nat->Rw) (i:Int) (w:World) (hi:-9223372036854775808<=i/\i<=9223372036854775807) (hr:RawsIs w v n X) (hf:RawsFine n X) (hot:Tab3 w) (hT:Tabs w) (hm:MaxL w) (hM:MarkTab w) (hg:0<w.heap.size) :
 Calls Tryz.prog 4 #[v,vI i] w fun e w'=>e=.returned (.bool true)/\Below w.heap.size w w':=by
 obtain ⟨k,hk,hk9⟩:∃ k:Nat,pk i 9=k/\k<9:=by
  have:=pk_range (n:=i) (many:=9) (by omega)
  exact ⟨(pk i 9).toNat,by omega,by omega⟩
 have CQ:Hid (Calls Tryz.prog 8 #[v] w fun e w'=>∃ s,(Po .nod false 1 s/\s.size<=110)/\e=.returned (vS s)/\Below w.heap.size w w'):=path_text v n X w hr hf
 have CK:Hid (∀ W,Calls Tryz.prog 9 #[vI i,vI 9] W fun e w'=>e=.returned (vI k)/\W=w'):=fun W=>(picked_is i 9 W hi (by omega) (by omega)).mono fun e w' ⟨k1,k2⟩=>⟨by rw [k1];exact ret_int hk,k2.symm⟩
 obtain ⟨ox,hox⟩:∃ z:ByteArray,z=⟨(oddB.getD k []).toArray⟩:=⟨_,rfl⟩
 have hoz:ox.size<=30:=by rw [hox];exact odd_len hk9
 have HCELL:Hid (oddCells[k]?=some (vS ox)):=hidC (by rw [hox];exact odd_cell hk9)
 have CC:Hid (∀ s,Po .nod false 1 s/\s.size<=110->∃ T p q,ParT T p/\RunN 24 p N0 0 q/\(∀ W,Below w.heap.size w W->Calls Tryz.prog 10 #[vS (⟨#[40]⟩ ++ s ++ ⟨#[44,32]⟩ ++ ox ++ ⟨#[41]⟩)] W fun e w'=>∃ b c,e=.returned (.tuple #[vL b 0 T.length c,vI 0,vI 0])/\Below W.heap.size W w'/\b<w'.heap.size/\ToksL w' b T)):=fun s hs=>by
  obtain ⟨T,p,q,hT1,hb,d1,d2,d3⟩:=un_fact hs.1 hs.2 hk9 hox
  refine ⟨T,p,q,hT1,hb,fun W hW=>?_⟩
  have hz:(⟨#[40]⟩ ++ s ++ ⟨#[44,32]⟩ ++ ox ++ ⟨#[41]⟩:ByteArray).size<=maxLen:=by
   have h1:=hs.2
   have e1:(⟨#[40]⟩:ByteArray).size=1:=rfl
   have e2:(⟨#[44,32]⟩:ByteArray).size=2:=rfl
   have e3:(⟨#[41]⟩:ByteArray).size=1:=rfl
   rw [ByteArray.size_append,ByteArray.size_append,ByteArray.size_append,ByteArray.size_append]
   unfold maxLen
   omega
  have h:=cut_is (⟨#[40]⟩ ++ s ++ ⟨#[44,32]⟩ ++ ox ++ ⟨#[41]⟩) W hz (Utf8Tabs_below hT hW) (hm.below hW) (hM.below hW hg) (Nat.lt_of_lt_of_le hg hW.size)
  rw [d1,d2,d3] at h
  refine h.mono fun e w' ⟨v,k1,k2,k3⟩=>?_
  obtain ⟨b,c,rfl,hbl,htl⟩:=k2.lies hT1.pos
  exact ⟨b,c,k1,k3,hbl,htl⟩
 have CP:Hid (∀ W b c T p,ParT T p->Below w.heap.size w W->b<W.heap.size->ToksL W b T->Calls Tryz.prog 11 #[vL b 0 T.length c] W fun e w'=>∃ v,Tre w' W.heap.size p v/\e=.returned (.tuple #[.agg v.toArray,vI 0,vI 0])/\Below W.heap.size W w'):=fun W b c T p hT1 hW hb ht =>
  parse_good T p 0 b c hT1.len hT1.good hT1.run W hb ht (hot.below hW) (Utf8Tabs_below hT hW) (hM.below hW hg) (Nat.lt_of_lt_of_le hg hW.size)
 have CL:Hid (∀ W p q v lo,RunN 24 p N0 0 q->Tre W lo p v->Below w.heap.size w W->Calls Tryz.prog 12 #[.agg v.toArray] W fun e w'=>e=.returned (.tuple #[noEx,vI 6])/\Below W.heap.size W w'):=fun W p q v lo hb hv hW =>
  lower_badN p v W (Ph.V.keep (fun b q=>q.2) (fun _ _=>rfl) hv) (Utf8Tabs_below hT hW) 6 rfl hb
 unfold noEx at CL
 clear hr hf hot hT hm hM hg hox
 go_enter Tryz.func4,Tryz.ntmps4
 go_upto_region 3 with (go_at_call 8;refine CQ.out.mono ?_;rintro e w1 ⟨s,hs,rfl,hb1⟩;obtain ⟨T,p,q,hT1,hN1,hC1⟩:=CC.out s hs;have HPT:Hid (ParT T p):=hT1;have HPN:=HidOf hN1;have HCT:=HidOf hC1;have HB1:Hid (Below w.heap.size w w1):=hb1;have hsz:=hs.2;clear hs hb1 hT1 hN1 hC1 CQ CC;have hq1:¬ 9223372036854775807<1 + s.size:=(by omega);have hq2:¬ 9223372036854775807<1 + s.size + 2:=(by omega);have hq3:¬ 9223372036854775807<1 + s.size + 2 + ox.size:=(by omega);have hq4:¬ 9223372036854775807<1 + s.size + 2 + ox.size + 1:=(by omega))
 obtain ⟨W2,hW2⟩:∃ V,V=w1.alloc (.cells oddCells 9):=⟨_,rfl⟩
 obtain ⟨t2,ht2⟩:∃ t,t=w1.heap.size:=⟨_,rfl⟩
 have HB2:Hid (Below w.heap.size w W2):=hidC (by rw [hW2];exact HB1.out.alloc HB1.out.size _)
 have hc2:W2.cell? ⟨t2,k,none⟩=some (vS ox):=by rw [hW2,ht2];exact cell_ofU (heap_alloc_new _ _) HCELL.out
 unfold oddCells at hW2
 rw [<- hW2,<- ht2]
 clear hW2 ht2
 go_upto_region 4 with (go_at_call 9;refine (CK.out _).mono ?_;rintro e w2 ⟨rfl,hw2⟩;obtain rfl:=hw2)
 go_upto_region 5 with (go_at_call 10;refine (HCT.out _ HB2.out).mono ?_;rintro e w3 ⟨b,c,rfl,hb3,hbl,htl⟩;have HB3:Hid (Below w.heap.size w w3):=HB2.out.trans (hb3.mono HB2.out.size);have HBL:=HidOf hbl;have HTL:=HidOf htl;clear hb3 hbl htl)
 go_upto_region 6 with (go_at_call 11;refine (CP.out _ _ _ _ _ HPT.out HB3.out HBL.out HTL.out).mono ?_;rintro e w4 ⟨v4,hv4,rfl,hb4⟩;obtain ⟨k0,k1,k2,k5,k6,k7,s3,s4,s8,a9,a10,l9,c9,l10,c10,rfl⟩:=hv4.form;have HB4:Hid (Below w.heap.size w w4):=HB3.out.trans (hb4.mono HB3.out.size);have HV4:=HidOf hv4;clear hv4 hb4)
 obtain ⟨W5,hW5⟩:∃ V,V=w4.alloc (.cells (pA k0 k1 k2 s3 s4 k5 k6 k7 s8 a9 l9 c9 a10 l10 c10) 44):=⟨_,rfl⟩
 have HB5:Hid (Below w.heap.size w W5):=hidC (by rw [hW5];exact HB4.out.alloc HB4.out.size _)
 have HV5:=hidC (show Tre W5 w3.heap.size p (pL k0 k1 k2 s3 s4 k5 k6 k7 s8 a9 l9 c9 a10 l10 c10) by rw [hW5];exact HV4.out.allocI _)
 have HP5:Hid (W5.heap[w4.heap.size]?=some (.cells (pA k0 k1 k2 s3 s4 k5 k6 k7 s8 a9 l9 c9 a10 l10 c10) 44)):=hidC (by rw [hW5];exact heap_alloc_new _ _)
 rw [<- hW5]
 clear hW5
 obtain ⟨p0,p1,p2,p3,p4,p5,p6,p7,p8,p9,p10,_,_⟩:=bk11 HP5.out
 go_upto_region 7 with (go_at_call 12;refine (CL.out W5 p q (pL k0 k1 k2 s3 s4 k5 k6 k7 s8 a9 l9 c9 a10 l10 c10) _ HPN.out HV5.out HB5.out).mono ?_;rintro e w6 ⟨rfl,hb6⟩;have HB6:Hid (Below w.heap.size w w6):=HB5.out.trans (hb6.mono HB5.out.size);clear hb6)
 have HB7:Hid (Below w.heap.size w (w6.alloc (.cells zA 29))):=HB6.out.alloc HB6.out.size _
 go_wp2
 go_ret
 exact ⟨rfl,HB7.out⟩
end Go.Proofs.YtmcmbdkpfcibkaaGreatDoor
