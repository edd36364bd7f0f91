import Derived.Test.YtmcmbdkpfcibkaaGreatDoorPoOk
import Derived.Lib.ItoaNum
set_option linter.unusedVariables false
namespace Go.Proofs.YtmcmbdkpfcibkaaGreatDoor
set_option maxRecDepth 100000
open Go.RowKit
def eatT:Nat->Nat->List UInt8->Option (List Tok)
 | _,0,_=>some []
 | 0,_ + 1,_=>none
 | f + 1,k + 1,Y=>if bk (bAt Y 0)=true then eatT f k (Y.drop 1) else if (tk Y).1=0 then (if (tk Y).2.2<=k + 1 then (eatT f (k + 1 - (tk Y).2.2) (Y.drop (tk Y).2.2)).map (fun K=>(tk Y).2.1 :: K) else none) else none
theorem eatT_cut {l:List UInt8}:∀ (f k:Nat) (Y:List UInt8) (K L:List Tok) (a:Nat),CutTo l L a->l.drop a=Y->a + k<=l.length->eatT f k Y=some K->L.length + K.length<=200->CutTo l (L ++ K) (a + k)
 | f,0,Y,K,L,a,h,hd,hk,he,hm=>by
  have e:K=[]:=by cases f <;> (simp [eatT] at he;exact he)
  rw [e,List.append_nil];exact h
 | 0,k + 1,Y,K,L,a,h,hd,hk,he,hm=>by simp [eatT] at he
 | f + 1,k + 1,Y,K,L,a,h,hd,hk,he,hm=>by
  have ha:a<l.length:=by omega
  have hb0:bAt Y 0=bAt l a:=by rw [<- hd,bAt_drop];rfl
  rw [eatT] at he
  by_cases c1:bk (bAt Y 0)=true
  · rw [if_pos c1] at he
    have h1:1<=bl (l.drop a):=by
     rw [hd]
     cases Y with
     | nil =>
      have:=congrArg List.length hd
      rw [List.length_drop] at this
      simp at this
      omega
     | cons c r=>rw [bAt_zero] at c1;unfold bl;rw [if_pos c1];omega
    have h2:=h.blanks h1
    rw [show a + (k + 1)=a + 1 + k by omega]
    exact eatT_cut f k (Y.drop 1) K L (a + 1) h2 (by rw [<- hd,List.drop_drop]) (by omega) he hm
  · rw [if_neg c1] at he
    by_cases c2:(tk Y).1=0
    · rw [if_pos c2] at he
      by_cases c3:(tk Y).2.2<=k + 1
      · rw [if_pos c3] at he
        cases hr:eatT f (k + 1 - (tk Y).2.2) (Y.drop (tk Y).2.2) with
        | none=>rw [hr] at he;simp at he
        | some K' =>
         rw [hr] at he
         simp only [Option.map_some,Option.some.injEq] at he
         subst he
         rw [List.length_cons] at hm
         have c1':bk (bAt l a)=false:=by rw [<- hb0];simpa using c1
         have ht:(tk (l.drop a)).1=0:=by rw [hd];exact c2
         have h2:=h.tok ha c1' (by omega) ht
         rw [hd] at h2
         have h3:=eatT_cut f _ (Y.drop (tk Y).2.2) K' _ _ h2 (by rw [<- hd,List.drop_drop,hd]) (by omega) hr (by rw [List.length_append];simp only [List.length_singleton];omega)
         rw [List.append_assoc] at h3
         rw [show a + (k + 1)=a + (tk Y).2.2 + (k + 1 - (tk Y).2.2) by omega]
         exact h3
      · rw [if_neg c3] at he;cases he
    · rw [if_neg c2] at he;cases he
def Cuts (X Y:List UInt8) (K:List Tok):Prop:=∀ (l:List UInt8) (L:List Tok) (a:Nat),CutTo l L a->l.drop a=X ++ Y->L.length + K.length<=200->CutTo l (L ++ K) (a + X.length)
theorem Cuts.of {X Y:List UInt8} {K:List Tok} (f:Nat) (h:eatT f X.length (X ++ Y)=some K):Cuts X Y K:=fun l L a hc hd hm=>by
 have hl:=congrArg List.length hd
 rw [List.length_drop,List.length_append] at hl
 rcases Nat.eq_zero_or_pos X.length with e | e
 · rw [e] at h ⊢
   have e0:K=[]:=by cases f <;> (simp [eatT] at h;exact h)
   rw [e0,List.append_nil];exact hc
 · exact eatT_cut f _ _ K L a hc hd (by omega) h hm
theorem Cuts.append {X Z Y:List UInt8} {K M:List Tok} (h1:Cuts X (Z ++ Y) K) (h2:Cuts Z Y M):Cuts (X ++ Z) Y (K ++ M):=by
 intro l L a hc hd hm
 rw [List.length_append] at hm
 have i1:=h1 l L a hc (by rw [hd];simp) (by omega)
 have hd2:l.drop (a + X.length)=Z ++ Y:=by rw [<- List.drop_drop,hd,List.append_assoc,List.drop_left]
 have i2:=h2 l _ (a + X.length) i1 hd2 (by rw [List.length_append];omega)
 rw [List.append_assoc] at i2
 rw [List.length_append,<- Nat.add_assoc]
 exact i2
def FolR (R:List UInt8):Prop:=R=[]\/∃ c S,R=c :: S/\Fol c
def Szk (X:List UInt8) (K:List Tok):Prop:=K.length<=X.length/\∀ t∈K,t.s.size<=100
instance (X:List UInt8) (K:List Tok):Decidable (Szk X K):=by unfold Szk;infer_instance
theorem Szk.app {X Y:List UInt8} {K M:List Tok} (h:Szk X K) (h':Szk Y M):Szk (X ++ Y) (K ++ M):=⟨by have:=h.1;have:=h'.1;rw [List.length_append,List.length_append];omega,fun t ht=>(List.mem_append.1 ht).elim (h.2 t) (h'.2 t)⟩
def PcK (X:List UInt8) (K:List Tok):Prop:=Szk X K/\∀ R,Cuts X R K
def MdK (X:List UInt8) (K:List Tok):Prop:=Szk X K/\∀ R,FolR R->Cuts X R K
theorem PcK.mid {X:List UInt8} {K:List Tok} (h:PcK X K):MdK X K:=⟨h.1,fun R _=>h.2 R⟩
theorem PcK.app {X Y:List UInt8} {K M:List Tok} (h:PcK X K) (h':PcK Y M):PcK (X ++ Y) (K ++ M):=⟨h.1.app h'.1,fun R=>(h.2 (Y ++ R)).append (h'.2 R)⟩
theorem PcK.on {X Y:List UInt8} {K M:List Tok} (h:PcK X K) (h':MdK Y M):MdK (X ++ Y) (K ++ M):=⟨h.1.app h'.1,fun R hR=>(h.2 (Y ++ R)).append (h'.2 R hR)⟩
theorem MdK.app {X Y:List UInt8} {K M:List Tok} (h:MdK X K) (hb:Beg Y) (h':PcK Y M):PcK (X ++ Y) (K ++ M):=⟨h.1.app h'.1,fun R=>by
 obtain ⟨c,S,rfl,hc⟩:=hb
 exact (h.2 (c :: S ++ R) (.inr ⟨c,S ++ R,rfl,hc⟩)).append (h'.2 R)⟩
theorem MdK.on {X Y:List UInt8} {K M:List Tok} (h:MdK X K) (hb:Beg Y) (h':MdK Y M):MdK (X ++ Y) (K ++ M):=⟨h.1.app h'.1,fun R hR=>by
 obtain ⟨d,S,rfl,hd⟩:=hb
 exact (h.2 (d :: S ++ R) (.inr ⟨d,S ++ R,rfl,hd⟩)).append (h'.2 R hR)⟩
theorem pk10:PcK [40] [⟨5,⟨#[40]⟩,0⟩]:=⟨by decide +kernel,fun R=>Cuts.of 60 (by kernel_rfl)⟩
theorem pk55:PcK [41,91] [⟨5,⟨#[41]⟩,0⟩,⟨5,⟨#[91]⟩,0⟩]:=⟨by decide +kernel,fun R=>Cuts.of 60 (by kernel_rfl)⟩
theorem bg55:Beg [41,91]:=⟨41,_,rfl,by unfold Fol;decide⟩
theorem pk56:PcK [93] [⟨5,⟨#[93]⟩,0⟩]:=⟨by decide +kernel,fun R=>Cuts.of 60 (by kernel_rfl)⟩
theorem bg56:Beg [93]:=⟨93,_,rfl,by unfold Fol;decide⟩
theorem pk57:PcK [32,117,110,105,111,110,32,47,47,42,41] [⟨1,⟨#[117,110,105,111,110]⟩,0⟩,⟨5,⟨#[47,47]⟩,0⟩,⟨5,⟨#[42]⟩,0⟩,⟨5,⟨#[41]⟩,0⟩]:=⟨by decide +kernel,fun R=>Cuts.of 60 (by kernel_rfl)⟩
theorem bg57:Beg [32,117,110,105,111,110,32,47,47,42,41]:=⟨32,_,rfl,by unfold Fol;decide⟩
theorem pk58:PcK [32,105,110,116,101,114,115,101,99,116,32,47,47,42,41] [⟨1,⟨#[105,110,116,101,114,115,101,99,116]⟩,0⟩,⟨5,⟨#[47,47]⟩,0⟩,⟨5,⟨#[42]⟩,0⟩,⟨5,⟨#[41]⟩,0⟩]:=⟨by decide +kernel,fun R=>Cuts.of 60 (by kernel_rfl)⟩
theorem bg58:Beg [32,105,110,116,101,114,115,101,99,116,32,47,47,42,41]:=⟨32,_,rfl,by unfold Fol;decide⟩
theorem pk59:PcK [32,101,120,99,101,112,116,32,47,47,42,41] [⟨1,⟨#[101,120,99,101,112,116]⟩,0⟩,⟨5,⟨#[47,47]⟩,0⟩,⟨5,⟨#[42]⟩,0⟩,⟨5,⟨#[41]⟩,0⟩]:=⟨by decide +kernel,fun R=>Cuts.of 60 (by kernel_rfl)⟩
theorem bg59:Beg [32,101,120,99,101,112,116,32,47,47,42,41]:=⟨32,_,rfl,by unfold Fol;decide⟩
def baseK:List (List Tok):=[[⟨5,⟨#[47]⟩,0⟩,⟨1,⟨#[114]⟩,0⟩],[⟨5,⟨#[47,47]⟩,0⟩,⟨1,⟨#[97]⟩,0⟩],[⟨5,⟨#[47,47]⟩,0⟩,⟨5,⟨#[42]⟩,0⟩],[⟨5,⟨#[47]⟩,0⟩,⟨1,⟨#[114]⟩,0⟩,⟨5,⟨#[47]⟩,0⟩,⟨5,⟨#[42]⟩,0⟩],[⟨5,⟨#[47,47]⟩,0⟩,⟨5,⟨#[64]⟩,0⟩,⟨1,⟨#[107]⟩,0⟩],[⟨5,⟨#[47,47]⟩,0⟩,⟨1,⟨#[116,101,120,116]⟩,0⟩,⟨5,⟨#[40]⟩,0⟩,⟨5,⟨#[41]⟩,0⟩]]
theorem md_base0:MdK [47,114] [⟨5,⟨#[47]⟩,0⟩,⟨1,⟨#[114]⟩,0⟩]:=⟨by decide +kernel,fun R hR=>by
 rcases hR with rfl | ⟨c,S,rfl,rfl | rfl | rfl | rfl | rfl⟩ <;> exact Cuts.of 60 (by kernel_rfl)⟩
theorem md_base1:MdK [47,47,97] [⟨5,⟨#[47,47]⟩,0⟩,⟨1,⟨#[97]⟩,0⟩]:=⟨by decide +kernel,fun R hR=>by
 rcases hR with rfl | ⟨c,S,rfl,rfl | rfl | rfl | rfl | rfl⟩ <;> exact Cuts.of 60 (by kernel_rfl)⟩
theorem md_base2:MdK [47,47,42] [⟨5,⟨#[47,47]⟩,0⟩,⟨5,⟨#[42]⟩,0⟩]:=⟨by decide +kernel,fun R hR=>by
 rcases hR with rfl | ⟨c,S,rfl,rfl | rfl | rfl | rfl | rfl⟩ <;> exact Cuts.of 60 (by kernel_rfl)⟩
theorem md_base3:MdK [47,114,47,42] [⟨5,⟨#[47]⟩,0⟩,⟨1,⟨#[114]⟩,0⟩,⟨5,⟨#[47]⟩,0⟩,⟨5,⟨#[42]⟩,0⟩]:=⟨by decide +kernel,fun R hR=>by
 rcases hR with rfl | ⟨c,S,rfl,rfl | rfl | rfl | rfl | rfl⟩ <;> exact Cuts.of 60 (by kernel_rfl)⟩
theorem md_base4:MdK [47,47,64,107] [⟨5,⟨#[47,47]⟩,0⟩,⟨5,⟨#[64]⟩,0⟩,⟨1,⟨#[107]⟩,0⟩]:=⟨by decide +kernel,fun R hR=>by
 rcases hR with rfl | ⟨c,S,rfl,rfl | rfl | rfl | rfl | rfl⟩ <;> exact Cuts.of 60 (by kernel_rfl)⟩
theorem md_base5:MdK [47,47,116,101,120,116,40,41] [⟨5,⟨#[47,47]⟩,0⟩,⟨1,⟨#[116,101,120,116]⟩,0⟩,⟨5,⟨#[40]⟩,0⟩,⟨5,⟨#[41]⟩,0⟩]:=⟨by decide +kernel,fun R hR=>by
 rcases hR with rfl | ⟨c,S,rfl,rfl | rfl | rfl | rfl | rfl⟩ <;> exact Cuts.of 60 (by kernel_rfl)⟩
theorem md_base {i:Nat} (hi:i<6):MdK (baseL.getD i []) (baseK.getD i []):=by
 have h:i=0\/i=1\/i=2\/i=3\/i=4\/i=5:=by omega
 rcases h with rfl | rfl | rfl | rfl | rfl | rfl
 · exact md_base0
 · exact md_base1
 · exact md_base2
 · exact md_base3
 · exact md_base4
 · exact md_base5
def stepK:List (List Tok):=[[⟨1,⟨#[97]⟩,0⟩],[⟨1,⟨#[98]⟩,0⟩],[⟨5,⟨#[42]⟩,0⟩],[⟨5,⟨#[64]⟩,0⟩,⟨1,⟨#[107]⟩,0⟩],[⟨5,⟨#[64]⟩,0⟩,⟨1,⟨#[109]⟩,0⟩],[⟨5,⟨#[46,46]⟩,0⟩],[⟨1,⟨#[116,101,120,116]⟩,0⟩,⟨5,⟨#[40]⟩,0⟩,⟨5,⟨#[41]⟩,0⟩],[⟨1,⟨#[110,111,100,101]⟩,0⟩,⟨5,⟨#[40]⟩,0⟩,⟨5,⟨#[41]⟩,0⟩],[⟨1,⟨#[100,101,115,99,101,110,100,97,110,116]⟩,0⟩,⟨5,⟨#[58,58]⟩,0⟩,⟨1,⟨#[97]⟩,0⟩],[⟨1,⟨#[97,110,99,101,115,116,111,114]⟩,0⟩,⟨5,⟨#[58,58]⟩,0⟩,⟨5,⟨#[42]⟩,0⟩],[⟨1,⟨#[102,111,108,108,111,119,105,110,103]⟩,0⟩,⟨5,⟨#[58,58]⟩,0⟩,⟨1,⟨#[98]⟩,0⟩],[⟨1,⟨#[112,114,101,99,101,100,105,110,103]⟩,0⟩,⟨5,⟨#[58,58]⟩,0⟩,⟨5,⟨#[42]⟩,0⟩],[⟨1,⟨#[102,111,108,108,111,119,105,110,103,45,115,105,98,108,105,110,103]⟩,0⟩,⟨5,⟨#[58,58]⟩,0⟩,⟨5,⟨#[42]⟩,0⟩],[⟨1,⟨#[112,114,101,99,101,100,105,110,103,45,115,105,98,108,105,110,103]⟩,0⟩,⟨5,⟨#[58,58]⟩,0⟩,⟨1,⟨#[110,111,100,101]⟩,0⟩,⟨5,⟨#[40]⟩,0⟩,⟨5,⟨#[41]⟩,0⟩],[⟨1,⟨#[115,101,108,102]⟩,0⟩,⟨5,⟨#[58,58]⟩,0⟩,⟨1,⟨#[99]⟩,0⟩],[⟨1,⟨#[100,101,115,99,101,110,100,97,110,116,45,111,114,45,115,101,108,102]⟩,0⟩,⟨5,⟨#[58,58]⟩,0⟩,⟨1,⟨#[110,111,100,101]⟩,0⟩,⟨5,⟨#[40]⟩,0⟩,⟨5,⟨#[41]⟩,0⟩],[⟨1,⟨#[99,111,109,109,101,110,116]⟩,0⟩,⟨5,⟨#[40]⟩,0⟩,⟨5,⟨#[41]⟩,0⟩],[⟨1,⟨#[99]⟩,0⟩]]
theorem md_step0:MdK [97] [⟨1,⟨#[97]⟩,0⟩]:=⟨by decide +kernel,fun R hR=>by
 rcases hR with rfl | ⟨c,S,rfl,rfl | rfl | rfl | rfl | rfl⟩ <;> exact Cuts.of 60 (by kernel_rfl)⟩
theorem md_step1:MdK [98] [⟨1,⟨#[98]⟩,0⟩]:=⟨by decide +kernel,fun R hR=>by
 rcases hR with rfl | ⟨c,S,rfl,rfl | rfl | rfl | rfl | rfl⟩ <;> exact Cuts.of 60 (by kernel_rfl)⟩
theorem md_step2:MdK [42] [⟨5,⟨#[42]⟩,0⟩]:=⟨by decide +kernel,fun R hR=>by
 rcases hR with rfl | ⟨c,S,rfl,rfl | rfl | rfl | rfl | rfl⟩ <;> exact Cuts.of 60 (by kernel_rfl)⟩
theorem md_step3:MdK [64,107] [⟨5,⟨#[64]⟩,0⟩,⟨1,⟨#[107]⟩,0⟩]:=⟨by decide +kernel,fun R hR=>by
 rcases hR with rfl | ⟨c,S,rfl,rfl | rfl | rfl | rfl | rfl⟩ <;> exact Cuts.of 60 (by kernel_rfl)⟩
theorem md_step4:MdK [64,109] [⟨5,⟨#[64]⟩,0⟩,⟨1,⟨#[109]⟩,0⟩]:=⟨by decide +kernel,fun R hR=>by
 rcases hR with rfl | ⟨c,S,rfl,rfl | rfl | rfl | rfl | rfl⟩ <;> exact Cuts.of 60 (by kernel_rfl)⟩
theorem md_step5:MdK [46,46] [⟨5,⟨#[46,46]⟩,0⟩]:=⟨by decide +kernel,fun R hR=>by
 rcases hR with rfl | ⟨c,S,rfl,rfl | rfl | rfl | rfl | rfl⟩ <;> exact Cuts.of 60 (by kernel_rfl)⟩
theorem md_step6:MdK [116,101,120,116,40,41] [⟨1,⟨#[116,101,120,116]⟩,0⟩,⟨5,⟨#[40]⟩,0⟩,⟨5,⟨#[41]⟩,0⟩]:=⟨by decide +kernel,fun R hR=>by
 rcases hR with rfl | ⟨c,S,rfl,rfl | rfl | rfl | rfl | rfl⟩ <;> exact Cuts.of 60 (by kernel_rfl)⟩
theorem md_step7:MdK [110,111,100,101,40,41] [⟨1,⟨#[110,111,100,101]⟩,0⟩,⟨5,⟨#[40]⟩,0⟩,⟨5,⟨#[41]⟩,0⟩]:=⟨by decide +kernel,fun R hR=>by
 rcases hR with rfl | ⟨c,S,rfl,rfl | rfl | rfl | rfl | rfl⟩ <;> exact Cuts.of 60 (by kernel_rfl)⟩
theorem md_step8:MdK [100,101,115,99,101,110,100,97,110,116,58,58,97] [⟨1,⟨#[100,101,115,99,101,110,100,97,110,116]⟩,0⟩,⟨5,⟨#[58,58]⟩,0⟩,⟨1,⟨#[97]⟩,0⟩]:=⟨by decide +kernel,fun R hR=>by
 rcases hR with rfl | ⟨c,S,rfl,rfl | rfl | rfl | rfl | rfl⟩ <;> exact Cuts.of 60 (by kernel_rfl)⟩
theorem md_step9:MdK [97,110,99,101,115,116,111,114,58,58,42] [⟨1,⟨#[97,110,99,101,115,116,111,114]⟩,0⟩,⟨5,⟨#[58,58]⟩,0⟩,⟨5,⟨#[42]⟩,0⟩]:=⟨by decide +kernel,fun R hR=>by
 rcases hR with rfl | ⟨c,S,rfl,rfl | rfl | rfl | rfl | rfl⟩ <;> exact Cuts.of 60 (by kernel_rfl)⟩
theorem md_step10:MdK [102,111,108,108,111,119,105,110,103,58,58,98] [⟨1,⟨#[102,111,108,108,111,119,105,110,103]⟩,0⟩,⟨5,⟨#[58,58]⟩,0⟩,⟨1,⟨#[98]⟩,0⟩]:=⟨by decide +kernel,fun R hR=>by
 rcases hR with rfl | ⟨c,S,rfl,rfl | rfl | rfl | rfl | rfl⟩ <;> exact Cuts.of 60 (by kernel_rfl)⟩
theorem md_step11:MdK [112,114,101,99,101,100,105,110,103,58,58,42] [⟨1,⟨#[112,114,101,99,101,100,105,110,103]⟩,0⟩,⟨5,⟨#[58,58]⟩,0⟩,⟨5,⟨#[42]⟩,0⟩]:=⟨by decide +kernel,fun R hR=>by
 rcases hR with rfl | ⟨c,S,rfl,rfl | rfl | rfl | rfl | rfl⟩ <;> exact Cuts.of 60 (by kernel_rfl)⟩
theorem md_step12:MdK [102,111,108,108,111,119,105,110,103,45,115,105,98,108,105,110,103,58,58,42] [⟨1,⟨#[102,111,108,108,111,119,105,110,103,45,115,105,98,108,105,110,103]⟩,0⟩,⟨5,⟨#[58,58]⟩,0⟩,⟨5,⟨#[42]⟩,0⟩]:=⟨by decide +kernel,fun R hR=>by
 rcases hR with rfl | ⟨c,S,rfl,rfl | rfl | rfl | rfl | rfl⟩ <;> exact Cuts.of 60 (by kernel_rfl)⟩
theorem md_step13:MdK [112,114,101,99,101,100,105,110,103,45,115,105,98,108,105,110,103,58,58,110,111,100,101,40,41] [⟨1,⟨#[112,114,101,99,101,100,105,110,103,45,115,105,98,108,105,110,103]⟩,0⟩,⟨5,⟨#[58,58]⟩,0⟩,⟨1,⟨#[110,111,100,101]⟩,0⟩,⟨5,⟨#[40]⟩,0⟩,⟨5,⟨#[41]⟩,0⟩]:=⟨by decide +kernel,fun R hR=>by
 rcases hR with rfl | ⟨c,S,rfl,rfl | rfl | rfl | rfl | rfl⟩ <;> exact Cuts.of 60 (by kernel_rfl)⟩
theorem md_step14:MdK [115,101,108,102,58,58,99] [⟨1,⟨#[115,101,108,102]⟩,0⟩,⟨5,⟨#[58,58]⟩,0⟩,⟨1,⟨#[99]⟩,0⟩]:=⟨by decide +kernel,fun R hR=>by
 rcases hR with rfl | ⟨c,S,rfl,rfl | rfl | rfl | rfl | rfl⟩ <;> exact Cuts.of 60 (by kernel_rfl)⟩
theorem md_step15:MdK [100,101,115,99,101,110,100,97,110,116,45,111,114,45,115,101,108,102,58,58,110,111,100,101,40,41] [⟨1,⟨#[100,101,115,99,101,110,100,97,110,116,45,111,114,45,115,101,108,102]⟩,0⟩,⟨5,⟨#[58,58]⟩,0⟩,⟨1,⟨#[110,111,100,101]⟩,0⟩,⟨5,⟨#[40]⟩,0⟩,⟨5,⟨#[41]⟩,0⟩]:=⟨by decide +kernel,fun R hR=>by
 rcases hR with rfl | ⟨c,S,rfl,rfl | rfl | rfl | rfl | rfl⟩ <;> exact Cuts.of 60 (by kernel_rfl)⟩
theorem md_step16:MdK [99,111,109,109,101,110,116,40,41] [⟨1,⟨#[99,111,109,109,101,110,116]⟩,0⟩,⟨5,⟨#[40]⟩,0⟩,⟨5,⟨#[41]⟩,0⟩]:=⟨by decide +kernel,fun R hR=>by
 rcases hR with rfl | ⟨c,S,rfl,rfl | rfl | rfl | rfl | rfl⟩ <;> exact Cuts.of 60 (by kernel_rfl)⟩
theorem md_step17:MdK [99] [⟨1,⟨#[99]⟩,0⟩]:=⟨by decide +kernel,fun R hR=>by
 rcases hR with rfl | ⟨c,S,rfl,rfl | rfl | rfl | rfl | rfl⟩ <;> exact Cuts.of 60 (by kernel_rfl)⟩
theorem md_step {i:Nat} (hi:i<18):MdK (stepL.getD i []) (stepK.getD i []):=by
 have h:i=0\/i=1\/i=2\/i=3\/i=4\/i=5\/i=6\/i=7\/i=8\/i=9\/i=10\/i=11\/i=12\/i=13\/i=14\/i=15\/i=16\/i=17:=by omega
 rcases h with rfl | rfl | rfl | rfl | rfl | rfl | rfl | rfl | rfl | rfl | rfl | rfl | rfl | rfl | rfl | rfl | rfl | rfl
 · exact md_step0
 · exact md_step1
 · exact md_step2
 · exact md_step3
 · exact md_step4
 · exact md_step5
 · exact md_step6
 · exact md_step7
 · exact md_step8
 · exact md_step9
 · exact md_step10
 · exact md_step11
 · exact md_step12
 · exact md_step13
 · exact md_step14
 · exact md_step15
 · exact md_step16
 · exact md_step17
def q0K:List (List Tok):=[[⟨2,⟨#[]⟩,1⟩],[⟨5,⟨#[47,47]⟩,0⟩,⟨1,⟨#[97]⟩,0⟩],[⟨3,⟨#[120]⟩,0⟩],[⟨1,⟨#[116,114,117,101]⟩,0⟩,⟨5,⟨#[40]⟩,0⟩,⟨5,⟨#[41]⟩,0⟩],[⟨5,⟨#[40]⟩,0⟩,⟨5,⟨#[41]⟩,0⟩]]
theorem md_q00:MdK [49] [⟨2,⟨#[]⟩,1⟩]:=⟨by decide +kernel,fun R hR=>by
 rcases hR with rfl | ⟨c,S,rfl,rfl | rfl | rfl | rfl | rfl⟩ <;> exact Cuts.of 60 (by kernel_rfl)⟩
theorem md_q01:MdK [47,47,97] [⟨5,⟨#[47,47]⟩,0⟩,⟨1,⟨#[97]⟩,0⟩]:=⟨by decide +kernel,fun R hR=>by
 rcases hR with rfl | ⟨c,S,rfl,rfl | rfl | rfl | rfl | rfl⟩ <;> exact Cuts.of 60 (by kernel_rfl)⟩
theorem md_q02:MdK [34,120,34] [⟨3,⟨#[120]⟩,0⟩]:=⟨by decide +kernel,fun R hR=>by
 rcases hR with rfl | ⟨c,S,rfl,rfl | rfl | rfl | rfl | rfl⟩ <;> exact Cuts.of 60 (by kernel_rfl)⟩
theorem md_q03:MdK [116,114,117,101,40,41] [⟨1,⟨#[116,114,117,101]⟩,0⟩,⟨5,⟨#[40]⟩,0⟩,⟨5,⟨#[41]⟩,0⟩]:=⟨by decide +kernel,fun R hR=>by
 rcases hR with rfl | ⟨c,S,rfl,rfl | rfl | rfl | rfl | rfl⟩ <;> exact Cuts.of 60 (by kernel_rfl)⟩
theorem md_q04:MdK [40,41] [⟨5,⟨#[40]⟩,0⟩,⟨5,⟨#[41]⟩,0⟩]:=⟨by decide +kernel,fun R hR=>by
 rcases hR with rfl | ⟨c,S,rfl,rfl | rfl | rfl | rfl | rfl⟩ <;> exact Cuts.of 60 (by kernel_rfl)⟩
theorem md_q0 {i:Nat} (hi:i<5):MdK (q0L.getD i []) (q0K.getD i []):=by
 have h:i=0\/i=1\/i=2\/i=3\/i=4:=by omega
 rcases h with rfl | rfl | rfl | rfl | rfl
 · exact md_q00
 · exact md_q01
 · exact md_q02
 · exact md_q03
 · exact md_q04
def sepK:List (List Tok):=[[⟨5,⟨#[47]⟩,0⟩],[⟨5,⟨#[47,47]⟩,0⟩]]
theorem sep_cut {j i:Nat} (hj:j<2) (hi:i<18) (R:List UInt8):Cuts (sepL.getD j []) (stepL.getD i [] ++ R) (sepK.getD j []):=by
 have h:i=0\/i=1\/i=2\/i=3\/i=4\/i=5\/i=6\/i=7\/i=8\/i=9\/i=10\/i=11\/i=12\/i=13\/i=14\/i=15\/i=16\/i=17:=by omega
 have h2:j=0\/j=1:=by omega
 rcases h2 with rfl | rfl
 all_goals
  rcases h with rfl | rfl | rfl | rfl | rfl | rfl | rfl | rfl | rfl | rfl | rfl | rfl | rfl | rfl | rfl | rfl | rfl | rfl
 all_goals exact Cuts.of 3 (by kernel_rfl)
theorem md_sep_step {X:List UInt8} {K:List Tok} {i j:Nat} (h:MdK X K) (hj:j<2) (hi:i<18):MdK (X ++ (sepL.getD j [] ++ stepL.getD i [])) (K ++ (sepK.getD j [] ++ stepK.getD i [])):=by
 refine h.on ?_ ?_
 · obtain ⟨S,hS⟩:=sep_first hj
   rw [hS]
   exact ⟨47,_,rfl,by unfold Fol;decide⟩
 · refine ⟨Szk.app ?_ (md_step hi).1,fun R hR=>(sep_cut hj hi R).append ((md_step hi).2 R hR)⟩
   have h2:j=0\/j=1:=by omega
   rcases h2 with rfl | rfl <;> decide +kernel
end Go.Proofs.YtmcmbdkpfcibkaaGreatDoor
