import Derived.Test.YtmcmbdkpfcibkaaGreatDoorQoAst
set_option linter.unusedVariables false
set_option maxHeartbeats 6400000
namespace Go.Proofs.YtmcmbdkpfcibkaaGreatDoor
set_option maxRecDepth 100000
open Go.RowKit
def opSepN:Oper:={ dst:=some 44,op:=Op.load 9 (Operand.tmp 43),type:=9,pos:= "raw.go:146",after:=#[{ on:=9,ground:=Ground.data }],guard:=none }
theorem opSepN_eq:opSepN={ dst:=some 44,op:=Op.load 9 (Operand.tmp 43),type:=9,pos:= "raw.go:146",after:=#[{ on:=9,ground:=Ground.data }],guard:=none }:=rfl
def opAddAN:Oper:={ dst:=some 49,op:=Op.binOp BinOp.add 9 (Operand.tmp 44) (Operand.tmp 48) 9,type:=9,pos:= "raw.go:146",after:=#[{ on:=10,ground:=Ground.data },{ on:=14,ground:=Ground.data }],guard:=none }
theorem opAddAN_eq:opAddAN={ dst:=some 49,op:=Op.binOp BinOp.add 9 (Operand.tmp 44) (Operand.tmp 48) 9,type:=9,pos:= "raw.go:146",after:=#[{ on:=10,ground:=Ground.data },{ on:=14,ground:=Ground.data }],guard:=none }:=rfl
def opAddBN:Oper:={ dst:=some 50,op:=Op.binOp BinOp.add 9 (Operand.tmp 34) (Operand.tmp 49) 9,type:=9,pos:= "raw.go:146",after:=#[{ on:=0,ground:=Ground.data },{ on:=15,ground:=Ground.data }],guard:=none }
theorem opAddBN_eq:opAddBN={ dst:=some 50,op:=Op.binOp BinOp.add 9 (Operand.tmp 34) (Operand.tmp 49) 9,type:=9,pos:= "raw.go:146",after:=#[{ on:=0,ground:=Ground.data },{ on:=15,ground:=Ground.data }],guard:=none }:=rfl
theorem nodesF_is (d:Int) (n:Nat) (hd:-10≤d∧d≤10) (hn:n≤100000) (HQ:0<d→QueOk (d - 1) n) {w0 w:World} {pb:Nat} (h:PoS w0 w pb false):Calls Tryz.prog 16 #[.pointer (some ⟨pb,0,none⟩),.int .i64 d] w fun e w'=>∃ s,TextP .nod false d s (n + 104)∧e=.returned (.string s)∧GrowQ pb w w'∧PoS w0 w' pb false:=by
 have hwr:IntKind.i64.wrap (d - 1)=d - 1:=IntWalk.i64_in _ (by omega)
 have hpw:=h.lt
 have CN:Hid (Calls Tryz.prog 26 #[.pointer (some ⟨pb,0,none⟩)] w fun e w'=>∃ r,e=.returned (.agg #[.int .i64 r.k,.int .i64 r.a,.int .i64 r.b,.int .i64 r.c,.string r.t])∧RwFine r∧GrowQ pb w w'∧PoS w0 w' pb false):=next_is h
 clear h
 go_enter Tryz.func16,Tryz.ntmps16
 go_upto_region 2 with (first
  | (go_at_call 26;refine CN.out.mono ?_;rintro e w1 ⟨r,rfl,hr,hg1,hp1⟩;have HG1:Hid (GrowQ pb w w1):=hg1;have HP1:Hid (PoS w0 w1 pb false):=hp1;have HR:Hid (RwFine r):=hr;clear hg1 hp1 hr))
 obtain ⟨⟨rk,ra,rb',rc,rt⟩,hre⟩:∃ q,q=r:=⟨_,rfl⟩
 subst hre
 obtain ⟨W2,hW2⟩:∃ W,W=w1.alloc (.cells #[.int .i64 rk,.int .i64 ra,.int .i64 rb',.int .i64 rc,.string rt] 78):=⟨_,rfl⟩
 have hx0:W2.cell? ⟨w1.heap.size,0,none⟩=some (.int .i64 rk):=by rw [hW2];simp
 have hx1:W2.cell? ⟨w1.heap.size,1,none⟩=some (.int .i64 ra):=by rw [hW2];simp
 have hx2:W2.cell? ⟨w1.heap.size,2,none⟩=some (.int .i64 rb'):=by rw [hW2];simp
 have hx3:W2.cell? ⟨w1.heap.size,3,none⟩=some (.int .i64 rc):=by rw [hW2];simp
 have hxs:W2.heap.size=w1.heap.size + 1:=by rw [hW2];simp
 have HP2:Hid (PoS w0 W2 pb false):=by rw [hW2];exact HP1.out.below ((Below.refl _ _).alloc (Nat.le_refl _) _)
 have HG2:Hid (GrowQ pb w W2):=by rw [hW2];exact HG1.out.alloc _
 dsimp only
 rw [← hW2]
 clear hW2
 obtain ⟨ri,hri⟩:∃ b,b=w1.heap.size:=⟨_,rfl⟩
 rw [← hri] at hx0 hx1 hx2 hx3 hxs ⊢
 have hpri:pb<ri:=by rw [hri];exact HP1.out.lt
 clear hri HP1 HG1 CN
 obtain ⟨i0,hi0,hi6⟩:=pk_nat (n:=ra) (m:=6) (by omega)
 have CK6:Hid (∀ W,Calls Tryz.prog 9 #[.int .i64 ra,.int .i64 6] W fun e w'=>e=.returned (.int .i64 i0)∧W=w'):=fun W=>(picked_is ra 6 W HR.out.2.1 (by omega) (by omega)).mono fun e w' ⟨k1,k2⟩=>⟨by rw [k1];exact ret_int hi0,k2.symm⟩
 obtain ⟨K,hK,hK3⟩:=pk_nat (n:=rk) (m:=3) (by omega)
 have CK3:Hid (∀ W,Calls Tryz.prog 9 #[.int .i64 rk,.int .i64 3] W fun e w'=>e=.returned (.int .i64 K)∧W=w'):=fun W=>(picked_is rk 3 W HR.out.1 (by omega) (by omega)).mono fun e w' ⟨k1,k2⟩=>⟨by rw [k1];exact ret_int hK,k2.symm⟩
 obtain ⟨q4,hq4,hq44⟩:=pk_nat (n:=rk) (m:=4) (by omega)
 have CK4:Hid (∀ W,Calls Tryz.prog 9 #[.int .i64 rk,.int .i64 4] W fun e w'=>e=.returned (.int .i64 q4)∧W=w'):=fun W=>(picked_is rk 4 W HR.out.1 (by omega) (by omega)).mono fun e w' ⟨k1,k2⟩=>⟨by rw [k1];exact ret_int hq4,k2.symm⟩
 obtain ⟨q9,hq9,hq99⟩:=pk_nat (n:=rk) (m:=9) (by omega)
 have CK9:Hid (∀ W,Calls Tryz.prog 9 #[.int .i64 rk,.int .i64 9] W fun e w'=>e=.returned (.int .i64 q9)∧W=w'):=fun W=>(picked_is rk 9 W HR.out.1 (by omega) (by omega)).mono fun e w' ⟨k1,k2⟩=>⟨by rw [k1];exact ret_int hq9,k2.symm⟩
 obtain ⟨qb,hqb,hqb3⟩:=pk_nat (n:=rb') (m:=3) (by omega)
 have CKB:Hid (∀ W,Calls Tryz.prog 9 #[.int .i64 rb',.int .i64 3] W fun e w'=>e=.returned (.int .i64 qb)∧W=w'):=fun W=>(picked_is rb' 3 W HR.out.2.2.1 (by omega) (by omega)).mono fun e w' ⟨k1,k2⟩=>⟨by rw [k1];exact ret_int hqb,k2.symm⟩
 obtain ⟨pc,hpc,hpc2⟩:=pk_nat (n:=rc) (m:=2) (by omega)
 have CKC:Hid (∀ W,Calls Tryz.prog 9 #[.int .i64 rc,.int .i64 2] W fun e w'=>e=.returned (.int .i64 pc)∧W=w'):=fun W=>(picked_is rc 2 W HR.out.2.2.2.1 (by omega) (by omega)).mono fun e w' ⟨k1,k2⟩=>⟨by rw [k1];exact ret_int hpc,k2.symm⟩
 obtain ⟨pa,hpa,hpa2⟩:=pk_nat (n:=ra) (m:=2) (by omega)
 have CKA:Hid (∀ W,Calls Tryz.prog 9 #[.int .i64 ra,.int .i64 2] W fun e w'=>e=.returned (.int .i64 pa)∧W=w'):=fun W=>(picked_is ra 2 W HR.out.2.1 (by omega) (by omega)).mono fun e w' ⟨k1,k2⟩=>⟨by rw [k1];exact ret_int hpa,k2.symm⟩
 clear hi0 hK hq4 hq9 hqb hpc hpa
 have hii:(i0:Int)<6:=by omega
 have hc:=base_cell W2 i0 hi6
 obtain ⟨z,hz⟩:∃ z,z=baseL.getD i0 []:=⟨_,rfl⟩
 rw [← hz] at hc
 have HZ:Hid (TextP .pth false d ⟨z.toArray⟩ 8):=by rw [hz];exact no_base hi6
 have HVL:Hid (∀ h:i0<6,([.string ⟨#[47,114]⟩,.string ⟨#[47,47,97]⟩,.string ⟨#[47,47,42]⟩,.string ⟨#[47,114,47,42]⟩,.string ⟨#[47,47,64,107]⟩,.string ⟨#[47,47,116,101,120,116,40,41]⟩]:List Value)[i0]'h=.string ⟨z.toArray⟩):=by
  intro h
  rw [hz]
  have e:i0=0∨i0=1∨i0=2∨i0=3∨i0=4∨i0=5:=by omega
  rcases e with rfl | rfl | rfl | rfl | rfl | rfl <;> rfl
 clear hz
 obtain ⟨v0,n0,X0,hpo,_,_⟩:=HP2.out.st
 obtain ⟨y0,y1,y2,y3,y4⟩:=hpo
 have hpw2:pb<W2.heap.size:=by omega
 have HW3:Hid (∀ W,GrowQ pb W2 W→W.cell? ⟨ri,0,none⟩=some (.int .i64 rk)∧W.cell? ⟨ri,1,none⟩=some (.int .i64 ra)∧W.cell? ⟨ri,2,none⟩=some (.int .i64 rb')∧W.cell? ⟨ri,3,none⟩=some (.int .i64 rc)∧ri<W.heap.size):=fun W h=>⟨(h.cell (by omega) (by omega)).trans hx0,(h.cell (by omega) (by omega)).trans hx1,(h.cell (by omega) (by omega)).trans hx2,(h.cell (by omega) (by omega)).trans hx3,by have:=h.1;omega⟩
 go_wp2_with (first | (go_at_call 9;refine (CK6.out _).mono ?_;rintro e w4 ⟨rfl,rfl⟩;clear CK6))
 clear y0 y1 y2 y3 y4 hx0 hx1 hx2 hx3 hc
 go_loopw [6,7] (fun sv iv wr=>∃ (j:Nat) (s:ByteArray),j≤K∧iv=.int .i64 j∧sv=.string s∧TextP .pth false d s (8 + 32 * j)∧GrowQ pb W2 wr∧PoS w0 wr pb false) (fun _ iv _=>K - (intOf iv).toNat)
 case atStart=>exact ⟨0,_,Nat.zero_le _,rfl,HVL.out _,HZ.out,(GrowQ.refl _ _).alloc _,HP2.out.below ((Below.refl _ _).alloc (Nat.le_refl _) _)⟩
 case round =>
  obtain ⟨j,s,hj,rfl,rfl,hps,hgr,hpo⟩:=hrel
  have HPA:Hid (TextP .pth false d s (8 + 32 * j)):=hps
  have HGR:Hid (GrowQ pb W2 wr):=hgr
  have HPO:Hid (PoS w0 wr pb false):=hpo
  have hsz:s.size≤100:=by have:=hps.2.2;omega
  have hplt:=hpo.lt
  obtain ⟨x0,x1,x2,x3,x4⟩:=HW3.out _ hgr
  clear hps hgr hpo
  by_cases hlt:j<K
  · have hji:(j:Int)<(K:Int):=by omega
    obtain ⟨jj,hjj,hjj2⟩:∃ jj:Nat,(pc:Int) * (pa:Int)=(jj:Int)∧jj<2:=⟨pc * pa,by simp,by
     have h1:pc=0∨pc=1:=by omega
     have h2:pa=0∨pa=1:=by omega
     rcases h1 with rfl | rfl <;> rcases h2 with rfl | rfl <;> decide⟩
    have hmul:IntKind.i64.wrap ((pc:Int) * (pa:Int))=(jj:Int):=by rw [hjj];exact IntWalk.i64_in _ (by omega)
    have hjji:(jj:Int)<2:=by omega
    obtain ⟨zs,hzs⟩:∃ z:ByteArray,z=⟨(sepL.getD jj []).toArray⟩:=⟨_,rfl⟩
    have hsc:∀ w:World,(w.alloc (.cells #[.string ⟨#[47]⟩,.string ⟨#[47,47]⟩] 9)).cell? ⟨w.heap.size,jj,none⟩=some (.string zs):=fun w=>by rw [hzs];exact sep_cell w jj hjj2
    have hzl:zs.size≤2:=by rw [hzs];exact sepL_len hjj2
    have HST:Hid (∀ i,i<18→TextP .pth false d (s ++ (zs ++ ⟨(stepL.getD i []).toArray⟩)) (8 + 32 * (j + 1))):=fun i hi=>by rw [hzs];exact (no_step HPA.out hjj2 hi).more (by omega)
    have HSL:Hid (∀ i,i<18→(⟨(stepL.getD i []).toArray⟩:ByteArray).size≤30):=fun i hi=>stepL_len hi
    have CN:Hid (∀ W,Below wr.heap.size wr W→Calls Tryz.prog 26 #[.pointer (some ⟨pb,0,none⟩)] W fun e w'=>∃ r,e=.returned (.agg #[.int .i64 r.k,.int .i64 r.a,.int .i64 r.b,.int .i64 r.c,.string r.t])∧RwFine r∧GrowQ pb W w'∧GrowQ pb wr w'∧PoS w0 w' pb false):=fun W hW=>(next_is (HPO.out.below hW)).mono fun e w' ⟨r,k1,k2,k3,k4⟩=>⟨r,k1,k2,k3,((GrowQ.refl pb wr).below hW).trans k3,k4⟩
    have CS:Hid (∀ W r,GrowQ pb wr W→RwFine r→Calls Tryz.prog 39 #[.pointer (some ⟨pb,0,none⟩),.agg #[.int .i64 r.k,.int .i64 r.a,.int .i64 r.b,.int .i64 r.c,.string r.t]] W fun e w'=>∃ t:ByteArray,Hid (TextP .pth false d (s ++ (zs ++ t)) (8 + 32 * (j + 1)))∧t.size≤30∧e=.returned (.string t)∧GrowQ pb W w'∧GrowQ pb wr w'∧(PoS w0 W pb false→PoS w0 w' pb false)):=fun W r hW hr=>(step_is pb r W hr).mono fun e w' ⟨i,k1,k2,k3⟩=>⟨_,HST.out i k1,HSL.out i k1,k2,(GrowQ.refl pb W).below k3,hW.below k3,fun h=>h.below k3⟩
    have HSS:Hid (∀ W,GrowQ pb wr W→W.cell? ⟨ri,1,none⟩=some (.int .i64 ra)∧W.cell? ⟨ri,3,none⟩=some (.int .i64 rc)∧ri<W.heap.size):=fun W h=>by
     obtain ⟨_,a1,_,a3,a4⟩:=HW3.out _ (HGR.out.trans h)
     exact ⟨a1,a3,a4⟩
    clear hzs hjj
    go_upto_region 8 with (first | (go_at_call 9;refine (CK3.out _).mono ?_;rintro e w4 ⟨rfl,rfl⟩))
    rw [← opSepN_eq,← opAddAN_eq,← opAddBN_eq]
    have hop:=opSepN_eq
    have hopA:=opAddAN_eq
    have hopB:=opAddBN_eq
    go_region_held3 (fun W=>W.cell? ⟨ri,1,none⟩=some (.int .i64 ra)∧W.cell? ⟨ri,3,none⟩=some (.int .i64 rc)∧ri<W.heap.size)
     ((refine HSS.out _ ?_;repeat (first | exact Hid.out (by assumption) | exact GrowQ.refl _ _ | refine GrowQ.alloc ?_ _)))
     (first
      | (go_at_call_has 9 (Value.int .i64 rc);refine (CKC.out _).mono ?_;rintro e w4 ⟨rfl,rfl⟩)
      | (go_at_call_has 9 (Value.int .i64 ra);refine (CKA.out _).mono ?_;rintro e w4 ⟨rfl,rfl⟩)
      | (go_at_call 26;refine (CN.out _ ?_).mono ?_;(focus (repeat (first | exact Below.refl _ _ | refine Below.alloc ?_ (by simp <;> omega) _ | refine Below.drew ?_)));rintro e w5 ⟨r5,rfl,hr5,hb5,hn5,hp5⟩;(first | (have zz:=sepBox hsc hb5 (by simpa using hplt);obtain ⟨z0,z1,z2⟩:=zz) | (have zz:=sepBoxD hsc hb5 (by simpa using hplt);obtain ⟨z0,z1,z2⟩:=zz) | skip);have HR5:Hid (RwFine r5):=hr5;have HN5:Hid (GrowQ pb wr w5):=hn5;have HP5:Hid (PoS w0 w5 pb false):=hp5;have hl5:=hp5.lt;clear hr5 hb5 hn5 hp5)
      | (go_at_call 39;refine (CS.out _ r5 ?_ HR5.out).mono ?_;(focus (repeat (first | exact Hid.out (by assumption) | refine GrowQ.alloc ?_ _)));rintro e w6 ⟨t6,HT6,ht6,rfl,hb6,hn6,hp6⟩;(first | (have zz:=sepBox hsc hb6 hl5;obtain ⟨z0,z1,z2⟩:=zz) | (have zz:=sepBoxD hsc hb6 hl5;obtain ⟨z0,z1,z2⟩:=zz) | (have zz:=sepKept hb6 z0 z1 (by omega);clear z0 z1 z2;obtain ⟨z0,z1,z2⟩:=zz) | skip);have HP6:Hid (PoS w0 w6 pb false):=(hp6 (by first | exact HP5.out | exact HP5.out.below ((Below.refl _ _).alloc (Nat.le_refl _) _)));have HN6:Hid (GrowQ pb wr w6):=hn6;have hl6:=HP6.out.lt;have hq1:zs.size + t6.size≤9223372036854775807:=(by omega);have hq2:s.size + (zs.size + t6.size)≤9223372036854775807:=(by omega);have hq3:s.size + (zs ++ t6).size≤9223372036854775807:=(by rw [ByteArray.size_append];omega);clear hb6 hn6 hp6 HN5 HP5 HR5 hl5))
    all_goals
     clear hop hopA hopB CN CS HSS HST HSL
     go_wp2_with fail
     go_roundw
     case rel=>exact ⟨j + 1,s ++ (zs ++ t6),by omega,by go_num,rfl,HT6.out,by first | exact HGR.out.trans HN6.out | exact (HGR.out.trans HN6.out).alloc _,by first | exact HP6.out | exact HP6.out.below ((Below.refl _ _).alloc (Nat.le_refl _) _)⟩
     case measure=>simp [intOf];omega
  · have hge:¬ ((j:Int)<(K:Int)):=by omega
    have HPB:Hid (TextP .pth false d s 80):=HPA.out.more (by omega)
    have hs80:s.size≤80:=HPB.out.2.2
    have HPS:Hid (PoS w0 wr pb false):=HPO.out
    obtain ⟨v1,n1,X1,hp1,hr1,hf1⟩:=HPO.out.st
    obtain ⟨y0,y1,y2,y3,y4⟩:=hp1
    clear hr1 hf1 HPA HPO
    have hrb:ri≠pb:=by omega
    have hbr:pb≠ri:=by omega
    have HGW:Hid (GrowQ pb w wr):=HG2.out.trans HGR.out
    have hsA:1 + s.size≤9223372036854775807:=by omega
    have hsB:1 + s.size + 2≤9223372036854775807:=by omega
    by_cases hf3:0<d∧q4=3
    · obtain ⟨hd0,rfl⟩:=hf3
      have CQ:Hid (Calls Tryz.prog 13 #[.pointer (some ⟨pb,0,none⟩),.int .i64 (d - 1)] (wr.setCell ⟨pb,1,none⟩ (.bool true)) fun e w'=>∃ zq:ByteArray,zq.size≤n∧Hid (TextP .flt false d (⟨#[40]⟩ ++ s ++ ⟨#[41,91]⟩ ++ zq ++ ⟨#[93]⟩) (n + 84))∧e=.returned (.string zq)∧GrowQ pb wr w'∧PoS w0 w' pb true):=(HQ hd0 (HPS.out.setD true)).mono fun e w' ⟨zq,k1,k2,k3,k4⟩=>⟨zq,k1.2.2,(no_filter2 HPB.out k1 hd0).more (by omega),k2,((GrowQ.refl pb wr).set 1 _).trans k3,k4⟩
      go_upto_region 14 with (first
       | (go_at_call 9;refine (CK3.out _).mono ?_;rintro e w4 ⟨rfl,rfl⟩;clear CK3)
       | (go_at_call 9;refine (CK4.out _).mono ?_;rintro e w4 ⟨rfl,rfl⟩;clear CK4)
       | (go_at_call 13;refine CQ.out.mono ?_;rintro e w7 ⟨zq,hzq,HF,rfl,hg7,hp7⟩;have HG7:Hid (GrowQ pb w w7):=(HGW.out.trans hg7);have HP7:Hid (PoS w0 w7 pb true):=hp7;obtain ⟨u0,u1,u2,u3,u4⟩:=HW3.out _ (HGR.out.trans hg7);obtain ⟨v7,n7,X7,hpp,_,_⟩:=hp7.st;obtain ⟨t0,t1,t2,t3,t4⟩:=hpp;have hzn:zq.size≤100000:=(Nat.le_trans hzq hn);clear hg7 hp7 hzq))
      obtain ⟨s',hs'⟩:∃ s',s'=(⟨#[40]⟩ ++ s ++ ⟨#[41,91]⟩ ++ zq ++ ⟨#[93]⟩:ByteArray):=⟨_,rfl⟩
      obtain ⟨M,hM⟩:∃ M,M=n + 84:=⟨_,rfl⟩
      have HE:Hid (TextP .flt false d s' M):=by rw [hs',hM];exact HF.out
      have hMM:M≤100100:=by omega
      rw [← hs']
      obtain ⟨W8,hW8⟩:∃ W,W=w7.setCell ⟨pb,1,none⟩ (.bool false):=⟨_,rfl⟩
      have g0:W8.cell? ⟨ri,0,none⟩=some (.int .i64 rk):=by rw [hW8,World.cell?_of_block (Below.heap_setCell _ _ _ _ (by simpa using hrb))];exact u0
      have g2:W8.cell? ⟨ri,2,none⟩=some (.int .i64 rb'):=by rw [hW8,World.cell?_of_block (Below.heap_setCell _ _ _ _ (by simpa using hrb))];exact u2
      have HG8:Hid (GrowQ pb w W8):=by rw [hW8];exact HG7.out.set 1 _
      have HP8:Hid (PoS w0 W8 pb false):=by rw [hW8];exact HP7.out.setD false
      rw [← hW8]
      have HMN:Hid (M + 20≤n + 104):=show M + 20≤n + 104 by omega
      clear hW8 hs' HF HG7 HP7 u0 u1 u2 u3 u4 t0 t1 t2 t3 t4 y0 y1 y2 y3 y4 hzn hM HQ
      have e1:1 + s'.size≤9223372036854775807:=by have:=HE.out.2.2;omega
      have e2:s'.size≤200000:=by have:=HE.out.2.2;omega
      by_cases h8:q9=8
      · subst h8
        have e3:qb=0∨qb=1∨qb=2:=by omega
        rcases e3 with rfl | rfl | rfl
        · have kx:=ops_at0
          have HO:Hid (TextP .nod false d (⟨#[40]⟩ ++ s' ++ ⟨#[32,117,110,105,111,110,32]⟩ ++ ⟨#[47,47,42,41]⟩) (M + 20)):=(no_op0 HE.out).more (by omega)
          go_wp2_with (first
           | (go_at_call 9;refine (CK9.out _).mono ?_;rintro e w8 ⟨rfl,rfl⟩;clear CK9)
           | (go_at_call 9;refine (CKB.out _).mono ?_;rintro e w9 ⟨rfl,rfl⟩;clear CKB))
          all_goals
           go_ret
           exact ⟨_,HO.out.more HMN.out,rfl,HG8.out,HP8.out⟩
        · have kx:=ops_at1
          have HO:Hid (TextP .nod false d (⟨#[40]⟩ ++ s' ++ ⟨#[32,105,110,116,101,114,115,101,99,116,32]⟩ ++ ⟨#[47,47,42,41]⟩) (M + 20)):=(no_op1 HE.out).more (by omega)
          go_wp2_with (first
           | (go_at_call 9;refine (CK9.out _).mono ?_;rintro e w8 ⟨rfl,rfl⟩;clear CK9)
           | (go_at_call 9;refine (CKB.out _).mono ?_;rintro e w9 ⟨rfl,rfl⟩;clear CKB))
          all_goals
           go_ret
           exact ⟨_,HO.out.more HMN.out,rfl,HG8.out,HP8.out⟩
        · have kx:=ops_at2
          have HO:Hid (TextP .nod false d (⟨#[40]⟩ ++ s' ++ ⟨#[32,101,120,99,101,112,116,32]⟩ ++ ⟨#[47,47,42,41]⟩) (M + 20)):=(no_op2 HE.out).more (by omega)
          go_wp2_with (first
           | (go_at_call 9;refine (CK9.out _).mono ?_;rintro e w8 ⟨rfl,rfl⟩;clear CK9)
           | (go_at_call 9;refine (CKB.out _).mono ?_;rintro e w9 ⟨rfl,rfl⟩;clear CKB))
          all_goals
           go_ret
           exact ⟨_,HO.out.more HMN.out,rfl,HG8.out,HP8.out⟩
      · have h8i:¬ ((q9:Int)=8):=by omega
        have HO:Hid (TextP .nod false d s' (M + 20)):=(no_nod HE.out).more (by omega)
        go_wp2_with (first
         | (go_at_call 9;refine (CK9.out _).mono ?_;rintro e w8 ⟨rfl,rfl⟩;clear CK9))
        all_goals
         go_ret
         exact ⟨_,HO.out.more HMN.out,rfl,HG8.out,HP8.out⟩
    · have hfb:(decide (0<d) && decide ((q4:Int)=3))=false:=by
       by_cases h1:0<d
       · have:¬ ((q4:Int)=3):=fun h=>hf3 ⟨h1,by omega⟩
         simp [this]
       · simp [h1]
      obtain ⟨M,hM⟩:∃ M,M=n + 84:=⟨_,rfl⟩
      have HE:Hid (TextP .flt false d s M):=(no_flt HPB.out).more (by omega)
      have hMM:M≤100100:=by omega
      have HMN:Hid (M + 20≤n + 104):=show M + 20≤n + 104 by omega
      clear hM HQ
      by_cases hd0:0<d
      · have hq3:¬ ((q4:Int)=3):=fun h=>hf3 ⟨hd0,by omega⟩
        clear hf3 hfb
        go_upto_region 14 with (first
         | (go_at_call 9;refine (CK3.out _).mono ?_;rintro e w4 ⟨rfl,rfl⟩;clear CK3)
         | (go_at_call 9;refine (CK4.out _).mono ?_;rintro e w4 ⟨rfl,rfl⟩;clear CK4))
        have e1:1 + s.size≤9223372036854775807:=by have:=HE.out.2.2;omega
        have e2:s.size≤200000:=by have:=HE.out.2.2;omega
        by_cases h8:q9=8
        · subst h8
          have e3:qb=0∨qb=1∨qb=2:=by omega
          rcases e3 with rfl | rfl | rfl
          · have kx:=ops_at0
            have HO:Hid (TextP .nod false d (⟨#[40]⟩ ++ s ++ ⟨#[32,117,110,105,111,110,32]⟩ ++ ⟨#[47,47,42,41]⟩) (M + 20)):=(no_op0 HE.out).more (by omega)
            go_wp2_with (first
             | (go_at_call 9;refine (CK9.out _).mono ?_;rintro e w8 ⟨rfl,rfl⟩;clear CK9)
             | (go_at_call 9;refine (CKB.out _).mono ?_;rintro e w9 ⟨rfl,rfl⟩;clear CKB))
            all_goals
             go_ret
             exact ⟨_,HO.out.more HMN.out,rfl,HGW.out,HPS.out⟩
          · have kx:=ops_at1
            have HO:Hid (TextP .nod false d (⟨#[40]⟩ ++ s ++ ⟨#[32,105,110,116,101,114,115,101,99,116,32]⟩ ++ ⟨#[47,47,42,41]⟩) (M + 20)):=(no_op1 HE.out).more (by omega)
            go_wp2_with (first
             | (go_at_call 9;refine (CK9.out _).mono ?_;rintro e w8 ⟨rfl,rfl⟩;clear CK9)
             | (go_at_call 9;refine (CKB.out _).mono ?_;rintro e w9 ⟨rfl,rfl⟩;clear CKB))
            all_goals
             go_ret
             exact ⟨_,HO.out.more HMN.out,rfl,HGW.out,HPS.out⟩
          · have kx:=ops_at2
            have HO:Hid (TextP .nod false d (⟨#[40]⟩ ++ s ++ ⟨#[32,101,120,99,101,112,116,32]⟩ ++ ⟨#[47,47,42,41]⟩) (M + 20)):=(no_op2 HE.out).more (by omega)
            go_wp2_with (first
             | (go_at_call 9;refine (CK9.out _).mono ?_;rintro e w8 ⟨rfl,rfl⟩;clear CK9)
             | (go_at_call 9;refine (CKB.out _).mono ?_;rintro e w9 ⟨rfl,rfl⟩;clear CKB))
            all_goals
             go_ret
             exact ⟨_,HO.out.more HMN.out,rfl,HGW.out,HPS.out⟩
        · have h8i:¬ ((q9:Int)=8):=by omega
          have HO:Hid (TextP .nod false d s (M + 20)):=(no_nod HE.out).more (by omega)
          go_wp2_with (first
           | (go_at_call 9;refine (CK9.out _).mono ?_;rintro e w8 ⟨rfl,rfl⟩;clear CK9))
          all_goals
           go_ret
           exact ⟨_,HO.out.more HMN.out,rfl,HGW.out,HPS.out⟩
      · clear hf3 hfb
        go_upto_region 14 with (first
         | (go_at_call 9;refine (CK3.out _).mono ?_;rintro e w4 ⟨rfl,rfl⟩;clear CK3))
        have e1:1 + s.size≤9223372036854775807:=by have:=HE.out.2.2;omega
        have e2:s.size≤200000:=by have:=HE.out.2.2;omega
        by_cases h8:q9=8
        · subst h8
          have e3:qb=0∨qb=1∨qb=2:=by omega
          rcases e3 with rfl | rfl | rfl
          · have kx:=ops_at0
            have HO:Hid (TextP .nod false d (⟨#[40]⟩ ++ s ++ ⟨#[32,117,110,105,111,110,32]⟩ ++ ⟨#[47,47,42,41]⟩) (M + 20)):=(no_op0 HE.out).more (by omega)
            go_wp2_with (first
             | (go_at_call 9;refine (CK9.out _).mono ?_;rintro e w8 ⟨rfl,rfl⟩;clear CK9)
             | (go_at_call 9;refine (CKB.out _).mono ?_;rintro e w9 ⟨rfl,rfl⟩;clear CKB))
            all_goals
             go_ret
             exact ⟨_,HO.out.more HMN.out,rfl,HGW.out,HPS.out⟩
          · have kx:=ops_at1
            have HO:Hid (TextP .nod false d (⟨#[40]⟩ ++ s ++ ⟨#[32,105,110,116,101,114,115,101,99,116,32]⟩ ++ ⟨#[47,47,42,41]⟩) (M + 20)):=(no_op1 HE.out).more (by omega)
            go_wp2_with (first
             | (go_at_call 9;refine (CK9.out _).mono ?_;rintro e w8 ⟨rfl,rfl⟩;clear CK9)
             | (go_at_call 9;refine (CKB.out _).mono ?_;rintro e w9 ⟨rfl,rfl⟩;clear CKB))
            all_goals
             go_ret
             exact ⟨_,HO.out.more HMN.out,rfl,HGW.out,HPS.out⟩
          · have kx:=ops_at2
            have HO:Hid (TextP .nod false d (⟨#[40]⟩ ++ s ++ ⟨#[32,101,120,99,101,112,116,32]⟩ ++ ⟨#[47,47,42,41]⟩) (M + 20)):=(no_op2 HE.out).more (by omega)
            go_wp2_with (first
             | (go_at_call 9;refine (CK9.out _).mono ?_;rintro e w8 ⟨rfl,rfl⟩;clear CK9)
             | (go_at_call 9;refine (CKB.out _).mono ?_;rintro e w9 ⟨rfl,rfl⟩;clear CKB))
            all_goals
             go_ret
             exact ⟨_,HO.out.more HMN.out,rfl,HGW.out,HPS.out⟩
        · have h8i:¬ ((q9:Int)=8):=by omega
          have HO:Hid (TextP .nod false d s (M + 20)):=(no_nod HE.out).more (by omega)
          go_wp2_with (first
           | (go_at_call 9;refine (CK9.out _).mono ?_;rintro e w8 ⟨rfl,rfl⟩;clear CK9))
          all_goals
           go_ret
           exact ⟨_,HO.out.more HMN.out,rfl,HGW.out,HPS.out⟩
end Go.Proofs.YtmcmbdkpfcibkaaGreatDoor
