import Derived.Test.YtmcmbdkpfcibkaaGreatDoorRows
import Derived.Test.YtmcmbdkpfcibkaaGreatDoorRgIn
import Derived.Test.YtmcmbdkpfcibkaaGreatDoorShelf
import Derived.WalkKit
import Derived.WalkSpells
import Derived.WalkLawsBesides
import Derived.Outline
import Derived.Lib.LaidU8T
import Derived.Test.YtmcmbdkpfcibkaaGreatDoorProg
import Derived.ChangeSame
import Derived.Laws.Rows
import Derived.BigQuiet
import Derived.Deep.QuietTactic
import Derived.Sort.AtCall
import Derived.Deep.Cut
import Derived.RegionTactic
import Derived.Deep.RegionHeld3
import Derived.Defers
import Derived.Laws.OwnMore
import Derived.Shelf.Strconv.Clone
import Derived.Lib.IndexAny
import Derived.Shelf.Strings.SlTrimAscii
import Derived.Laws.AppendOwnNone
import Derived.Maps.AppendAt
import Derived.OwnWalk
import Derived.Deep.Strs
import Derived.Deep.Slices
import Derived.ProofKit
import Derived.SizedLaws
import Derived.Laws.BytesArg
import Derived.WideShapes
import Derived.OpenShut
set_option maxHeartbeats 3200000
namespace Go.Proofs.YtmcmbdkpfcibkaaGreatDoor
open Go.RowKit Go.Shelf
def Tabs (w:World):Prop:=Lib.Utf8Tabs (Tryz.laysValid_ren.g 3) (Tryz.laysValid_ren.g 4) w
theorem valid_any (s:ByteArray) (w:World) (hs:s.size<=9223372036854775807) (hT:Tabs w) :
 Calls Tryz.prog 116 #[vS s] w fun e w'=>e=.returned (.bool (Lib.validD s.data.toList))/\Below w.heap.size w w' :=
 Any.utf8_ValidString Tryz.laysValid s w hs hT
theorem checkText_any (s:ByteArray) (w:World) (hs:s.size<=maxLen) (hT:Tabs w) :
 Calls Tryz.prog 77 #[vS s] w fun e w'=>e=.returned (vI (textF s))/\Below w.heap.size w w':=by
 unfold maxLen at hs
 have cV:=valid_any s w hs hT
 have CV:Hid (Calls Tryz.prog 116 #[vS s] w fun e w'=>e=.returned (.bool (Lib.validD s.data.toList))/\Below w.heap.size w w'):=cV
 clear cV hT
 by_cases h1:20000<s.size
 · have H':Hid (textF s=1):=textF_size h1
   go_enter Tryz.func77,Tryz.ntmps77
   go_wp2
   all_goals
    go_ret
    exact ⟨ret_int H'.out.symm,Below.refl _ _⟩
 · have hhi:s.size<=20000:=by omega
   have H1:Hid (¬ 20000<s.size):=h1
   clear h1 hs
   cases hv:Lib.validD s.data.toList
   · have H':Hid (textF s=4):=textF_no H1.out (by rw [hv,Bool.false_and])
     go_enter Tryz.func77,Tryz.ntmps77
     go_wp2_with (go_at_call 116;refine CV.out.mono ?_;rintro e w1 ⟨rfl,hb⟩)
     go_ret
     exact ⟨ret_int H'.out.symm,hb⟩
   · have HV:Hid (Lib.validD s.data.toList=true):=hv
     go_enter Tryz.func77,Tryz.ntmps77
     go_wp2_with (go_at_call 116;refine CV.out.mono ?_;rintro e w1 ⟨rfl,hb⟩)
     have HBL:Hid (Below w.heap.size w w1):=hb
     clear hb CV
     go_loop [13] (fun i=>∃ k:Nat,k<=s.size/\i=vI k/\ctlTo s k=true) (fun i=>s.size - (intOf i).toNat)
     case atStart=>exact ⟨0,Nat.zero_le _,rfl,rfl⟩
     case round =>
      obtain ⟨k,hk,rfl,hok⟩:=hrel
      have HO:Hid (ctlTo s k=true):=hok
      clear hok
      by_cases hlt:k<s.size
      · have HE:Hid ((s[k].toNat:Int)=byteAt s k):=byteAt_eq s k hlt
        cases hc:ctl (s[k].toNat:Int)
        · have HC:Hid (ctl (byteAt s k)=false):=HE.out ▸ hc
          obtain ⟨c1,c2,c3,c4,c5⟩:=ctl_no hc
          clear hc
          go_wp2
          go_ret
          exact ⟨ret_int (textF_ctl H1.out hlt HC.out).symm,HBL.out⟩
        · have HC:Hid (ctl (byteAt s k)=true):=HE.out ▸ hc
          have hc':=ctl_yes hc
          clear hc
          rcases hc' with c1 | ⟨c1,c2,c3⟩ | ⟨c1,c2,c3,c4,c5⟩
          all_goals
           go_wp2
           go_round
           case rel=>exact ⟨k + 1,by omega,by go_num,by rw [ctlTo_succ,HO.out,HC.out];rfl⟩
           case measure=>simp [intOf];omega
      · go_wp2
        go_ret
        have e:k=s.size:=by omega
        exact ⟨ret_int (textF_ok H1.out HV.out (e ▸ HO.out)).symm,HBL.out⟩
set_option linter.unusedVariables false
set_option maxRecDepth 100000
open Go.RowKit
theorem below_drewA {B:Nat} {a w:World} (h:Below B a w) (q:Nat):Below B a (w.drewN q):=⟨h.os,h.tape,h.output,h.size,h.block⟩
theorem below_setA {B r:Nat} {a w:World} (h:Below B a w) (hr:B<=r) (k:Nat) (v:Value):Below B a (w.setCell ⟨r,k,none⟩ v):=⟨h.os,h.tape,h.output,by simpa using h.size,fun x hx=>(Below.heap_setCell _ _ _ _ (by simp;omega)).trans (h.block x hx)⟩
theorem seeM_wrong {T:List Tok} {st:Pst} {a:Nat} (h:¬ st.wrong=0):seeM T st a=tok0:=by unfold seeM;rw [if_pos (.inl h)]
theorem seeM_end {T:List Tok} {st:Pst} {a:Nat} (h:T.length<=st.at' + a):seeM T st a=tok0:=by unfold seeM;rw [if_pos (.inr h)]
theorem seeM_at {T:List Tok} {st:Pst} {a:Nat} (h:st.wrong=0) (hl:st.at' + a<T.length):seeM T st a=T[st.at' + a]:=by
 unfold seeM
 rw [if_neg (by omega),List.getD_eq_getElem?_getD,List.getElem?_eq_getElem hl]
 rfl
theorem see_is {w:World} {pb b c:Nat} {T:List Tok} {st:Pst} (h:PaS w pb b c T st) (a:Nat) (ha:a<=2) (hT:T.length<=200) (hat:st.at'<=400) :
 Calls Tryz.prog 81 #[vP pb 0,vI a] w fun e w'=>e=.returned (.agg #[vI (seeM T st a).kind,vS (seeM T st a).s,vI (seeM T st a).n])/\Below w.heap.size w w':=by
 obtain ⟨x0,x1,x2,x3,f1,f2,f3,hp,hb,hne,hts⟩:=h
 by_cases hw:st.wrong=0
 · by_cases hl:st.at' + a<T.length
   · rw [seeM_at hw hl]
     obtain ⟨t0,t1,t2⟩:=hts _ hl
     generalize T[st.at' + a]=t at t0 t1 t2
     obtain ⟨tk,ts,tn⟩:=t
     simp only at t0 t1 t2
     rw [hw] at x3
     obtain ⟨n,hn⟩:∃ n:Nat,n=st.at' + a:=⟨_,rfl⟩
     rw [<- hn] at t0 t1 t2 hl
     have hwr:IntKind.i64.wrap ((st.at':Int) + (a:Int))=(n:Int):=by rw [hn];rw [IntWalk.i64_in _ (by omega)];simp
     have hge:¬ ((T.length:Int)<=(n:Int)):=by omega
     have hlt:(n:Int)<(T.length:Int):=by omega
     generalize st.at'=at0 at *
     clear hts hn hw x2 f1 f2 f3
     go_enter Tryz.func81,Tryz.ntmps81
     go_upto_region 1 with fail
     go_quiet (fail)
     obtain ⟨W1,hW1⟩:∃ W,W=(w.alloc (.cells #[vI 0,vE,vI 0] 65)).drewN nq:=⟨_,rfl⟩
     have hb1:Below w.heap.size w W1:=by rw [hW1];exact below_drewA ((Below.refl _ _).alloc (Nat.le_refl _) _) nq
     have y0:=(hb1.cell (p:=⟨pb,0,none⟩) hp).trans x0
     have y1:=(hb1.cell (p:=⟨pb,1,none⟩) hp).trans x1
     have u0:=(hb1.cell (p:=⟨b,n * 3,none⟩) hb).trans t0
     have u1:=(hb1.cell (p:=⟨b,n * 3 + 1,none⟩) hb).trans t1
     have u2:=(hb1.cell (p:=⟨b,n * 3 + 2,none⟩) hb).trans t2
     have r0:W1.cell? ⟨w.heap.size,0,none⟩=some (vI 0):=by rw [hW1];show (w.alloc _).cell? _=_;simp
     have r1:W1.cell? ⟨w.heap.size,1,none⟩=some (vE):=by rw [hW1];show (w.alloc _).cell? _=_;simp
     have r2:W1.cell? ⟨w.heap.size,2,none⟩=some (vI 0):=by rw [hW1];show (w.alloc _).cell? _=_;simp
     have g0:W1.frozen? ⟨w.heap.size,0,none⟩=false:=by rw [hW1];show (w.alloc _).frozen? _=_;simp
     have g1:W1.frozen? ⟨w.heap.size,1,none⟩=false:=by rw [hW1];show (w.alloc _).frozen? _=_;simp
     have g2:W1.frozen? ⟨w.heap.size,2,none⟩=false:=by rw [hW1];show (w.alloc _).frozen? _=_;simp
     have HB1:Hid (Below w.heap.size w W1):=hb1
     rw [<- hW1]
     obtain ⟨r,hr⟩:∃ r,r=w.heap.size:=⟨_,rfl⟩
     have hrl:r<W1.heap.size:=by rw [hr,hW1];show w.heap.size<(w.alloc _).heap.size;simp
     have hpr:pb≠r:=by omega
     have hbr:b≠r:=by omega
     rw [<- hr] at r0 r1 r2 g0 g1 g2 ⊢
     have HR:Hid (r=w.heap.size):=hr
     clear hW1 hb1 x0 x1 x3 t0 t1 t2 hr
     go_upto_region 3 with fail
     go_region
     go_wp2
     refine bodyPost_ret (v:=.agg #[vI tk,vS ts,vI tn]) (by simp [results,Tryz.results81,go_sem,r0,r1,r2]) rfl ⟨rfl,?_⟩
     exact Below.drew (below_setA (below_setA (below_setA HB1.out (by have:=HR.out;omega) _ _) (by have:=HR.out;omega) _ _) (by have:=HR.out;omega) _ _)
   · rw [seeM_end (by omega)]
     rw [hw] at x3
     obtain ⟨n,hn⟩:∃ n:Nat,n=st.at' + a:=⟨_,rfl⟩
     have hwr:IntKind.i64.wrap ((st.at':Int) + (a:Int))=(n:Int):=by rw [hn];rw [IntWalk.i64_in _ (by omega)];simp
     have hge:(T.length:Int)<=(n:Int):=by omega
     generalize st.at'=at0 at *
     clear hts hw x2 f1 f2 f3 hl hn
     go_enter Tryz.func81,Tryz.ntmps81
     go_upto_region 1 with fail
     go_quiet (fail)
     go_wp2
     refine bodyPost_ret (v:=.agg #[vI 0,vE,vI 0]) (by simp [results,Tryz.results81,go_sem]) rfl ⟨rfl,?_⟩
     exact below_setA (below_setA (below_setA (below_drewA ((Below.refl _ _).alloc (Nat.le_refl _) _) nq) (Nat.le_refl _) _ _) (Nat.le_refl _) _ _) (Nat.le_refl _) _ _
 · rw [seeM_wrong hw]
   have hwb:(st.wrong != 0)=true:=by rw [bne_iff_ne];exact hw
   generalize st.wrong=e0 at *
   clear hts x2 f1 f2 f3 x0 x1
   go_enter Tryz.func81,Tryz.ntmps81
   go_upto_region 1 with fail
   go_quiet (fail)
   go_wp2
   refine bodyPost_ret (v:=.agg #[vI 0,vE,vI 0]) (by simp [results,Tryz.results81,go_sem]) rfl ⟨rfl,?_⟩
   exact below_setA (below_setA (below_setA (below_drewA ((Below.refl _ _).alloc (Nat.le_refl _) _) nq) (Nat.le_refl _) _ _) (Nat.le_refl _) _ _) (Nat.le_refl _) _ _
open Go.RowKit
theorem mark_is (s:ByteArray) (w:World):Calls Tryz.prog 82 #[vS s] w fun e w'=>e=.returned (.agg #[vI 5,vS s,vI 0])/\Below w.heap.size w w':=by
 go_enter Tryz.func82,Tryz.ntmps82
 go_wp2
 refine bodyPost_ret (v:=.agg #[vI 5,vS s,vI 0]) (by simp [results,Tryz.results82,go_sem]) rfl ⟨rfl,?_⟩
 repeat (first | exact Below.refl _ _ | refine Below.alloc ?_ (Nat.le_refl _) _)
theorem word_is (s:ByteArray) (w:World):Calls Tryz.prog 119 #[vS s] w fun e w'=>e=.returned (.agg #[vI 1,vS s,vI 0])/\Below w.heap.size w w':=by
 go_enter Tryz.func119,Tryz.ntmps119
 go_wp2
 refine bodyPost_ret (v:=.agg #[vI 1,vS s,vI 0]) (by simp [results,Tryz.results119,go_sem]) rfl ⟨rfl,?_⟩
 repeat (first | exact Below.refl _ _ | refine Below.alloc ?_ (Nat.le_refl _) _)
theorem fail_is {w:World} {pb b c:Nat} {T:List Tok} {st:Pst} (h:PaS w pb b c T st) (e0:Int) :
 Calls Tryz.prog 52 #[vP pb 0,vI e0] w fun e w'=>e=.returned (.tuple #[])/\PaS w' pb b c T (failM st e0)/\GrowA pb w w':=by
 have H:Hid (PaS w pb b c T st):=h
 obtain ⟨x0,x1,x2,x3,f1,f2,f3,hp,hb,hne,hts⟩:=h
 clear x0 x1 x2 f1 f2 hts
 unfold failM
 by_cases hw:st.wrong=0
 · rw [if_pos hw]
   rw [hw] at x3
   clear hw
   go_enter Tryz.func52,Tryz.ntmps52
   go_wp2
   first
    | (go_end0;exact ⟨rfl,H.out.setE e0,(GrowA.refl _ _).set 3 _⟩)
    | (refine bodyPost_ret (v:=.tuple #[]) (by simp [results,Tryz.results52,go_sem]) rfl ⟨rfl,H.out.setE e0,(GrowA.refl _ _).set 3 _⟩)
 · rw [if_neg hw]
   have hwb:(st.wrong == 0)=false:=by rw [beq_eq_false_iff_ne];exact hw
   generalize hq:st.wrong=q at x3 hw hwb
   go_enter Tryz.func52,Tryz.ntmps52
   go_wp2
   first
    | (go_end0;exact ⟨rfl,H.out,GrowA.refl _ _⟩)
    | (refine bodyPost_ret (v:=.tuple #[]) (by simp [results,Tryz.results52,go_sem]) rfl ⟨rfl,H.out,GrowA.refl _ _⟩)
theorem miss_is {w:World} {pb b c:Nat} {T:List Tok} {st:Pst} (h:PaS w pb b c T st) :
 Calls Tryz.prog 21 #[vP pb 0] w fun e w'=>e=.returned (.tuple #[])/\PaS w' pb b c T (missM T st)/\GrowA pb w w':=by
 have CF:Hid (∀ q e0,Calls Tryz.prog 52 #[vP pb 0,vI e0] (w.drewN q) fun e w'=>e=.returned (.tuple #[])/\PaS w' pb b c T (failM st e0)/\GrowA pb w w'):=fun q e0=>(fail_is (h.below (below_drewA (Below.refl _ _) q)) e0).mono fun e w' ⟨k1,k2,k3⟩=>⟨k1,k2,k3⟩
 obtain ⟨x0,x1,x2,x3,f1,f2,f3,hp,hb,hne,hts⟩:=h
 clear x2 x3 f1 f2 f3 hts
 unfold missM
 by_cases ha:st.at'=T.length
 · rw [if_pos ha]
   rw [ha] at x1
   clear ha
   go_enter Tryz.func21,Tryz.ntmps21
   go_upto_region 0 with fail
   go_quiet (fail)
   go_wp2_with (first | (go_at_call 52;refine (CF.out _ _).mono ?_;rintro e w1 ⟨rfl,hp1,hg1⟩))
   first
    | (go_end0;exact ⟨rfl,hp1,hg1⟩)
    | (refine bodyPost_ret (v:=.tuple #[]) (by simp [results,Tryz.results21,go_sem]) rfl ⟨rfl,hp1,hg1⟩)
 · rw [if_neg ha]
   have hab:((st.at':Int) == (T.length:Int))=false:=by rw [beq_eq_false_iff_ne];omega
   generalize st.at'=q at x1 ha hab
   go_enter Tryz.func21,Tryz.ntmps21
   go_upto_region 0 with fail
   go_quiet (fail)
   go_wp2_with (first | (go_at_call 52;refine (CF.out _ _).mono ?_;rintro e w1 ⟨rfl,hp1,hg1⟩))
   first
    | (go_end0;exact ⟨rfl,hp1,hg1⟩)
    | (refine bodyPost_ret (v:=.tuple #[]) (by simp [results,Tryz.results21,go_sem]) rfl ⟨rfl,hp1,hg1⟩)
theorem neqT {t u:Tok} (h:¬ eqT t u=true):(t.kind == u.kind)=false\/(u.kind=t.kind/\(t.s.toList == u.s.toList)=false)\/(u.kind=t.kind/\u.s=t.s/\(t.n == u.n)=false):=by
 by_cases h1:t.kind=u.kind
 · by_cases h2:t.s=u.s
   · refine .inr (.inr ⟨h1.symm,h2.symm,?_⟩)
     rw [beq_eq_false_iff_ne]
     intro h3
     exact h (by unfold eqT;rw [decide_eq_true h1,decide_eq_true h2,decide_eq_true h3];rfl)
   · refine .inr (.inl ⟨h1.symm,?_⟩)
     rw [beq_eq_false_iff_ne]
     intro h3
     rw [ByteArray.toList_eq,ByteArray.toList_eq] at h3
     apply h2
     cases ht:t.s;cases hu:u.s
     rw [ht,hu] at h3
     congr 1
     exact Array.toList_inj.1 h3
 · exact .inl (by rw [beq_eq_false_iff_ne];exact h1)
theorem skip_is {w:World} {pb b c:Nat} {T:List Tok} {st:Pst} (h:PaS w pb b c T st) (t:Tok) (hT:T.length<=200) (hat:st.at'<=300) :
 Calls Tryz.prog 85 #[vP pb 0,.agg #[vI t.kind,vS t.s,vI t.n]] w fun e w'=>e=.returned (.bool (skipM T st t).1)/\PaS w' pb b c T (skipM T st t).2/\GrowA pb w w':=by
 have HS:Hid (PaS w pb b c T st):=h
 obtain ⟨W1,hW1⟩:∃ W,W=w.alloc (.cells #[vI t.kind,vS t.s,vI t.n] 65):=⟨_,rfl⟩
 have HB1:Hid (Below w.heap.size w W1):=by rw [hW1];exact (Below.refl _ _).alloc (Nat.le_refl _) _
 have r0:W1.cell? ⟨w.heap.size,0,none⟩=some (vI t.kind):=by rw [hW1];simp
 have r1:W1.cell? ⟨w.heap.size,1,none⟩=some (vS t.s):=by rw [hW1];simp
 have r2:W1.cell? ⟨w.heap.size,2,none⟩=some (vI t.n):=by rw [hW1];simp
 have hrl:w.heap.size<W1.heap.size:=by rw [hW1];simp
 have HSS:Hid (∀ W,Below W1.heap.size W1 W->W.cell? ⟨w.heap.size,0,none⟩=some (vI t.kind)/\W.cell? ⟨w.heap.size,1,none⟩=some (vS t.s)/\W.cell? ⟨w.heap.size,2,none⟩=some (vI t.n)):=fun W hb=>⟨(hb.cell (p:=⟨w.heap.size,0,none⟩) hrl).trans r0,(hb.cell (p:=⟨w.heap.size,1,none⟩) hrl).trans r1,(hb.cell (p:=⟨w.heap.size,2,none⟩) hrl).trans r2⟩
 have CS:Hid (∀ W,Below W1.heap.size W1 W->Calls Tryz.prog 81 #[vP pb 0,vI 0] W fun e w'=>e=.returned (.agg #[vI (seeM T st 0).kind,vS (seeM T st 0).s,vI (seeM T st 0).n])/\Below W1.heap.size W1 w'):=fun W hW=>(see_is ((h.below HB1.out).below hW) 0 (by omega) hT (by omega)).mono fun e w' ⟨k1,k2⟩=>⟨k1,hW.trans (k2.mono hW.size)⟩
 unfold skipM
 generalize seeM T st 0=u at CS
 obtain ⟨uk,us,un⟩:=u
 obtain ⟨tk,ts,tn⟩:=t
 simp only at r0 r1 r2 CS HSS hW1 ⊢
 clear r0 r1 r2 h
 by_cases he:eqT ⟨uk,us,un⟩ ⟨tk,ts,tn⟩=true
 · rw [if_pos he]
   simp only [eqT,Bool.and_eq_true,decide_eq_true_eq] at he
   obtain ⟨⟨rfl,rfl⟩,rfl⟩:=he
   go_enter Tryz.func85,Tryz.ntmps85
   go_upto_region 1 with fail
   rw [<- hW1]
   clear hW1
   go_region_held3 (fun W=>W.cell? ⟨w.heap.size,0,none⟩=some (vI uk)/\W.cell? ⟨w.heap.size,1,none⟩=some (vS us)/\W.cell? ⟨w.heap.size,2,none⟩=some (vI un))
    ((refine HSS.out _ ?_;repeat (first | exact Hid.out (by assumption) | exact Below.refl _ _ | refine Below.drew ?_)))
    (first
     | (go_at_call 81;refine (CS.out _ ?_).mono ?_;(focus (repeat (first | exact Below.refl _ _ | refine Below.drew ?_)));rintro e w2 ⟨rfl,hb2⟩;have HB2:Hid (Below W1.heap.size W1 w2):=hb2;clear hb2))
   have HB3:Hid (Below w.heap.size w w2):=HB1.out.trans (HB2.out.mono HB1.out.size)
   have HP3:Hid (PaS w2 pb b c T st):=HS.out.below HB3.out
   obtain ⟨x0,x1,x2,x3,f1,f2,f3,hp,hb,hne,hts⟩:=HP3.out
   have hwr:IntKind.i64.wrap ((st.at':Int) + 1)=((st.at' + 1:Nat):Int):=by rw [IntWalk.i64_in _ (by omega)];simp
   have HF:Hid (PaS (w2.setCell ⟨pb,1,none⟩ (vI ((st.at' + 1:Nat):Int))) pb b c T { st with at':=st.at' + 1 }):=HP3.out.setA _
   generalize ((st.at' + 1:Nat):Int)=q1 at hwr HF
   clear x0 x2 x3 f2 f3 hts
   go_wp2
   go_ret
   exact ⟨rfl,HF.out,((GrowA.refl _ _).below HB3.out).set 1 _⟩
 · rw [if_neg he]
   have hd:=neqT he
   clear he
   simp only at hd
   rcases hd with hd | ⟨rfl,hd⟩ | ⟨rfl,rfl,hd⟩
   · skip
     go_enter Tryz.func85,Tryz.ntmps85
     go_upto_region 1 with fail
     rw [<- hW1]
     clear hW1
     go_region_held3 (fun W=>W.cell? ⟨w.heap.size,0,none⟩=some (vI tk)/\W.cell? ⟨w.heap.size,1,none⟩=some (vS ts)/\W.cell? ⟨w.heap.size,2,none⟩=some (vI tn))
      ((refine HSS.out _ ?_;repeat (first | exact Hid.out (by assumption) | exact Below.refl _ _ | refine Below.drew ?_)))
      (first
       | (go_at_call 81;refine (CS.out _ ?_).mono ?_;(focus (repeat (first | exact Below.refl _ _ | refine Below.drew ?_)));rintro e w2 ⟨rfl,hb2⟩;have HB2:Hid (Below W1.heap.size W1 w2):=hb2;clear hb2))
     all_goals
      have HB3:Hid (Below w.heap.size w w2):=HB1.out.trans (HB2.out.mono HB1.out.size)
      go_wp2
      go_ret
      exact ⟨rfl,HS.out.below HB3.out,(GrowA.refl _ _).below HB3.out⟩
   · skip
     go_enter Tryz.func85,Tryz.ntmps85
     go_upto_region 1 with fail
     rw [<- hW1]
     clear hW1
     go_region_held3 (fun W=>W.cell? ⟨w.heap.size,0,none⟩=some (vI tk)/\W.cell? ⟨w.heap.size,1,none⟩=some (vS ts)/\W.cell? ⟨w.heap.size,2,none⟩=some (vI tn))
      ((refine HSS.out _ ?_;repeat (first | exact Hid.out (by assumption) | exact Below.refl _ _ | refine Below.drew ?_)))
      (first
       | (go_at_call 81;refine (CS.out _ ?_).mono ?_;(focus (repeat (first | exact Below.refl _ _ | refine Below.drew ?_)));rintro e w2 ⟨rfl,hb2⟩;have HB2:Hid (Below W1.heap.size W1 w2):=hb2;clear hb2))
     all_goals
      have HB3:Hid (Below w.heap.size w w2):=HB1.out.trans (HB2.out.mono HB1.out.size)
      go_wp2
      go_ret
      exact ⟨rfl,HS.out.below HB3.out,(GrowA.refl _ _).below HB3.out⟩
   · skip
     go_enter Tryz.func85,Tryz.ntmps85
     go_upto_region 1 with fail
     rw [<- hW1]
     clear hW1
     go_region_held3 (fun W=>W.cell? ⟨w.heap.size,0,none⟩=some (vI tk)/\W.cell? ⟨w.heap.size,1,none⟩=some (vS ts)/\W.cell? ⟨w.heap.size,2,none⟩=some (vI tn))
      ((refine HSS.out _ ?_;repeat (first | exact Hid.out (by assumption) | exact Below.refl _ _ | refine Below.drew ?_)))
      (first
       | (go_at_call 81;refine (CS.out _ ?_).mono ?_;(focus (repeat (first | exact Below.refl _ _ | refine Below.drew ?_)));rintro e w2 ⟨rfl,hb2⟩;have HB2:Hid (Below W1.heap.size W1 w2):=hb2;clear hb2))
     all_goals
      have HB3:Hid (Below w.heap.size w w2):=HB1.out.trans (HB2.out.mono HB1.out.size)
      go_wp2
      go_ret
      exact ⟨rfl,HS.out.below HB3.out,(GrowA.refl _ _).below HB3.out⟩
open Go.RowKit
theorem want_is {w:World} {pb b c:Nat} {T:List Tok} {st:Pst} (h:PaS w pb b c T st) (t:Tok) (hT:T.length<=200) (hat:st.at'<=300) :
 Calls Tryz.prog 144 #[vP pb 0,.agg #[vI t.kind,vS t.s,vI t.n]] w fun e w'=>e=.returned (.tuple #[])/\PaS w' pb b c T (wantM T st t)/\GrowA pb w w':=by
 have CS:Hid (∀ o,Calls Tryz.prog 85 #[vP pb 0,.agg #[vI t.kind,vS t.s,vI t.n]] (w.alloc o) fun e w'=>e=.returned (.bool (skipM T st t).1)/\PaS w' pb b c T (skipM T st t).2/\GrowA pb w w'):=fun o=>(skip_is (h.allocI o) t hT hat).mono fun e w' ⟨k1,k2,k3⟩=>⟨k1,k2,((GrowA.refl _ _).alloc o).trans k3⟩
 unfold wantM
 generalize skipM T st t=r at CS
 obtain ⟨rb,rs⟩:=r
 obtain ⟨tk,ts,tn⟩:=t
 simp only at CS ⊢
 clear h
 cases rb
 · rw [if_neg (by decide)]
   go_enter Tryz.func144,Tryz.ntmps144
   go_wp2_with (first
    | (go_at_call 85;refine (CS.out _).mono ?_;rintro e w1 ⟨rfl,hp1,hg1⟩;have HP1:Hid (PaS w1 pb b c T rs):=hp1;have HG1:Hid (GrowA pb w w1):=hg1;clear hp1 hg1)
    | (go_at_call 21;refine (miss_is HP1.out).mono ?_;rintro e w2 ⟨rfl,hp2,hg2⟩))
   first
    | (go_end0;exact ⟨rfl,hp2,HG1.out.trans hg2⟩)
    | (refine bodyPost_ret (v:=.tuple #[]) (by simp [results,Tryz.results144,go_sem]) rfl ⟨rfl,hp2,HG1.out.trans hg2⟩)
 · rw [if_pos rfl]
   go_enter Tryz.func144,Tryz.ntmps144
   go_wp2_with (first
    | (go_at_call 85;refine (CS.out _).mono ?_;rintro e w1 ⟨rfl,hp1,hg1⟩;have HP1:Hid (PaS w1 pb b c T rs):=hp1;have HG1:Hid (GrowA pb w w1):=hg1;clear hp1 hg1))
   first
    | (go_end0;exact ⟨rfl,HP1.out,HG1.out⟩)
    | (refine bodyPost_ret (v:=.tuple #[]) (by simp [results,Tryz.results144,go_sem]) rfl ⟨rfl,HP1.out,HG1.out⟩)
def Leave (w:World) (pb q:Nat):Prop:=w.cell? ⟨q,0,none⟩=some (vP pb 0)/\q<w.heap.size/\q≠pb
theorem Leave.grow {w w':World} {pb q:Nat} (h:Leave w pb q) (hg:GrowA pb w w'):Leave w' pb q:=⟨(hg.cell h.2.1 h.2.2).trans h.1,Nat.lt_of_lt_of_le h.2.1 hg.1,h.2.2⟩
theorem failM_opn {st:Pst} {e:Int}:(failM st e).opn=st.opn:=by unfold failM;split <;> rfl
theorem missM_opn {T:List Tok} {st:Pst}:(missM T st).opn=st.opn:=by unfold missM;split <;> exact failM_opn
theorem PaS.ofO {w:World} {pb b c n:Nat} {T:List Tok} {st:Pst} (h:PaS w pb b c T st) (hn:st.opn + 1=n):PaS (w.setCell ⟨pb,2,none⟩ (vI n)) pb b c T { st with opn:=st.opn + 1 }:=by
 rw [hn];exact h.setO n
theorem penter_is {w:World} {pb b c:Nat} {T:List Tok} {st:Pst} (h:PaS w pb b c T st) (begins:Bool) (ho:st.opn<=100) :
 Calls Tryz.prog 49 #[vP pb 0,.bool begins] w fun e w'=>∃ q,e=.returned (.func (.func 80) #[] #[vP q 0])/\Leave w' pb q/\PaS w' pb b c T (enterM T st begins)/\GrowA pb w w'/\w.heap.size<=q:=by
 have hmf:∀ (fn:Fn) (first cap:Array Value) (w:World),(Instr.makeFunc fn first cap).run Tryz.prog w=.ok (.func fn first cap) w:=fun _ _ _ _=>rfl
 obtain ⟨W1,hW1⟩:∃ W,W=w.alloc (.cells #[vP pb 0] 95):=⟨_,rfl⟩
 have HB1:Hid (GrowA pb w W1):=by rw [hW1];exact (GrowA.refl _ _).alloc _
 have HP1:Hid (PaS W1 pb b c T st):=by rw [hW1];exact h.allocI _
 have HL1:Hid (Leave W1 pb w.heap.size):=by rw [hW1];exact ⟨by simp,by simp,by have:=h.pl;omega⟩
 have hq1:=HL1.out.1
 have ho1:=HP1.out.o
 have hf1:=HP1.out.fo
 have hl1:=HL1.out.2.1
 have hwr:IntKind.i64.wrap ((st.opn:Int) + 1)=((st.opn + 1:Nat):Int):=by rw [IntWalk.i64_in _ (by omega)];simp
 obtain ⟨q1,hq⟩:∃ q:Nat,q=st.opn + 1:=⟨_,rfl⟩
 rw [<- hq] at hwr
 unfold enterM
 simp only
 clear h
 by_cases h30:30<=st.opn
 · rw [if_pos h30]
   have h30i:(30:Int)<=(st.opn:Int):=by omega
   cases begins
   · rw [if_neg (by decide)]
     have C1:Hid (Calls Tryz.prog 21 #[vP pb 0] W1 fun e w'=>e=.returned (.tuple #[])/\PaS w' pb b c T (missM T st)/\GrowA pb W1 w'):=miss_is HP1.out
     have HF:Hid (∀ W,PaS W pb b c T (failM (missM T st) 8)->W.cell? ⟨pb,2,none⟩=some (vI st.opn)/\W.frozen? ⟨pb,2,none⟩=false/\PaS (W.setCell ⟨pb,2,none⟩ (vI q1)) pb b c T { failM (missM T st) 8 with opn:=(failM (missM T st) 8).opn + 1 }):=fun W h=>⟨by have:=h.o;rw [failM_opn,missM_opn] at this;exact this,h.fo,h.ofO (by rw [failM_opn,missM_opn,hq])⟩
     go_enter Tryz.func49,Tryz.ntmps49
     go_upto_region 1 with fail
     rw [<- hW1]
     clear hW1 hq
     go_wp2_with (first
      | (go_at_call 21;refine C1.out.mono ?_;rintro e w2 ⟨rfl,hp2,hg2⟩;have HP2:Hid (PaS w2 pb b c T (missM T st)):=hp2;have HG2:Hid (GrowA pb w w2):=HB1.out.trans hg2;have HL2:Hid (Leave w2 pb w.heap.size):=HL1.out.grow hg2;have hq2:=HL2.out.1;have hl2:=HL2.out.2.1;clear hp2 hg2)
      | (go_at_call 52;refine (fail_is HP2.out 8).mono ?_;rintro e w3 ⟨rfl,hp3,hg3⟩;have HG3:Hid (GrowA pb w w3):=HG2.out.trans hg3;have HL3:Hid (Leave w3 pb w.heap.size):=HL2.out.grow hg3;have hq3:=HL3.out.1;have hl3:=HL3.out.2.1;obtain ⟨ho3,hf3,hx3⟩:=HF.out _ hp3;have HX3:Hid (PaS (w3.setCell ⟨pb,2,none⟩ (vI q1)) pb b c T { failM (missM T st) 8 with opn:=(failM (missM T st) 8).opn + 1 }):=hx3;clear hp3 hg3 hx3))
     go_ret
     exact ⟨w.heap.size,rfl,HL3.out.grow ((GrowA.refl _ _).set 2 _),HX3.out,HG3.out.set 2 _,Nat.le_refl _⟩
   · rw [if_pos rfl]
     have HF:Hid (∀ W,PaS W pb b c T (failM st 8)->W.cell? ⟨pb,2,none⟩=some (vI st.opn)/\W.frozen? ⟨pb,2,none⟩=false/\PaS (W.setCell ⟨pb,2,none⟩ (vI q1)) pb b c T { failM st 8 with opn:=(failM st 8).opn + 1 }):=fun W h=>⟨by have:=h.o;rw [failM_opn] at this;exact this,h.fo,h.ofO (by rw [failM_opn,hq])⟩
     go_enter Tryz.func49,Tryz.ntmps49
     go_upto_region 1 with fail
     rw [<- hW1]
     clear hW1 hq
     go_wp2_with (first
      | (go_at_call 52;refine (fail_is HP1.out 8).mono ?_;rintro e w3 ⟨rfl,hp3,hg3⟩;have HG3:Hid (GrowA pb w w3):=HB1.out.trans hg3;have HL3:Hid (Leave w3 pb w.heap.size):=HL1.out.grow hg3;have hq3:=HL3.out.1;have hl3:=HL3.out.2.1;obtain ⟨ho3,hf3,hx3⟩:=HF.out _ hp3;have HX3:Hid (PaS (w3.setCell ⟨pb,2,none⟩ (vI q1)) pb b c T { failM st 8 with opn:=(failM st 8).opn + 1 }):=hx3;clear hp3 hg3 hx3))
     go_ret
     exact ⟨w.heap.size,rfl,HL3.out.grow ((GrowA.refl _ _).set 2 _),HX3.out,HG3.out.set 2 _,Nat.le_refl _⟩
 · rw [if_neg h30]
   have h30i:¬ (30:Int)<=(st.opn:Int):=by omega
   have HX:Hid (PaS (W1.setCell ⟨pb,2,none⟩ (vI q1)) pb b c T { st with opn:=st.opn + 1 }):=HP1.out.ofO hq.symm
   go_enter Tryz.func49,Tryz.ntmps49
   go_upto_region 1 with fail
   rw [<- hW1]
   clear hW1 hq
   go_wp2
   go_ret
   exact ⟨w.heap.size,rfl,HL1.out.grow ((GrowA.refl _ _).set 2 _),HX.out,HB1.out.set 2 _,Nat.le_refl _⟩
open Go.RowKit
def PhV (v:Value):Prop:=∃ (k0 k1 k2 k5 k6 k7:Int) (s3 s4 s8:ByteArray) (a9 a10:Option Addr) (l9 c9 l10 c10:Nat),v=.agg (pA k0 k1 k2 s3 s4 k5 k6 k7 s8 a9 l9 c9 a10 l10 c10)
theorem PhV.mk {k0 k1 k2 k5 k6 k7:Int} {s3 s4 s8:ByteArray} {a9 a10:Option Addr} {l9 c9 l10 c10:Nat}:PhV (.agg (pA k0 k1 k2 s3 s4 k5 k6 k7 s8 a9 l9 c9 a10 l10 c10)):=⟨k0,k1,k2,k5,k6,k7,s3,s4,s8,a9,a10,l9,c9,l10,c10,rfl⟩
def PhB (w:World) (r:Nat) (v:Array Value):Prop:=w.heap[r]?=some (.cells v 44)
abbrev PhZ (w:World) (r:Nat):Prop:=PhB w r (pZA 0)
theorem PhB.lt {w:World} {r:Nat} {v:Array Value} (h:PhB w r v):r<w.heap.size:=(gI h).1
theorem PhB.cells {w:World} {r:Nat} {k0 k1 k2 k5 k6 k7:Int} {s3 s4 s8:ByteArray} {a9 a10:Option Addr} {l9 c9 l10 c10:Nat} (h:PhB w r (pA k0 k1 k2 s3 s4 k5 k6 k7 s8 a9 l9 c9 a10 l10 c10)):(w.cell? ⟨r,0,none⟩=some (vI k0)/\w.cell? ⟨r,1,none⟩=some (vI k1)/\w.cell? ⟨r,2,none⟩=some (vI k2)/\w.cell? ⟨r,3,none⟩=some (vS s3)/\w.cell? ⟨r,4,none⟩=some (vS s4)/\w.cell? ⟨r,5,none⟩=some (vI k5)/\w.cell? ⟨r,6,none⟩=some (vI k6)/\w.cell? ⟨r,7,none⟩=some (vI k7)/\w.cell? ⟨r,8,none⟩=some (vS s8)/\w.cell? ⟨r,9,none⟩=some (.slice a9 l9 c9)/\w.cell? ⟨r,10,none⟩=some (.slice a10 l10 c10))/\w.frozen? ⟨r,0,none⟩=false/\w.frozen? ⟨r,1,none⟩=false/\w.frozen? ⟨r,2,none⟩=false/\w.frozen? ⟨r,3,none⟩=false/\w.frozen? ⟨r,4,none⟩=false/\w.frozen? ⟨r,5,none⟩=false/\w.frozen? ⟨r,6,none⟩=false/\w.frozen? ⟨r,7,none⟩=false/\w.frozen? ⟨r,8,none⟩=false/\w.frozen? ⟨r,9,none⟩=false/\w.frozen? ⟨r,10,none⟩=false:=by
 unfold PhB at h
 refine ⟨⟨?_,?_,?_,?_,?_,?_,?_,?_,?_,?_,?_⟩,⟨?_,?_,?_,?_,?_,?_,?_,?_,?_,?_,?_⟩⟩ <;> simp [World.cell?,World.frozen?,h]
theorem PhB.new (w:World) (v:Array Value):PhB (w.alloc (.cells v 44)) w.heap.size v:=heap_alloc_new _ _
theorem PhB.grow {w w':World} {pb r:Nat} {v:Array Value} (h:PhB w r v) (hg:GrowA pb w w') (hr:r≠pb):PhB w' r v:=(hg.2.2.2.2 r h.lt hr).trans h
theorem PhB.below {w w':World} {r:Nat} {v:Array Value} (h:PhB w r v) (hb:Below w.heap.size w w'):PhB w' r v:=(hb.block r h.lt).trans h
theorem PhB.allocI {w:World} {r:Nat} {v:Array Value} (h:PhB w r v) (o:Obj):PhB (w.alloc o) r v:=h.below ((Below.refl _ _).alloc (Nat.le_refl _) o)
theorem Leave.allocI {w:World} {pb q:Nat} (h:Leave w pb q) (o:Obj):Leave (w.alloc o) pb q:=h.grow ((GrowA.refl _ _).alloc o)
theorem Leave.below {w w':World} {pb q:Nat} (h:Leave w pb q) (hb:Below w.heap.size w w'):Leave w' pb q:=h.grow ((GrowA.refl _ _).below hb)
theorem GrowA.setR {pb:Nat} {w wr:World} (h:GrowA pb w wr) {r:Nat} (hr:w.heap.size<=r) (t:Nat) (u:Value):GrowA pb w (wr.setCell ⟨r,t,none⟩ u):=⟨by simpa using h.1,h.2.1,h.2.2.1,h.2.2.2.1,fun b h1 h2=>(Below.heap_setCell _ _ _ _ (by simp;omega)).trans (h.2.2.2.2 b h1 h2)⟩
theorem Leave.setR {w:World} {pb q r:Nat} (h:Leave w pb q) (hr:r≠q) (t:Nat) (u:Value):Leave (w.setCell ⟨r,t,none⟩ u) pb q:=⟨(World.cell?_of_block (a:=⟨q,0,none⟩) (Below.heap_setCell _ _ _ _ (by simpa using Ne.symm hr))).trans h.1,by simpa using h.2.1,h.2.2⟩
theorem PaS.setR {w:World} {pb b c:Nat} {T:List Tok} {st:Pst} (h:PaS w pb b c T st) {r:Nat} (hp:r≠pb) (hb:r≠b) (t:Nat) (u:Value):PaS (w.setCell ⟨r,t,none⟩ u) pb b c T st:=by
 have k:∀ x,x≠r->(w.setCell ⟨r,t,none⟩ u).heap[x]?=w.heap[x]?:=fun x hx=>Below.heap_setCell _ _ _ _ (by simpa using hx)
 have kp:=k pb (Ne.symm hp)
 have kb:=k b (Ne.symm hb)
 exact ⟨(World.cell?_of_block (a:=⟨pb,0,none⟩) kp).trans h.l,(World.cell?_of_block (a:=⟨pb,1,none⟩) kp).trans h.a,(World.cell?_of_block (a:=⟨pb,2,none⟩) kp).trans h.o,(World.cell?_of_block (a:=⟨pb,3,none⟩) kp).trans h.e,(World.frozen?_of_block (a:=⟨pb,1,none⟩) kp).trans h.fa,(World.frozen?_of_block (a:=⟨pb,2,none⟩) kp).trans h.fo,(World.frozen?_of_block (a:=⟨pb,3,none⟩) kp).trans h.fe,by simpa using h.pl,by simpa using h.bl,h.ne,fun i hi=>by
  obtain ⟨h1,h2,h3⟩:=h.ts i hi
  exact ⟨(World.cell?_of_block (a:=⟨b,_,none⟩) kb).trans h1,(World.cell?_of_block (a:=⟨b,_,none⟩) kb).trans h2,(World.cell?_of_block (a:=⟨b,_,none⟩) kb).trans h3⟩⟩
theorem see_lit {w:World} {pb b c:Nat} {T:List Tok} {st:Pst} (h:PaS w pb b c T st) (a:Nat) (ha:a<=2) (hT:T.length<=200) (hat:st.at'<=300) {k:Int} {s:ByteArray} {n:Int} (hs:seeM T st a=⟨k,s,n⟩) :
 Calls Tryz.prog 81 #[vP pb 0,vI a] w fun e w'=>e=.returned (.agg #[vI k,vS s,vI n])/\Below w.heap.size w w':=by
 have:=see_is h a ha hT (by omega)
 rw [hs] at this
 exact this
theorem skip_no {w:World} {pb b c:Nat} {T:List Tok} {st:Pst} (h:PaS w pb b c T st) (hT:T.length<=200) (hat:st.at'<=300) (k:Int) (s:ByteArray) (n:Int) (hs:eqT (seeM T st 0) ⟨k,s,n⟩=false) :
 Calls Tryz.prog 85 #[vP pb 0,.agg #[vI k,vS s,vI n]] w fun e w'=>e=.returned (.bool false)/\PaS w' pb b c T st/\GrowA pb w w':=by
 have:=skip_is h ⟨k,s,n⟩ hT hat
 unfold skipM at this
 rw [if_neg (by rw [hs];decide)] at this
 exact this
theorem skip_yes {w:World} {pb b c:Nat} {T:List Tok} {st:Pst} (h:PaS w pb b c T st) (hT:T.length<=200) (hat:st.at'<=300) (k:Int) (s:ByteArray) (n:Int) (hs:eqT (seeM T st 0) ⟨k,s,n⟩=true) :
 Calls Tryz.prog 85 #[vP pb 0,.agg #[vI k,vS s,vI n]] w fun e w'=>e=.returned (.bool true)/\PaS w' pb b c T { st with at':=st.at' + 1 }/\GrowA pb w w':=by
 have:=skip_is h ⟨k,s,n⟩ hT hat
 unfold skipM at this
 rw [if_pos hs] at this
 exact this
theorem pleave_is {w:World} {pb q b c:Nat} {T:List Tok} {st:Pst} (h:PaS w pb b c T st) (hl:Leave w pb q) (ho:1<=st.opn/\st.opn<=200) (u:FrameMode) :
 CallsD Tryz.prog 80 #[vP q 0] u w fun e u' w'=>u'=u/\(e=.returned (.tuple #[])/\PaS w' pb b c T { st with opn:=st.opn - 1 }/\GrowA pb w w'):=by
 have x2:=h.o
 have f2:=h.fo
 have hq:=hl.1
 have hwr:IntKind.i64.wrap ((st.opn:Int) - 1)=((st.opn - 1:Nat):Int):=by rw [IntWalk.i64_in _ (by omega)];omega
 have HF:Hid (PaS (w.setCell ⟨pb,2,none⟩ (vI ((st.opn - 1:Nat):Int))) pb b c T { st with opn:=st.opn - 1 }):=h.setO _
 generalize ((st.opn - 1:Nat):Int)=q1 at hwr HF
 clear h hl
 go_enter_d Tryz.func80,Tryz.ntmps80
 go_wp2
 go_end0
 exact ⟨rfl,HF.out,(GrowA.refl _ _).set 2 _⟩
open Go.RowKit
inductive Ph where
 | no
 | mk (k:Int) (it:It) (nm:ByteArray) (n ax tk:Int) (tn:ByteArray) (na:Nat) (A:Nat->Ph) (nc:Nat) (CK:Nat->Int) (CN CA:Nat->ByteArray) (CD:Nat->Bool) (CE:Nat->Ph)
def phL (k:Int) (it:It) (nm:ByteArray) (n ax tk:Int) (tn:ByteArray) (av cv:Value):List Value:=[vI k,vI it.kind,vI it.n,vS it.s,vS nm,vI n,vI ax,vI tk,vS tn,av,cv]
def cAt (w:World) (g o:Nat) (vs:List Value):Prop:=∀ (j:Nat) (h:j<vs.length),w.cell? ⟨g,o + j,none⟩=some vs[j]
theorem cAt.keep {w w':World} {g o:Nat} {vs:List Value} (h:cAt w g o vs) (hk:w'.heap[g]?=w.heap[g]?):cAt w' g o vs:=fun j hj=>(World.cell?_of_block (a:=⟨g,_,none⟩) hk).trans (h j hj)
def Ph.V (w:World) (S:Nat->Prop):Ph->List Value->Prop
 | .no,_=>False
 | .mk k it nm n ax tk tn na A nc CK CN CA CD CE,v=>∃ a9 c9 a10 c10,v=phL k it nm n ax tk tn (.slice a9 na c9) (.slice a10 nc c10)/\na<=c9/\nc<=c10/\c9<=maxLen/\c10<=maxLen
 /\(0<na->∃ g o,a9=some ⟨g,o,none⟩/\S g/\∀ i,i<na->∃ u,cAt w g (o + i * 11) u/\(A i).V w S u)
 /\(0<nc->∃ g o,a10=some ⟨g,o,none⟩/\S g/\∀ i,i<nc->∃ u,cAt w g (o + i * 15) ([vI (CK i),vS (CN i),vS (CA i),.bool (CD i)] ++ u)/\(CE i).V w S u)
theorem Ph.V.keep {w w':World} {S S':Nat->Prop} (hS:∀ b,S b->S' b) (hk:∀ b,S b->w'.heap[b]?=w.heap[b]?):∀ {p:Ph} {v:List Value},p.V w S v->p.V w' S' v:=by
 intro p
 induction p with
 | no=>intro v h;exact h
 | mk k it nm n ax tk tn na A nc CK CN CA CD CE ihA ihC =>
  intro v h
  obtain ⟨a9,c9,a10,c10,h1,h2,h3,h4,h5,h6,h7⟩:=h
  refine ⟨a9,c9,a10,c10,h1,h2,h3,h4,h5,fun hn=>?_,fun hn=>?_⟩
  · obtain ⟨g,o,q1,q2,q3⟩:=h6 hn
    refine ⟨g,o,q1,hS _ q2,fun i hi=>?_⟩
    obtain ⟨u,r1,r2⟩:=q3 i hi
    exact ⟨u,r1.keep (hk g q2),ihA i r2⟩
  · obtain ⟨g,o,q1,q2,q3⟩:=h7 hn
    refine ⟨g,o,q1,hS _ q2,fun i hi=>?_⟩
    obtain ⟨u,r1,r2⟩:=q3 i hi
    exact ⟨u,r1.keep (hk g q2),ihC i r2⟩
def Tre (w:World) (lo:Nat) (p:Ph) (v:List Value):Prop:=p.V w (fun b=>lo<=b/\b<w.heap.size) v
theorem Tre.grow {w w':World} {pb lo:Nat} {p:Ph} {v:List Value} (h:Tre w lo p v) (hg:GrowA pb w w') (hp:pb<lo):Tre w' lo p v :=
 Ph.V.keep (fun b hb=>⟨hb.1,Nat.lt_of_lt_of_le hb.2 hg.1⟩) (fun b hb=>hg.2.2.2.2 b hb.2 (by omega)) h
theorem Tre.below {w w':World} {lo:Nat} {p:Ph} {v:List Value} (h:Tre w lo p v) (hb:Below w.heap.size w w'):Tre w' lo p v :=
 Ph.V.keep (fun b h1=>⟨h1.1,Nat.lt_of_lt_of_le h1.2 hb.size⟩) (fun b h1=>hb.block b h1.2) h
theorem Tre.allocI {w:World} {lo:Nat} {p:Ph} {v:List Value} (h:Tre w lo p v) (o:Obj):Tre (w.alloc o) lo p v:=h.below ((Below.refl _ _).alloc (Nat.le_refl _) o)
theorem Tre.setR {w:World} {lo r:Nat} {p:Ph} {v:List Value} (h:Tre w lo p v) (hr:r<lo) (t:Nat) (u:Value):Tre (w.setCell ⟨r,t,none⟩ u) lo p v :=
 Ph.V.keep (fun b h1=>⟨h1.1,by simpa using h1.2⟩) (fun b h1=>Below.heap_setCell _ _ _ _ (by simp;omega)) h
theorem Tre.mono {w:World} {lo lo':Nat} {p:Ph} {v:List Value} (h:Tre w lo p v) (hl:lo'<=lo):Tre w lo' p v:=Ph.V.keep (fun b h1=>⟨Nat.le_trans hl h1.1,h1.2⟩) (fun _ _=>rfl) h
theorem Ph.V.form {w:World} {S:Nat->Prop} {p:Ph} {v:List Value} (h:p.V w S v):∃ (k0 k1 k2 k5 k6 k7:Int) (s3 s4 s8:ByteArray) (a9 a10:Option Addr) (l9 c9 l10 c10:Nat),v=(pL k0 k1 k2 s3 s4 k5 k6 k7 s8 a9 l9 c9 a10 l10 c10):=by
 cases p with
 | no=>exact h.elim
 | mk k it nm n ax tk tn na A nc CK CN CA CD CE =>
  obtain ⟨a9,c9,a10,c10,h1,_⟩:=h
  exact ⟨k,it.kind,it.n,n,ax,tk,it.s,nm,tn,a9,a10,na,c9,nc,c10,h1⟩
theorem Tre.form {w:World} {lo:Nat} {p:Ph} {v:List Value} (h:Tre w lo p v):∃ (k0 k1 k2 k5 k6 k7:Int) (s3 s4 s8:ByteArray) (a9 a10:Option Addr) (l9 c9 l10 c10:Nat),v=(pL k0 k1 k2 s3 s4 k5 k6 k7 s8 a9 l9 c9 a10 l10 c10):=Ph.V.form h
def ph0 (k:Int) (it:It) (nm:ByteArray) (n ax tk:Int) (tn:ByteArray):Ph:=.mk k it nm n ax tk tn 0 (fun _=>.no) 0 (fun _=>0) (fun _=>⟨#[]⟩) (fun _=>⟨#[]⟩) (fun _=>false) (fun _=>.no)
theorem tre_ph0 {w:World} {lo:Nat} {k:Int} {it:It} {nm:ByteArray} {n ax tk:Int} {tn:ByteArray}:Tre w lo (ph0 k it nm n ax tk tn) (phL k it nm n ax tk tn (vN) (vN)) :=
 ⟨none,0,none,0,rfl,Nat.le_refl _,Nat.le_refl _,by decide,by decide,fun h=>absurd h (by decide),fun h=>absurd h (by decide)⟩
def phN (k:Int) (it:It) (nm:ByteArray) (n ax tk:Int) (tn:ByteArray) (na:Nat) (A:Nat->Ph):Ph:=.mk k it nm n ax tk tn na A 0 (fun _=>0) (fun _=>⟨#[]⟩) (fun _=>⟨#[]⟩) (fun _=>false) (fun _=>.no)
def Phs (w:World) (lo:Nat) (na:Nat) (A:Nat->Ph) (v:Value):Prop:=∃ a c,v=.slice a na c/\na<=c/\c<=maxLen/\(0<na->∃ g,a=some ⟨g,0,none⟩/\(lo<=g/\g<w.heap.size)/\∀ i,i<na->∃ u,cAt w g (i * 11) u/\Tre w lo (A i) u)
theorem Phs.form {w:World} {lo na:Nat} {A:Nat->Ph} {v:Value} (h:Phs w lo na A v):∃ a c,v=.slice a na c:=by obtain ⟨a,c,h1,_⟩:=h;exact ⟨a,c,h1⟩
theorem Phs.grow {w w':World} {pb lo na:Nat} {A:Nat->Ph} {v:Value} (h:Phs w lo na A v) (hg:GrowA pb w w') (hp:pb<lo):Phs w' lo na A v:=by
 obtain ⟨a,c,h1,h2,h2',h3⟩:=h
 refine ⟨a,c,h1,h2,h2',fun hn=>?_⟩
 obtain ⟨g,q1,q2,q3⟩:=h3 hn
 refine ⟨g,q1,⟨q2.1,Nat.lt_of_lt_of_le q2.2 hg.1⟩,fun i hi=>?_⟩
 obtain ⟨u,r1,r2⟩:=q3 i hi
 exact ⟨u,r1.keep (hg.2.2.2.2 g q2.2 (by omega)),r2.grow hg hp⟩
theorem Phs.mono {w:World} {lo lo' na:Nat} {A:Nat->Ph} {v:Value} (h:Phs w lo na A v) (hl:lo'<=lo):Phs w lo' na A v:=by
 obtain ⟨a,c,h1,h2,h2',h3⟩:=h
 refine ⟨a,c,h1,h2,h2',fun hn=>?_⟩
 obtain ⟨g,q1,q2,q3⟩:=h3 hn
 refine ⟨g,q1,⟨Nat.le_trans hl q2.1,q2.2⟩,fun i hi=>?_⟩
 obtain ⟨u,r1,r2⟩:=q3 i hi
 exact ⟨u,r1,r2.mono hl⟩
theorem Phs.setR {w:World} {lo na r:Nat} {A:Nat->Ph} {v:Value} (h:Phs w lo na A v) (hr:r<lo) (t:Nat) (x:Value):Phs (w.setCell ⟨r,t,none⟩ x) lo na A v:=by
 obtain ⟨a,c,h1,h2,h2',h3⟩:=h
 refine ⟨a,c,h1,h2,h2',fun hn=>?_⟩
 obtain ⟨g,q1,q2,q3⟩:=h3 hn
 refine ⟨g,q1,⟨q2.1,by simpa using q2.2⟩,fun i hi=>?_⟩
 obtain ⟨u,r1,r2⟩:=q3 i hi
 exact ⟨u,r1.keep (Below.heap_setCell _ _ _ _ (by simp;omega)),r2.setR hr t x⟩
theorem Phs.allocI {w:World} {lo na:Nat} {A:Nat->Ph} {v:Value} (h:Phs w lo na A v) (o:Obj):Phs (w.alloc o) lo na A v:=by
 obtain ⟨a,c,h1,h2,h2',h3⟩:=h
 refine ⟨a,c,h1,h2,h2',fun hn=>?_⟩
 obtain ⟨g,q1,q2,q3⟩:=h3 hn
 refine ⟨g,q1,⟨q2.1,by simp;omega⟩,fun i hi=>?_⟩
 obtain ⟨u,r1,r2⟩:=q3 i hi
 exact ⟨u,r1.keep (Below.heap_alloc _ _ _ q2.2),r2.allocI o⟩
theorem Phs.tre {w:World} {lo na:Nat} {A:Nat->Ph} {v:Value} (h:Phs w lo na A v) {k:Int} {it:It} {nm:ByteArray} {n ax tk:Int} {tn:ByteArray}:Tre w lo (phN k it nm n ax tk tn na A) (phL k it nm n ax tk tn v (vN)):=by
 obtain ⟨a,c,h1,h2,h2',h3⟩:=h
 subst h1
 refine ⟨a,c,none,0,rfl,h2,Nat.le_refl _,h2',by decide,fun hn=>?_,fun h=>absurd h (by decide)⟩
 obtain ⟨g,q1,q2,q3⟩:=h3 hn
 refine ⟨g,0,q1,q2,fun i hi=>?_⟩
 obtain ⟨u,r1,r2⟩:=q3 i hi
 rw [Nat.zero_add]
 exact ⟨u,r1,r2⟩
theorem phs_one {w:World} {lo g:Nat} {p:Ph} {u:List Value} {T:TypeId} (h:w.heap[g]?=some (.cells u.toArray T)) (hg:lo<=g) (hp:Tre w lo p u) (hu:u.length=11):Phs w lo 1 (fun _=>p) (vL g 0 1 1):=by
 refine ⟨_,_,rfl,Nat.le_refl _,by decide,fun _=>⟨g,rfl,⟨hg,(gI h).1⟩,fun i hi=>⟨u,fun j hj=>?_,hp⟩⟩⟩
 have hi0:i=0:=by omega
 subst hi0
 simp only [Nat.zero_mul,Nat.zero_add]
 simp [World.cell?,h,hj]
open Go.RowKit
theorem HidOf {p:Prop} (h:p):Hid p:=h
theorem field_kind (k n:Int) (s:ByteArray) (W:World):Sem.run Tryz.prog (Instr.field 65 (.agg #[vI k,vS s,vI n]) 0) W=.ok (vI k) W:=by
 first
  | rfl
  | simp [Instr.field,run_underlying Tryz.underlying65,go_sem]
theorem toL_eq {x y:ByteArray}:(x.toList == y.toList)=decide (x=y):=by
 by_cases h:x=y
 · subst h;simp
 · rw [decide_eq_false h,beq_eq_false_iff_ne]
   intro h'
   rw [ByteArray.toList_eq,ByteArray.toList_eq] at h'
   apply h
   cases x;cases y
   congr 1
   exact Array.toList_inj.1 h'
def stepB (u:Tok):Bool:=u.kind == 1 || u.kind == 2 || u.kind == 3 || u.kind == 4 || (u.kind == 5 && (u.s.toList == [46,46] || u.s.toList == [46] || u.s.toList == [64] || u.s.toList == [42] || u.s.toList == [40]))
theorem stepBegins_k1 {w:World} {pb b c:Nat} {T:List Tok} {st:Pst} (h:PaS w pb b c T st) (hT:T.length<=200) (hat:st.at'<=300) {us:ByteArray} {uk un:Int} (hu:seeM T st 0=⟨1,us,un⟩) :
 Calls Tryz.prog 83 #[vP pb 0] w fun e w'=>e=.returned (.bool true)/\Below w.heap.size w w':=by
 have CS:Hid (∀ W,Below w.heap.size w W->Calls Tryz.prog 81 #[vP pb 0,vI 0] W fun e w'=>e=.returned (.agg #[vI 1,vS us,vI un])/\Below w.heap.size w w'):=fun W hW=>(see_lit (h.below hW) 0 (by omega) hT hat hu).mono fun e w' ⟨k1,k2⟩=>⟨k1,hW.trans (k2.mono hW.size)⟩
 have HB0:Hid (Below w.heap.size w w):=Below.refl _ _
 clear h
 go_enter Tryz.func83,Tryz.ntmps83
 go_wp2_with (first
  | (go_at_call 81;have HNX:=HB0;(refine (CS.out _ HB0.out).mono ?_);rintro e w1 ⟨rfl,hb⟩;have HB1:Hid (Below w.heap.size w w1):=hb;clear hb HNX HB0))
 go_ret
 exact ⟨rfl,by first | exact HB1.out | exact HB1.out.alloc HB1.out.size _⟩
theorem stepBegins_k2 {w:World} {pb b c:Nat} {T:List Tok} {st:Pst} (h:PaS w pb b c T st) (hT:T.length<=200) (hat:st.at'<=300) {us:ByteArray} {uk un:Int} (hu:seeM T st 0=⟨2,us,un⟩) :
 Calls Tryz.prog 83 #[vP pb 0] w fun e w'=>e=.returned (.bool true)/\Below w.heap.size w w':=by
 have CS:Hid (∀ W,Below w.heap.size w W->Calls Tryz.prog 81 #[vP pb 0,vI 0] W fun e w'=>e=.returned (.agg #[vI 2,vS us,vI un])/\Below w.heap.size w w'):=fun W hW=>(see_lit (h.below hW) 0 (by omega) hT hat hu).mono fun e w' ⟨k1,k2⟩=>⟨k1,hW.trans (k2.mono hW.size)⟩
 have HB0:Hid (Below w.heap.size w w):=Below.refl _ _
 clear h
 go_enter Tryz.func83,Tryz.ntmps83
 go_wp2_with (first
  | (go_at_call 81;have HNX:=HB0;(refine (CS.out _ HB0.out).mono ?_);rintro e w1 ⟨rfl,hb⟩;have HB1:Hid (Below w.heap.size w w1):=hb;clear hb HNX HB0))
 go_ret
 exact ⟨rfl,by first | exact HB1.out | exact HB1.out.alloc HB1.out.size _⟩
theorem stepBegins_k3 {w:World} {pb b c:Nat} {T:List Tok} {st:Pst} (h:PaS w pb b c T st) (hT:T.length<=200) (hat:st.at'<=300) {us:ByteArray} {uk un:Int} (hu:seeM T st 0=⟨3,us,un⟩) :
 Calls Tryz.prog 83 #[vP pb 0] w fun e w'=>e=.returned (.bool true)/\Below w.heap.size w w':=by
 have CS:Hid (∀ W,Below w.heap.size w W->Calls Tryz.prog 81 #[vP pb 0,vI 0] W fun e w'=>e=.returned (.agg #[vI 3,vS us,vI un])/\Below w.heap.size w w'):=fun W hW=>(see_lit (h.below hW) 0 (by omega) hT hat hu).mono fun e w' ⟨k1,k2⟩=>⟨k1,hW.trans (k2.mono hW.size)⟩
 have HB0:Hid (Below w.heap.size w w):=Below.refl _ _
 clear h
 go_enter Tryz.func83,Tryz.ntmps83
 go_wp2_with (first
  | (go_at_call 81;have HNX:=HB0;(refine (CS.out _ HB0.out).mono ?_);rintro e w1 ⟨rfl,hb⟩;have HB1:Hid (Below w.heap.size w w1):=hb;clear hb HNX HB0))
 go_ret
 exact ⟨rfl,by first | exact HB1.out | exact HB1.out.alloc HB1.out.size _⟩
theorem stepBegins_k4 {w:World} {pb b c:Nat} {T:List Tok} {st:Pst} (h:PaS w pb b c T st) (hT:T.length<=200) (hat:st.at'<=300) {us:ByteArray} {uk un:Int} (hu:seeM T st 0=⟨4,us,un⟩) :
 Calls Tryz.prog 83 #[vP pb 0] w fun e w'=>e=.returned (.bool true)/\Below w.heap.size w w':=by
 have CS:Hid (∀ W,Below w.heap.size w W->Calls Tryz.prog 81 #[vP pb 0,vI 0] W fun e w'=>e=.returned (.agg #[vI 4,vS us,vI un])/\Below w.heap.size w w'):=fun W hW=>(see_lit (h.below hW) 0 (by omega) hT hat hu).mono fun e w' ⟨k1,k2⟩=>⟨k1,hW.trans (k2.mono hW.size)⟩
 have HB0:Hid (Below w.heap.size w w):=Below.refl _ _
 clear h
 go_enter Tryz.func83,Tryz.ntmps83
 go_wp2_with (first
  | (go_at_call 81;have HNX:=HB0;(refine (CS.out _ HB0.out).mono ?_);rintro e w1 ⟨rfl,hb⟩;have HB1:Hid (Below w.heap.size w w1):=hb;clear hb HNX HB0))
 go_ret
 exact ⟨rfl,by first | exact HB1.out | exact HB1.out.alloc HB1.out.size _⟩
theorem stepBegins_m0 {w:World} {pb b c:Nat} {T:List Tok} {st:Pst} (h:PaS w pb b c T st) (hT:T.length<=200) (hat:st.at'<=300) {us:ByteArray} {uk un:Int} (hu:seeM T st 0=⟨5,us,un⟩) (y:(us.toList == [46,46])=true) :
 Calls Tryz.prog 83 #[vP pb 0] w fun e w'=>e=.returned (.bool true)/\Below w.heap.size w w':=by
 have CS:Hid (∀ W,Below w.heap.size w W->Calls Tryz.prog 81 #[vP pb 0,vI 0] W fun e w'=>e=.returned (.agg #[vI 5,vS us,vI un])/\Below w.heap.size w w'):=fun W hW=>(see_lit (h.below hW) 0 (by omega) hT hat hu).mono fun e w' ⟨k1,k2⟩=>⟨k1,hW.trans (k2.mono hW.size)⟩
 have HB0:Hid (Below w.heap.size w w):=Below.refl _ _
 clear h
 go_enter Tryz.func83,Tryz.ntmps83
 go_wp2_with (first
  | (go_at_call 81;have HNX:=HB0;(refine (CS.out _ HB0.out).mono ?_);rintro e w1 ⟨rfl,hb⟩;have HB1:Hid (Below w.heap.size w w1):=hb;clear hb HNX HB0))
 go_ret
 exact ⟨rfl,by first | exact HB1.out | exact HB1.out.alloc HB1.out.size _⟩
theorem stepBegins_m1 {w:World} {pb b c:Nat} {T:List Tok} {st:Pst} (h:PaS w pb b c T st) (hT:T.length<=200) (hat:st.at'<=300) {us:ByteArray} {uk un:Int} (hu:seeM T st 0=⟨5,us,un⟩) (n0:(us.toList == [46,46])=false) (y:(us.toList == [46])=true) :
 Calls Tryz.prog 83 #[vP pb 0] w fun e w'=>e=.returned (.bool true)/\Below w.heap.size w w':=by
 have CS:Hid (∀ W,Below w.heap.size w W->Calls Tryz.prog 81 #[vP pb 0,vI 0] W fun e w'=>e=.returned (.agg #[vI 5,vS us,vI un])/\Below w.heap.size w w'):=fun W hW=>(see_lit (h.below hW) 0 (by omega) hT hat hu).mono fun e w' ⟨k1,k2⟩=>⟨k1,hW.trans (k2.mono hW.size)⟩
 have HB0:Hid (Below w.heap.size w w):=Below.refl _ _
 clear h
 go_enter Tryz.func83,Tryz.ntmps83
 go_wp2_with (first
  | (go_at_call 81;have HNX:=HB0;(refine (CS.out _ HB0.out).mono ?_);rintro e w1 ⟨rfl,hb⟩;have HB1:Hid (Below w.heap.size w w1):=hb;clear hb HNX HB0))
 go_ret
 exact ⟨rfl,by first | exact HB1.out | exact HB1.out.alloc HB1.out.size _⟩
theorem stepBegins_m2 {w:World} {pb b c:Nat} {T:List Tok} {st:Pst} (h:PaS w pb b c T st) (hT:T.length<=200) (hat:st.at'<=300) {us:ByteArray} {uk un:Int} (hu:seeM T st 0=⟨5,us,un⟩) (n0:(us.toList == [46,46])=false) (n1:(us.toList == [46])=false) (y:(us.toList == [64])=true) :
 Calls Tryz.prog 83 #[vP pb 0] w fun e w'=>e=.returned (.bool true)/\Below w.heap.size w w':=by
 have CS:Hid (∀ W,Below w.heap.size w W->Calls Tryz.prog 81 #[vP pb 0,vI 0] W fun e w'=>e=.returned (.agg #[vI 5,vS us,vI un])/\Below w.heap.size w w'):=fun W hW=>(see_lit (h.below hW) 0 (by omega) hT hat hu).mono fun e w' ⟨k1,k2⟩=>⟨k1,hW.trans (k2.mono hW.size)⟩
 have HB0:Hid (Below w.heap.size w w):=Below.refl _ _
 clear h
 go_enter Tryz.func83,Tryz.ntmps83
 go_wp2_with (first
  | (go_at_call 81;have HNX:=HB0;(refine (CS.out _ HB0.out).mono ?_);rintro e w1 ⟨rfl,hb⟩;have HB1:Hid (Below w.heap.size w w1):=hb;clear hb HNX HB0))
 go_ret
 exact ⟨rfl,by first | exact HB1.out | exact HB1.out.alloc HB1.out.size _⟩
theorem stepBegins_m3 {w:World} {pb b c:Nat} {T:List Tok} {st:Pst} (h:PaS w pb b c T st) (hT:T.length<=200) (hat:st.at'<=300) {us:ByteArray} {uk un:Int} (hu:seeM T st 0=⟨5,us,un⟩) (n0:(us.toList == [46,46])=false) (n1:(us.toList == [46])=false) (n2:(us.toList == [64])=false) (y:(us.toList == [42])=true) :
 Calls Tryz.prog 83 #[vP pb 0] w fun e w'=>e=.returned (.bool true)/\Below w.heap.size w w':=by
 have CS:Hid (∀ W,Below w.heap.size w W->Calls Tryz.prog 81 #[vP pb 0,vI 0] W fun e w'=>e=.returned (.agg #[vI 5,vS us,vI un])/\Below w.heap.size w w'):=fun W hW=>(see_lit (h.below hW) 0 (by omega) hT hat hu).mono fun e w' ⟨k1,k2⟩=>⟨k1,hW.trans (k2.mono hW.size)⟩
 have HB0:Hid (Below w.heap.size w w):=Below.refl _ _
 clear h
 go_enter Tryz.func83,Tryz.ntmps83
 go_wp2_with (first
  | (go_at_call 81;have HNX:=HB0;(refine (CS.out _ HB0.out).mono ?_);rintro e w1 ⟨rfl,hb⟩;have HB1:Hid (Below w.heap.size w w1):=hb;clear hb HNX HB0))
 go_ret
 exact ⟨rfl,by first | exact HB1.out | exact HB1.out.alloc HB1.out.size _⟩
theorem stepBegins_m4 {w:World} {pb b c:Nat} {T:List Tok} {st:Pst} (h:PaS w pb b c T st) (hT:T.length<=200) (hat:st.at'<=300) {us:ByteArray} {uk un:Int} (hu:seeM T st 0=⟨5,us,un⟩) (n0:(us.toList == [46,46])=false) (n1:(us.toList == [46])=false) (n2:(us.toList == [64])=false) (n3:(us.toList == [42])=false) (y:(us.toList == [40])=true) :
 Calls Tryz.prog 83 #[vP pb 0] w fun e w'=>e=.returned (.bool true)/\Below w.heap.size w w':=by
 have CS:Hid (∀ W,Below w.heap.size w W->Calls Tryz.prog 81 #[vP pb 0,vI 0] W fun e w'=>e=.returned (.agg #[vI 5,vS us,vI un])/\Below w.heap.size w w'):=fun W hW=>(see_lit (h.below hW) 0 (by omega) hT hat hu).mono fun e w' ⟨k1,k2⟩=>⟨k1,hW.trans (k2.mono hW.size)⟩
 have HB0:Hid (Below w.heap.size w w):=Below.refl _ _
 clear h
 go_enter Tryz.func83,Tryz.ntmps83
 go_wp2_with (first
  | (go_at_call 81;have HNX:=HB0;(refine (CS.out _ HB0.out).mono ?_);rintro e w1 ⟨rfl,hb⟩;have HB1:Hid (Below w.heap.size w w1):=hb;clear hb HNX HB0))
 go_ret
 exact ⟨rfl,by first | exact HB1.out | exact HB1.out.alloc HB1.out.size _⟩
theorem stepBegins_m5 {w:World} {pb b c:Nat} {T:List Tok} {st:Pst} (h:PaS w pb b c T st) (hT:T.length<=200) (hat:st.at'<=300) {us:ByteArray} {uk un:Int} (hu:seeM T st 0=⟨5,us,un⟩) (n0:(us.toList == [46,46])=false) (n1:(us.toList == [46])=false) (n2:(us.toList == [64])=false) (n3:(us.toList == [42])=false) (n4:(us.toList == [40])=false) :
 Calls Tryz.prog 83 #[vP pb 0] w fun e w'=>e=.returned (.bool false)/\Below w.heap.size w w':=by
 have CS:Hid (∀ W,Below w.heap.size w W->Calls Tryz.prog 81 #[vP pb 0,vI 0] W fun e w'=>e=.returned (.agg #[vI 5,vS us,vI un])/\Below w.heap.size w w'):=fun W hW=>(see_lit (h.below hW) 0 (by omega) hT hat hu).mono fun e w' ⟨k1,k2⟩=>⟨k1,hW.trans (k2.mono hW.size)⟩
 have HB0:Hid (Below w.heap.size w w):=Below.refl _ _
 clear h
 go_enter Tryz.func83,Tryz.ntmps83
 go_wp2_with (first
  | (go_at_call 81;have HNX:=HB0;(refine (CS.out _ HB0.out).mono ?_);rintro e w1 ⟨rfl,hb⟩;have HB1:Hid (Below w.heap.size w w1):=hb;clear hb HNX HB0))
 go_ret
 exact ⟨rfl,by first | exact HB1.out | exact HB1.out.alloc HB1.out.size _⟩
theorem stepBegins_no {w:World} {pb b c:Nat} {T:List Tok} {st:Pst} (h:PaS w pb b c T st) (hT:T.length<=200) (hat:st.at'<=300) {us:ByteArray} {uk un:Int} (hu:seeM T st 0=⟨uk,us,un⟩) (q1:(uk == 1)=false) (q2:(uk == 2)=false) (q3:(uk == 3)=false) (q4:(uk == 4)=false) (q5:(uk == 5)=false) :
 Calls Tryz.prog 83 #[vP pb 0] w fun e w'=>e=.returned (.bool false)/\Below w.heap.size w w':=by
 have CS:Hid (∀ W,Below w.heap.size w W->Calls Tryz.prog 81 #[vP pb 0,vI 0] W fun e w'=>e=.returned (.agg #[vI uk,vS us,vI un])/\Below w.heap.size w w'):=fun W hW=>(see_lit (h.below hW) 0 (by omega) hT hat hu).mono fun e w' ⟨k1,k2⟩=>⟨k1,hW.trans (k2.mono hW.size)⟩
 have HB0:Hid (Below w.heap.size w w):=Below.refl _ _
 clear h
 go_enter Tryz.func83,Tryz.ntmps83
 go_wp2_with (first
  | (go_at_call 81;have HNX:=HB0;(refine (CS.out _ HB0.out).mono ?_);rintro e w1 ⟨rfl,hb⟩;have HB1:Hid (Below w.heap.size w w1):=hb;clear hb HNX HB0))
 go_ret
 exact ⟨rfl,by first | exact HB1.out | exact HB1.out.alloc HB1.out.size _⟩
theorem stepBegins_any {w:World} {pb b c:Nat} {T:List Tok} {st:Pst} (h:PaS w pb b c T st) (hT:T.length<=200) (hat:st.at'<=300):Calls Tryz.prog 83 #[vP pb 0] w fun e w'=>e=.returned (.bool (stepB (seeM T st 0)))/\Below w.heap.size w w':=by
 obtain ⟨⟨uk,us,un⟩,hu⟩:∃ u,seeM T st 0=u:=⟨_,rfl⟩
 rw [hu]
 by_cases e1:uk=1
 · subst e1;exact stepBegins_k1 (uk:=0) h hT hat hu
 by_cases e2:uk=2
 · subst e2;exact stepBegins_k2 (uk:=0) h hT hat hu
 by_cases e3:uk=3
 · subst e3;exact stepBegins_k3 (uk:=0) h hT hat hu
 by_cases e4:uk=4
 · subst e4;exact stepBegins_k4 (uk:=0) h hT hat hu
 by_cases e5:uk=5
 · subst e5
   by_cases y0:(us.toList == [46,46])=true
   · have:=stepBegins_m0 (uk:=0) h hT hat hu  y0
     rwa [show stepB ⟨5,us,un⟩=true by simp only [stepB,y0];simp]
   have n0:=Bool.eq_false_iff.2 y0
   by_cases y1:(us.toList == [46])=true
   · have:=stepBegins_m1 (uk:=0) h hT hat hu n0 y1
     rwa [show stepB ⟨5,us,un⟩=true by simp only [stepB,y1];simp]
   have n1:=Bool.eq_false_iff.2 y1
   by_cases y2:(us.toList == [64])=true
   · have:=stepBegins_m2 (uk:=0) h hT hat hu n0 n1 y2
     rwa [show stepB ⟨5,us,un⟩=true by simp only [stepB,y2];simp]
   have n2:=Bool.eq_false_iff.2 y2
   by_cases y3:(us.toList == [42])=true
   · have:=stepBegins_m3 (uk:=0) h hT hat hu n0 n1 n2 y3
     rwa [show stepB ⟨5,us,un⟩=true by simp only [stepB,y3];simp]
   have n3:=Bool.eq_false_iff.2 y3
   by_cases y4:(us.toList == [40])=true
   · have:=stepBegins_m4 (uk:=0) h hT hat hu n0 n1 n2 n3 y4
     rwa [show stepB ⟨5,us,un⟩=true by simp only [stepB,y4];simp]
   have n4:=Bool.eq_false_iff.2 y4
   have:=stepBegins_m5 (uk:=0) h hT hat hu n0 n1 n2 n3 n4
   rwa [show stepB ⟨5,us,un⟩=false by simp only [stepB,n0,n1,n2,n3,n4];rfl]
 have q1:=beq_eq_false_iff_ne.2 e1
 have q2:=beq_eq_false_iff_ne.2 e2
 have q3:=beq_eq_false_iff_ne.2 e3
 have q4:=beq_eq_false_iff_ne.2 e4
 have q5:=beq_eq_false_iff_ne.2 e5
 have:=stepBegins_no h hT hat hu q1 q2 q3 q4 q5
 rwa [show stepB ⟨uk,us,un⟩=false by simp only [stepB,q1,q2,q3,q4,q5];rfl]
open Go.RowKit
theorem eqT_run {k n k' n':Int} {s s':ByteArray} {v:Bool} (h:eqT ⟨k,s,n⟩ ⟨k',s',n'⟩=v) (W:World):Sem.run Tryz.prog (binOp .eql 65 (.agg #[vI k,vS s,vI n]) (.agg #[vI k',vS s',vI n'])) W=.ok (.bool v) W:=by
 subst h
 by_cases h1:k=k'
 · by_cases h2:s=s'
   · by_cases h3:n=n'
     · subst h1 h2 h3;simp [eqT,go_sem]
     · have:=beq_eq_false_iff_ne.2 h3
       subst h1 h2;simp [eqT,go_sem,h3]
   · have h2':(s.toList == s'.toList)=false:=by rw [toL_eq,decide_eq_false h2]
     subst h1;simp [eqT,go_sem,h2,h2']
 · simp [eqT,go_sem,h1]
open Go.RowKit
def opCells:Array Value:=#[vS ⟨#[111,114]⟩,vI 0,vS ⟨#[97,110,100]⟩,vI 1,vS ⟨#[61]⟩,vI 2,vS ⟨#[33,61]⟩,vI 2,vS ⟨#[60]⟩,vI 2,vS ⟨#[60,61]⟩,vI 2,vS ⟨#[62]⟩,vI 2,vS ⟨#[62,61]⟩,vI 2,vS ⟨#[105,115]⟩,vI 2,vS ⟨#[60,60]⟩,vI 2,vS ⟨#[62,62]⟩,vI 2,vS ⟨#[116,111]⟩,vI 3,vS ⟨#[43]⟩,vI 4,vS ⟨#[45]⟩,vI 4,vS ⟨#[42]⟩,vI 5,vS ⟨#[100,105,118]⟩,vI 5,vS ⟨#[109,111,100]⟩,vI 5,vS ⟨#[124]⟩,vI 6,vS ⟨#[117,110,105,111,110]⟩,vI 6,vS ⟨#[105,110,116,101,114,115,101,99,116]⟩,vI 7,vS ⟨#[101,120,99,101,112,116]⟩,vI 7]
def opNames:List ByteArray:=[⟨#[111,114]⟩,⟨#[97,110,100]⟩,⟨#[61]⟩,⟨#[33,61]⟩,⟨#[60]⟩,⟨#[60,61]⟩,⟨#[62]⟩,⟨#[62,61]⟩,⟨#[105,115]⟩,⟨#[60,60]⟩,⟨#[62,62]⟩,⟨#[116,111]⟩,⟨#[43]⟩,⟨#[45]⟩,⟨#[42]⟩,⟨#[100,105,118]⟩,⟨#[109,111,100]⟩,⟨#[124]⟩,⟨#[117,110,105,111,110]⟩,⟨#[105,110,116,101,114,115,101,99,116]⟩,⟨#[101,120,99,101,112,116]⟩]
def opN (k:Nat):ByteArray:=opNames.getD k ⟨#[]⟩
def opBinds:List Int:=[0,1,2,2,2,2,2,2,2,2,2,3,4,4,5,5,5,6,6,7,7]
def opB (k:Nat):Int:=opBinds.getD k 0
def OpTab (w:World):Prop:=∃ t fr,w.heap[5]?=some (.cells opCells t fr)
theorem OpTab.below {w w':World} (h:OpTab w) (hb:Below w.heap.size w w'):OpTab w':=by
 obtain ⟨t,fr,h⟩:=h
 exact ⟨t,fr,(hb.block _ (gI h).1).trans h⟩
theorem OpTab.grow {w w':World} {pb:Nat} (h:OpTab w) (hg:GrowA pb w w') (hp:5≠pb):OpTab w':=by
 obtain ⟨t,fr,h⟩:=h
 exact ⟨t,fr,(hg.2.2.2.2 _ (gI h).1 hp).trans h⟩
theorem op_index:∀ (k:Nat),k<21->∀ w,(Instr.index 192 (.agg opCells) (vI (k:Int))).run Tryz.prog w=.ok (.agg #[vS (opN k),vI (opB k)]) w:=by
 intro k hk
 have:k=0\/k=1\/k=2\/k=3\/k=4\/k=5\/k=6\/k=7\/k=8\/k=9\/k=10\/k=11\/k=12\/k=13\/k=14\/k=15\/k=16\/k=17\/k=18\/k=19\/k=20:=by omega
 rcases this with rfl | rfl | rfl | rfl | rfl | rfl | rfl | rfl | rfl | rfl | rfl | rfl | rfl | rfl | rfl | rfl | rfl | rfl | rfl | rfl | rfl <;> exact fun _=>by kernel_rfl
def ktCells:Array Value:=#[vE,vS ⟨#[110,111,100,101]⟩,vS ⟨#[116,101,120,116]⟩,vS ⟨#[99,111,109,109,101,110,116]⟩]
def ktNames:List ByteArray:=[⟨#[]⟩,⟨#[110,111,100,101]⟩,⟨#[116,101,120,116]⟩,⟨#[99,111,109,109,101,110,116]⟩]
def ktN (k:Nat):ByteArray:=ktNames.getD k ⟨#[]⟩
def KtTab (w:World):Prop:=∃ t fr,w.heap[9]?=some (.cells ktCells t fr)
theorem KtTab.below {w w':World} (h:KtTab w) (hb:Below w.heap.size w w'):KtTab w':=by
 obtain ⟨t,fr,h⟩:=h
 exact ⟨t,fr,(hb.block _ (gI h).1).trans h⟩
theorem KtTab.grow {w w':World} {pb:Nat} (h:KtTab w) (hg:GrowA pb w w') (hp:9≠pb):KtTab w':=by
 obtain ⟨t,fr,h⟩:=h
 exact ⟨t,fr,(hg.2.2.2.2 _ (gI h).1 hp).trans h⟩
theorem kt_index:∀ (k:Nat),k<4->∀ w,(Instr.index 204 (.agg ktCells) (vI (k:Int))).run Tryz.prog w=.ok (vS (ktN k)) w:=by
 intro k hk
 have:k=0\/k=1\/k=2\/k=3:=by omega
 rcases this with rfl | rfl | rfl | rfl <;> exact fun _=>by kernel_rfl
def axCells:Array Value:=#[vE,vS ⟨#[99,104,105,108,100]⟩,vS ⟨#[100,101,115,99,101,110,100,97,110,116]⟩,vS ⟨#[100,101,115,99,101,110,100,97,110,116,45,111,114,45,115,101,108,102]⟩,vS ⟨#[115,101,108,102]⟩,vS ⟨#[112,97,114,101,110,116]⟩,vS ⟨#[97,110,99,101,115,116,111,114]⟩,vS ⟨#[97,110,99,101,115,116,111,114,45,111,114,45,115,101,108,102]⟩,vS ⟨#[102,111,108,108,111,119,105,110,103]⟩,vS ⟨#[112,114,101,99,101,100,105,110,103]⟩,vS ⟨#[102,111,108,108,111,119,105,110,103,45,115,105,98,108,105,110,103]⟩,vS ⟨#[112,114,101,99,101,100,105,110,103,45,115,105,98,108,105,110,103]⟩,vS ⟨#[97,116,116,114,105,98,117,116,101]⟩]
def axNames:List ByteArray:=[⟨#[]⟩,⟨#[99,104,105,108,100]⟩,⟨#[100,101,115,99,101,110,100,97,110,116]⟩,⟨#[100,101,115,99,101,110,100,97,110,116,45,111,114,45,115,101,108,102]⟩,⟨#[115,101,108,102]⟩,⟨#[112,97,114,101,110,116]⟩,⟨#[97,110,99,101,115,116,111,114]⟩,⟨#[97,110,99,101,115,116,111,114,45,111,114,45,115,101,108,102]⟩,⟨#[102,111,108,108,111,119,105,110,103]⟩,⟨#[112,114,101,99,101,100,105,110,103]⟩,⟨#[102,111,108,108,111,119,105,110,103,45,115,105,98,108,105,110,103]⟩,⟨#[112,114,101,99,101,100,105,110,103,45,115,105,98,108,105,110,103]⟩,⟨#[97,116,116,114,105,98,117,116,101]⟩]
def axN (k:Nat):ByteArray:=axNames.getD k ⟨#[]⟩
def AxTab (w:World):Prop:=∃ t fr,w.heap[8]?=some (.cells axCells t fr)
theorem AxTab.below {w w':World} (h:AxTab w) (hb:Below w.heap.size w w'):AxTab w':=by
 obtain ⟨t,fr,h⟩:=h
 exact ⟨t,fr,(hb.block _ (gI h).1).trans h⟩
theorem AxTab.grow {w w':World} {pb:Nat} (h:AxTab w) (hg:GrowA pb w w') (hp:8≠pb):AxTab w':=by
 obtain ⟨t,fr,h⟩:=h
 exact ⟨t,fr,(hg.2.2.2.2 _ (gI h).1 hp).trans h⟩
theorem ax_index:∀ (k:Nat),k<13->∀ w,(Instr.index 203 (.agg axCells) (vI (k:Int))).run Tryz.prog w=.ok (vS (axN k)) w:=by
 intro k hk
 have:k=0\/k=1\/k=2\/k=3\/k=4\/k=5\/k=6\/k=7\/k=8\/k=9\/k=10\/k=11\/k=12:=by omega
 rcases this with rfl | rfl | rfl | rfl | rfl | rfl | rfl | rfl | rfl | rfl | rfl | rfl | rfl <;> exact fun _=>by kernel_rfl
def goF (N:Nat->ByteArray) (V:Nat->Int) (e:Int) (s:ByteArray):Nat->Nat->Int
 | 0,_=>e
 | n + 1,k=>if ((N k).toList == s.toList)=true then V k else goF N V e s n (k + 1)
theorem goF_skip {N:Nat->ByteArray} {V:Nat->Int} {e:Int} {s:ByteArray}:∀ (k m:Nat),(∀ j,j<k->((N j).toList == s.toList)=false)->goF N V e s (k + m) 0=goF N V e s m k:=by
 intro k
 induction k with
 | zero=>intro m h;simp
 | succ k ih =>
  intro m h
  have:=ih (m + 1) (fun j hj=>h j (by omega))
  rw [show k + 1 + m=k + (m + 1) by omega,this]
  simp only [goF]
  rw [h k (by omega)]
  rfl
theorem goF_at {N:Nat->ByteArray} {V:Nat->Int} {e:Int} {s:ByteArray} {n k:Nat} (hk:k<n) (h:∀ j,j<k->((N j).toList == s.toList)=false) (hy:((N k).toList == s.toList)=true):goF N V e s n 0=V k:=by
 obtain ⟨m,rfl⟩:∃ m,n=k + (m + 1):=⟨n - k - 1,by omega⟩
 rw [goF_skip k (m + 1) h]
 simp only [goF]
 rw [hy]
 rfl
theorem goF_none {N:Nat->ByteArray} {V:Nat->Int} {e:Int} {s:ByteArray} {n:Nat} (h:∀ j,j<n->((N j).toList == s.toList)=false):goF N V e s n 0=e:=by
 have:=goF_skip (V:=V) (e:=e) n 0 h
 rwa [Nat.add_zero] at this
def opOf (s:ByteArray):Int:=goF opN opB (-1) s 21 0
def ktOf (s:ByteArray):Int:=goF ktN (fun k=>(k:Int)) 0 s 4 0
def axOf (s:ByteArray):Int:=goF axN (fun k=>(k:Int)) 0 s 13 0
def opNext (u:Tok) (bd:Int):Bool:=(u.kind == 1 || u.kind == 5) && (decide (0<=opOf u.s) && (opOf u.s == bd))
theorem opB_pos:∀ k,0<=opB k:=by
 intro k
 by_cases h:k<21
 · exact (by decide:∀ k:Fin 21,0<=opB k) ⟨k,h⟩
 · show 0<=opBinds.getD k 0
   rw [List.getD_eq_getElem?_getD,List.getElem?_eq_none (by simp [opBinds];omega)]
   simp
theorem kindTestOf_is (s:ByteArray) (w:World) (ho:KtTab w):Calls Tryz.prog 178 #[vS s] w fun e w'=>e=.returned (vI (ktOf s))/\Below w.heap.size w w':=by
 obtain ⟨tt,fr,hgt⟩:=ho
 have HGT:Hid (w.heap[9]?=some (.cells ktCells tt fr)):=hgt
 clear hgt
 obtain ⟨R,hR⟩:∃ R,R=ktOf s:=⟨_,rfl⟩
 rw [<- hR]
 replace hR:Hid (R=ktOf s):=hR
 go_enter Tryz.func178,Tryz.ntmps178
 go_wp2_with (refine wpList_load_row rfl 204 _ rfl 9 rfl tt _ fr _ HGT.out Tryz.underlying204 rfl (by kernel_rfl) ?_)
 go_loopw [6] (fun i wr=>∃ k:Nat,k<=4/\i=vI k/\Below w.heap.size w wr/\Hid (∀ j,j<k->((ktN j).toList == s.toList)=false)) (fun i _=>4 - (intOf i).toNat)
 case atStart=>exact ⟨0,by omega,rfl,Below.refl _ _,fun j hj=>absurd hj (by omega)⟩
 case round =>
  obtain ⟨k,hk,rfl,hbw,HN⟩:=hrel
  have HBW:Hid (Below w.heap.size w wr):=hbw
  clear hbw
  by_cases hlt:k<4
  · have hI:=kt_index k hlt
    have hki:(k:Int)<4:=by omega
    cases hy:(ktN k).toList == s.toList
    · have HN2:Hid (∀ j,j<k + 1->((ktN j).toList == s.toList)=false):=fun j hj=>by
       by_cases e:j=k
       · rw [e];exact hy
       · exact HN.out j (by omega)
      generalize ktN k=on at hI hy
      go_wp2
      go_roundw
      case rel=>exact ⟨k + 1,by omega,by go_num,(HBW.out),HN2⟩
      case measure=>simp [intOf];omega
    · have HV:Hid (R=(k:Int)):=hR.out.trans (goF_at hlt HN.out hy)
      generalize ktN k=on at hI hy
      go_wp2
      go_ret
      exact ⟨by rw [HV.out];rfl,by first | exact HBW.out | exact HBW.out.alloc HBW.out.size _⟩
  · have hki:¬ ((k:Int)<4):=by omega
    obtain rfl:k=4:=by omega
    have HV:Hid (R=0):=hR.out.trans (goF_none HN.out)
    go_wp2
    go_ret
    exact ⟨by rw [HV.out];rfl,HBW.out⟩
theorem axisOf_is (s:ByteArray) (w:World) (ho:AxTab w):Calls Tryz.prog 177 #[vS s] w fun e w'=>e=.returned (vI (axOf s))/\Below w.heap.size w w':=by
 obtain ⟨tt,fr,hgt⟩:=ho
 have HGT:Hid (w.heap[8]?=some (.cells axCells tt fr)):=hgt
 clear hgt
 obtain ⟨R,hR⟩:∃ R,R=axOf s:=⟨_,rfl⟩
 rw [<- hR]
 replace hR:Hid (R=axOf s):=hR
 go_enter Tryz.func177,Tryz.ntmps177
 go_wp2_with (refine wpList_load_row rfl 203 _ rfl 8 rfl tt _ fr _ HGT.out Tryz.underlying203 rfl (by kernel_rfl) ?_)
 go_loopw [6] (fun i wr=>∃ k:Nat,k<=13/\i=vI k/\Below w.heap.size w wr/\Hid (∀ j,j<k->((axN j).toList == s.toList)=false)) (fun i _=>13 - (intOf i).toNat)
 case atStart=>exact ⟨0,by omega,rfl,Below.refl _ _,fun j hj=>absurd hj (by omega)⟩
 case round =>
  obtain ⟨k,hk,rfl,hbw,HN⟩:=hrel
  have HBW:Hid (Below w.heap.size w wr):=hbw
  clear hbw
  by_cases hlt:k<13
  · have hI:=ax_index k hlt
    have hki:(k:Int)<13:=by omega
    cases hy:(axN k).toList == s.toList
    · have HN2:Hid (∀ j,j<k + 1->((axN j).toList == s.toList)=false):=fun j hj=>by
       by_cases e:j=k
       · rw [e];exact hy
       · exact HN.out j (by omega)
      generalize axN k=on at hI hy
      go_wp2
      go_roundw
      case rel=>exact ⟨k + 1,by omega,by go_num,(HBW.out),HN2⟩
      case measure=>simp [intOf];omega
    · have HV:Hid (R=(k:Int)):=hR.out.trans (goF_at hlt HN.out hy)
      generalize axN k=on at hI hy
      go_wp2
      go_ret
      exact ⟨by rw [HV.out];rfl,by first | exact HBW.out | exact HBW.out.alloc HBW.out.size _⟩
  · have hki:¬ ((k:Int)<13):=by omega
    obtain rfl:k=13:=by omega
    have HV:Hid (R=0):=hR.out.trans (goF_none HN.out)
    go_wp2
    go_ret
    exact ⟨by rw [HV.out];rfl,HBW.out⟩
open Go.RowKit
def singleB (u:Tok):Bool:=eqT u ⟨5,⟨#[45]⟩,0⟩ || eqT u ⟨5,⟨#[47]⟩,0⟩ || eqT u ⟨5,⟨#[47,47]⟩,0⟩ || stepB u
theorem singleBegins_m0 {w:World} {pb b c:Nat} {T:List Tok} {st:Pst} (h:PaS w pb b c T st) (hT:T.length<=200) (hat:st.at'<=300) {us:ByteArray} {uk un:Int} (hu:seeM T st 0=⟨uk,us,un⟩) (c0:eqT ⟨uk,us,un⟩ ⟨5,⟨#[45]⟩,0⟩=true) :
 Calls Tryz.prog 50 #[vP pb 0] w fun e w'=>e=.returned (.bool true)/\Below w.heap.size w w':=by
 have CS:Hid (∀ W,Below w.heap.size w W->Calls Tryz.prog 81 #[vP pb 0,vI 0] W fun e w'=>e=.returned (.agg #[vI uk,vS us,vI un])/\Below w.heap.size w w'):=fun W hW=>(see_lit (h.below hW) 0 (by omega) hT hat hu).mono fun e w' ⟨k1,k2⟩=>⟨k1,hW.trans (k2.mono hW.size)⟩
 have E0:=eqT_run (k:=uk) (s:=us) (n:=un) (k':=5) (s':=⟨#[45]⟩) (n':=0) c0
 have HB0:Hid (Below w.heap.size w w):=Below.refl _ _
 clear h
 go_enter Tryz.func50,Tryz.ntmps50
 go_wp2_with (first
  | (go_at_call 81;have HNX:=HB0;(refine (CS.out _ HB0.out).mono ?_);rintro e w1 ⟨rfl,hb⟩;have HB1:Hid (Below w.heap.size w w1):=hb;clear hb HNX HB0)
  | (go_at_call 82;have HNX:=HB1;refine (mark_is _ _).mono ?_;rintro e w2 ⟨rfl,hb⟩;have HB2:=HidOf (HB1.out.trans (hb.mono HB1.out.size));clear hb HNX HB1))
 go_ret
 exact ⟨rfl,by first | exact HB2.out | exact HB2.out.alloc HB2.out.size _⟩
theorem singleBegins_m1 {w:World} {pb b c:Nat} {T:List Tok} {st:Pst} (h:PaS w pb b c T st) (hT:T.length<=200) (hat:st.at'<=300) {us:ByteArray} {uk un:Int} (hu:seeM T st 0=⟨uk,us,un⟩) (c0:eqT ⟨uk,us,un⟩ ⟨5,⟨#[45]⟩,0⟩=false) (c1:eqT ⟨uk,us,un⟩ ⟨5,⟨#[47]⟩,0⟩=true) :
 Calls Tryz.prog 50 #[vP pb 0] w fun e w'=>e=.returned (.bool true)/\Below w.heap.size w w':=by
 have CS:Hid (∀ W,Below w.heap.size w W->Calls Tryz.prog 81 #[vP pb 0,vI 0] W fun e w'=>e=.returned (.agg #[vI uk,vS us,vI un])/\Below w.heap.size w w'):=fun W hW=>(see_lit (h.below hW) 0 (by omega) hT hat hu).mono fun e w' ⟨k1,k2⟩=>⟨k1,hW.trans (k2.mono hW.size)⟩
 have E0:=eqT_run (k:=uk) (s:=us) (n:=un) (k':=5) (s':=⟨#[45]⟩) (n':=0) c0
 have E1:=eqT_run (k:=uk) (s:=us) (n:=un) (k':=5) (s':=⟨#[47]⟩) (n':=0) c1
 have HB0:Hid (Below w.heap.size w w):=Below.refl _ _
 clear h
 go_enter Tryz.func50,Tryz.ntmps50
 go_wp2_with (first
  | (go_at_call 81;have HNX:=HB0;(refine (CS.out _ HB0.out).mono ?_);rintro e w1 ⟨rfl,hb⟩;have HB1:Hid (Below w.heap.size w w1):=hb;clear hb HNX HB0)
  | (go_at_call 82;have HNX:=HB1;refine (mark_is _ _).mono ?_;rintro e w2 ⟨rfl,hb⟩;have HB2:=HidOf (HB1.out.trans (hb.mono HB1.out.size));clear hb HNX HB1)
  | (go_at_call 82;have HNX:=HB2;refine (mark_is _ _).mono ?_;rintro e w3 ⟨rfl,hb⟩;have HB3:=HidOf (HB2.out.trans (hb.mono HB2.out.size));clear hb HNX HB2))
 go_ret
 exact ⟨rfl,by first | exact HB3.out | exact HB3.out.alloc HB3.out.size _⟩
theorem singleBegins_m2 {w:World} {pb b c:Nat} {T:List Tok} {st:Pst} (h:PaS w pb b c T st) (hT:T.length<=200) (hat:st.at'<=300) {us:ByteArray} {uk un:Int} (hu:seeM T st 0=⟨uk,us,un⟩) (c0:eqT ⟨uk,us,un⟩ ⟨5,⟨#[45]⟩,0⟩=false) (c1:eqT ⟨uk,us,un⟩ ⟨5,⟨#[47]⟩,0⟩=false) (c2:eqT ⟨uk,us,un⟩ ⟨5,⟨#[47,47]⟩,0⟩=true) :
 Calls Tryz.prog 50 #[vP pb 0] w fun e w'=>e=.returned (.bool true)/\Below w.heap.size w w':=by
 have CS:Hid (∀ W,Below w.heap.size w W->Calls Tryz.prog 81 #[vP pb 0,vI 0] W fun e w'=>e=.returned (.agg #[vI uk,vS us,vI un])/\Below w.heap.size w w'):=fun W hW=>(see_lit (h.below hW) 0 (by omega) hT hat hu).mono fun e w' ⟨k1,k2⟩=>⟨k1,hW.trans (k2.mono hW.size)⟩
 have E0:=eqT_run (k:=uk) (s:=us) (n:=un) (k':=5) (s':=⟨#[45]⟩) (n':=0) c0
 have E1:=eqT_run (k:=uk) (s:=us) (n:=un) (k':=5) (s':=⟨#[47]⟩) (n':=0) c1
 have E2:=eqT_run (k:=uk) (s:=us) (n:=un) (k':=5) (s':=⟨#[47,47]⟩) (n':=0) c2
 have HB0:Hid (Below w.heap.size w w):=Below.refl _ _
 clear h
 go_enter Tryz.func50,Tryz.ntmps50
 go_wp2_with (first
  | (go_at_call 81;have HNX:=HB0;(refine (CS.out _ HB0.out).mono ?_);rintro e w1 ⟨rfl,hb⟩;have HB1:Hid (Below w.heap.size w w1):=hb;clear hb HNX HB0)
  | (go_at_call 82;have HNX:=HB1;refine (mark_is _ _).mono ?_;rintro e w2 ⟨rfl,hb⟩;have HB2:=HidOf (HB1.out.trans (hb.mono HB1.out.size));clear hb HNX HB1)
  | (go_at_call 82;have HNX:=HB2;refine (mark_is _ _).mono ?_;rintro e w3 ⟨rfl,hb⟩;have HB3:=HidOf (HB2.out.trans (hb.mono HB2.out.size));clear hb HNX HB2)
  | (go_at_call 82;have HNX:=HB3;refine (mark_is _ _).mono ?_;rintro e w4 ⟨rfl,hb⟩;have HB4:=HidOf (HB3.out.trans (hb.mono HB3.out.size));clear hb HNX HB3))
 go_ret
 exact ⟨rfl,by first | exact HB4.out | exact HB4.out.alloc HB4.out.size _⟩
theorem singleBegins_m3 {w:World} {pb b c:Nat} {T:List Tok} {st:Pst} (h:PaS w pb b c T st) (hT:T.length<=200) (hat:st.at'<=300) {us:ByteArray} {uk un:Int} (hu:seeM T st 0=⟨uk,us,un⟩) (c0:eqT ⟨uk,us,un⟩ ⟨5,⟨#[45]⟩,0⟩=false) (c1:eqT ⟨uk,us,un⟩ ⟨5,⟨#[47]⟩,0⟩=false) (c2:eqT ⟨uk,us,un⟩ ⟨5,⟨#[47,47]⟩,0⟩=false) :
 Calls Tryz.prog 50 #[vP pb 0] w fun e w'=>e=.returned (.bool (stepB ⟨uk,us,un⟩))/\Below w.heap.size w w':=by
 have CS:Hid (∀ W,Below w.heap.size w W->Calls Tryz.prog 81 #[vP pb 0,vI 0] W fun e w'=>e=.returned (.agg #[vI uk,vS us,vI un])/\Below w.heap.size w w'):=fun W hW=>(see_lit (h.below hW) 0 (by omega) hT hat hu).mono fun e w' ⟨k1,k2⟩=>⟨k1,hW.trans (k2.mono hW.size)⟩
 have CB:Hid (∀ W,Below w.heap.size w W->Calls Tryz.prog 83 #[vP pb 0] W fun e w'=>e=.returned (.bool (stepB ⟨uk,us,un⟩))/\Below W.heap.size W w'):=fun W hW=>by have:=stepBegins_any (h.below hW) hT hat;rwa [hu] at this
 generalize stepB ⟨uk,us,un⟩=sb at CB ⊢
 have E0:=eqT_run (k:=uk) (s:=us) (n:=un) (k':=5) (s':=⟨#[45]⟩) (n':=0) c0
 have E1:=eqT_run (k:=uk) (s:=us) (n:=un) (k':=5) (s':=⟨#[47]⟩) (n':=0) c1
 have E2:=eqT_run (k:=uk) (s:=us) (n:=un) (k':=5) (s':=⟨#[47,47]⟩) (n':=0) c2
 have HB0:Hid (Below w.heap.size w w):=Below.refl _ _
 clear h
 go_enter Tryz.func50,Tryz.ntmps50
 go_wp2_with (first
  | (go_at_call 81;have HNX:=HB0;(refine (CS.out _ HB0.out).mono ?_);rintro e w1 ⟨rfl,hb⟩;have HB1:Hid (Below w.heap.size w w1):=hb;clear hb HNX HB0)
  | (go_at_call 82;have HNX:=HB1;refine (mark_is _ _).mono ?_;rintro e w2 ⟨rfl,hb⟩;have HB2:=HidOf (HB1.out.trans (hb.mono HB1.out.size));clear hb HNX HB1)
  | (go_at_call 82;have HNX:=HB2;refine (mark_is _ _).mono ?_;rintro e w3 ⟨rfl,hb⟩;have HB3:=HidOf (HB2.out.trans (hb.mono HB2.out.size));clear hb HNX HB2)
  | (go_at_call 82;have HNX:=HB3;refine (mark_is _ _).mono ?_;rintro e w4 ⟨rfl,hb⟩;have HB4:=HidOf (HB3.out.trans (hb.mono HB3.out.size));clear hb HNX HB3)
  | (go_at_call 83;(refine (CB.out _ HB4.out).mono ?_);rintro e w5 ⟨rfl,hb⟩;have HB5:=HidOf (HB4.out.trans (hb.mono HB4.out.size));clear hb HB4))
 go_ret
 exact ⟨rfl,by first | exact HB5.out | exact HB5.out.alloc HB5.out.size _⟩
theorem singleBegins_any {w:World} {pb b c:Nat} {T:List Tok} {st:Pst} (h:PaS w pb b c T st) (hT:T.length<=200) (hat:st.at'<=300):Calls Tryz.prog 50 #[vP pb 0] w fun e w'=>e=.returned (.bool (singleB (seeM T st 0)))/\Below w.heap.size w w':=by
 obtain ⟨⟨uk,us,un⟩,hu⟩:∃ u,seeM T st 0=u:=⟨_,rfl⟩
 rw [hu]
 unfold singleB
 cases c0:eqT ⟨uk,us,un⟩ ⟨5,⟨#[45]⟩,0⟩
 case true=>simpa using singleBegins_m0 h hT hat hu c0
 cases c1:eqT ⟨uk,us,un⟩ ⟨5,⟨#[47]⟩,0⟩
 case true=>simpa using singleBegins_m1 h hT hat hu c0 c1
 cases c2:eqT ⟨uk,us,un⟩ ⟨5,⟨#[47,47]⟩,0⟩
 case true=>simpa using singleBegins_m2 h hT hat hu c0 c1 c2
 simpa using singleBegins_m3 h hT hat hu c0 c1 c2
open Go.RowKit
def mkBeg (u0 u1 u2:Tok):Bool:=if (eqT u0 ⟨1,⟨#[101,108,101,109,101,110,116]⟩,0⟩ || eqT u0 ⟨1,⟨#[97,116,116,114,105,98,117,116,101]⟩,0⟩)=true then (u1.kind == 1) && eqT u2 ⟨5,⟨#[123]⟩,0⟩ else if eqT u0 ⟨1,⟨#[116,101,120,116]⟩,0⟩=true then eqT u1 ⟨5,⟨#[123]⟩,0⟩ else false
theorem makeBegins_ey {w:World} {pb b c:Nat} {T:List Tok} {st:Pst} (h:PaS w pb b c T st) (hT:T.length<=200) (hat:st.at'<=300) {us:ByteArray} {uk un:Int} {u1s:ByteArray} {u1k u1n:Int} {u2s:ByteArray} {u2k u2n:Int} {v2:Bool} (hu:seeM T st 0=⟨uk,us,un⟩) (hu1:seeM T st 1=⟨u1k,u1s,u1n⟩) (hu2:seeM T st 2=⟨u2k,u2s,u2n⟩) (k1:(u1k == 1)=true) (z:eqT ⟨u2k,u2s,u2n⟩ ⟨5,⟨#[123]⟩,0⟩=v2) (c0:eqT ⟨uk,us,un⟩ ⟨1,⟨#[101,108,101,109,101,110,116]⟩,0⟩=true) :
 Calls Tryz.prog 179 #[vP pb 0] w fun e w'=>e=.returned (.bool v2)/\Below w.heap.size w w':=by
 have CS0:Hid (∀ W,Below w.heap.size w W->Calls Tryz.prog 81 #[vP pb 0,vI 0] W fun e w'=>e=.returned (.agg #[vI uk,vS us,vI un])/\Below w.heap.size w w'):=fun W hW=>(see_lit (h.below hW) 0 (by omega) hT hat hu).mono fun e w' ⟨k1,k2⟩=>⟨k1,hW.trans (k2.mono hW.size)⟩
 have E0:=eqT_run (k:=uk) (s:=us) (n:=un) (k':=1) (s':=⟨#[101,108,101,109,101,110,116]⟩) (n':=0) c0
 have CS1:Hid (∀ W,Below w.heap.size w W->Calls Tryz.prog 81 #[vP pb 0,vI 1] W fun e w'=>e=.returned (.agg #[vI u1k,vS u1s,vI u1n])/\Below w.heap.size w w'):=fun W hW=>(see_lit (h.below hW) 1 (by omega) hT hat hu1).mono fun e w' ⟨k1,k2⟩=>⟨k1,hW.trans (k2.mono hW.size)⟩
 have EF:=field_kind u1k u1n u1s
 have CS2:Hid (∀ W,Below w.heap.size w W->Calls Tryz.prog 81 #[vP pb 0,vI 2] W fun e w'=>e=.returned (.agg #[vI u2k,vS u2s,vI u2n])/\Below w.heap.size w w'):=fun W hW=>(see_lit (h.below hW) 2 (by omega) hT hat hu2).mono fun e w' ⟨k1,k2⟩=>⟨k1,hW.trans (k2.mono hW.size)⟩
 have EZ:=eqT_run z
 have HB0:Hid (Below w.heap.size w w):=Below.refl _ _
 clear h
 go_enter Tryz.func179,Tryz.ntmps179
 go_wp2_with (first
  | (go_at_call 81;have HNX:=HB0;(refine (CS0.out _ HB0.out).mono ?_);rintro e w1 ⟨rfl,hb⟩;have HB1:Hid (Below w.heap.size w w1):=hb;clear hb HNX HB0)
  | (go_at_call 119;have HNX:=HB1;refine (word_is _ _).mono ?_;rintro e w2 ⟨rfl,hb⟩;have HB2:=HidOf (HB1.out.trans (hb.mono HB1.out.size));clear hb HNX HB1)
  | (go_at_call 81;have HNX:=HB2;(refine (CS1.out _ HB2.out).mono ?_);rintro e w3 ⟨rfl,hb⟩;have HB3:Hid (Below w.heap.size w w3):=hb;clear hb HNX HB2)
  | (go_at_call 81;have HNX:=HB3;(refine (CS2.out _ HB3.out).mono ?_);rintro e w4 ⟨rfl,hb⟩;have HB4:Hid (Below w.heap.size w w4):=hb;clear hb HNX HB3)
  | (go_at_call 82;have HNX:=HB4;refine (mark_is _ _).mono ?_;rintro e w5 ⟨rfl,hb⟩;have HB5:=HidOf (HB4.out.trans (hb.mono HB4.out.size));clear hb HNX HB4))
 go_ret
 exact ⟨rfl,by first | exact HB5.out | exact HB5.out.alloc HB5.out.size _⟩
theorem makeBegins_en {w:World} {pb b c:Nat} {T:List Tok} {st:Pst} (h:PaS w pb b c T st) (hT:T.length<=200) (hat:st.at'<=300) {us:ByteArray} {uk un:Int} {u1s:ByteArray} {u1k u1n:Int} (hu:seeM T st 0=⟨uk,us,un⟩) (hu1:seeM T st 1=⟨u1k,u1s,u1n⟩) (k1:(u1k == 1)=false) (c0:eqT ⟨uk,us,un⟩ ⟨1,⟨#[101,108,101,109,101,110,116]⟩,0⟩=true) :
 Calls Tryz.prog 179 #[vP pb 0] w fun e w'=>e=.returned (.bool false)/\Below w.heap.size w w':=by
 have CS0:Hid (∀ W,Below w.heap.size w W->Calls Tryz.prog 81 #[vP pb 0,vI 0] W fun e w'=>e=.returned (.agg #[vI uk,vS us,vI un])/\Below w.heap.size w w'):=fun W hW=>(see_lit (h.below hW) 0 (by omega) hT hat hu).mono fun e w' ⟨k1,k2⟩=>⟨k1,hW.trans (k2.mono hW.size)⟩
 have E0:=eqT_run (k:=uk) (s:=us) (n:=un) (k':=1) (s':=⟨#[101,108,101,109,101,110,116]⟩) (n':=0) c0
 have CS1:Hid (∀ W,Below w.heap.size w W->Calls Tryz.prog 81 #[vP pb 0,vI 1] W fun e w'=>e=.returned (.agg #[vI u1k,vS u1s,vI u1n])/\Below w.heap.size w w'):=fun W hW=>(see_lit (h.below hW) 1 (by omega) hT hat hu1).mono fun e w' ⟨k1,k2⟩=>⟨k1,hW.trans (k2.mono hW.size)⟩
 have EF:=field_kind u1k u1n u1s
 have HB0:Hid (Below w.heap.size w w):=Below.refl _ _
 clear h
 go_enter Tryz.func179,Tryz.ntmps179
 go_wp2_with (first
  | (go_at_call 81;have HNX:=HB0;(refine (CS0.out _ HB0.out).mono ?_);rintro e w1 ⟨rfl,hb⟩;have HB1:Hid (Below w.heap.size w w1):=hb;clear hb HNX HB0)
  | (go_at_call 119;have HNX:=HB1;refine (word_is _ _).mono ?_;rintro e w2 ⟨rfl,hb⟩;have HB2:=HidOf (HB1.out.trans (hb.mono HB1.out.size));clear hb HNX HB1)
  | (go_at_call 81;have HNX:=HB2;(refine (CS1.out _ HB2.out).mono ?_);rintro e w3 ⟨rfl,hb⟩;have HB3:Hid (Below w.heap.size w w3):=hb;clear hb HNX HB2))
 go_ret
 exact ⟨rfl,by first | exact HB3.out | exact HB3.out.alloc HB3.out.size _⟩
theorem makeBegins_ay {w:World} {pb b c:Nat} {T:List Tok} {st:Pst} (h:PaS w pb b c T st) (hT:T.length<=200) (hat:st.at'<=300) {us:ByteArray} {uk un:Int} {u1s:ByteArray} {u1k u1n:Int} {u2s:ByteArray} {u2k u2n:Int} {v2:Bool} (hu:seeM T st 0=⟨uk,us,un⟩) (hu1:seeM T st 1=⟨u1k,u1s,u1n⟩) (hu2:seeM T st 2=⟨u2k,u2s,u2n⟩) (k1:(u1k == 1)=true) (z:eqT ⟨u2k,u2s,u2n⟩ ⟨5,⟨#[123]⟩,0⟩=v2) (c0:eqT ⟨uk,us,un⟩ ⟨1,⟨#[101,108,101,109,101,110,116]⟩,0⟩=false) (c1:eqT ⟨uk,us,un⟩ ⟨1,⟨#[97,116,116,114,105,98,117,116,101]⟩,0⟩=true) :
 Calls Tryz.prog 179 #[vP pb 0] w fun e w'=>e=.returned (.bool v2)/\Below w.heap.size w w':=by
 have CS0:Hid (∀ W,Below w.heap.size w W->Calls Tryz.prog 81 #[vP pb 0,vI 0] W fun e w'=>e=.returned (.agg #[vI uk,vS us,vI un])/\Below w.heap.size w w'):=fun W hW=>(see_lit (h.below hW) 0 (by omega) hT hat hu).mono fun e w' ⟨k1,k2⟩=>⟨k1,hW.trans (k2.mono hW.size)⟩
 have E0:=eqT_run (k:=uk) (s:=us) (n:=un) (k':=1) (s':=⟨#[101,108,101,109,101,110,116]⟩) (n':=0) c0
 have E1:=eqT_run (k:=uk) (s:=us) (n:=un) (k':=1) (s':=⟨#[97,116,116,114,105,98,117,116,101]⟩) (n':=0) c1
 have CS1:Hid (∀ W,Below w.heap.size w W->Calls Tryz.prog 81 #[vP pb 0,vI 1] W fun e w'=>e=.returned (.agg #[vI u1k,vS u1s,vI u1n])/\Below w.heap.size w w'):=fun W hW=>(see_lit (h.below hW) 1 (by omega) hT hat hu1).mono fun e w' ⟨k1,k2⟩=>⟨k1,hW.trans (k2.mono hW.size)⟩
 have EF:=field_kind u1k u1n u1s
 have CS2:Hid (∀ W,Below w.heap.size w W->Calls Tryz.prog 81 #[vP pb 0,vI 2] W fun e w'=>e=.returned (.agg #[vI u2k,vS u2s,vI u2n])/\Below w.heap.size w w'):=fun W hW=>(see_lit (h.below hW) 2 (by omega) hT hat hu2).mono fun e w' ⟨k1,k2⟩=>⟨k1,hW.trans (k2.mono hW.size)⟩
 have EZ:=eqT_run z
 have HB0:Hid (Below w.heap.size w w):=Below.refl _ _
 clear h
 go_enter Tryz.func179,Tryz.ntmps179
 go_wp2_with (first
  | (go_at_call 81;have HNX:=HB0;(refine (CS0.out _ HB0.out).mono ?_);rintro e w1 ⟨rfl,hb⟩;have HB1:Hid (Below w.heap.size w w1):=hb;clear hb HNX HB0)
  | (go_at_call 119;have HNX:=HB1;refine (word_is _ _).mono ?_;rintro e w2 ⟨rfl,hb⟩;have HB2:=HidOf (HB1.out.trans (hb.mono HB1.out.size));clear hb HNX HB1)
  | (go_at_call 119;have HNX:=HB2;refine (word_is _ _).mono ?_;rintro e w3 ⟨rfl,hb⟩;have HB3:=HidOf (HB2.out.trans (hb.mono HB2.out.size));clear hb HNX HB2)
  | (go_at_call 81;have HNX:=HB3;(refine (CS1.out _ HB3.out).mono ?_);rintro e w4 ⟨rfl,hb⟩;have HB4:Hid (Below w.heap.size w w4):=hb;clear hb HNX HB3)
  | (go_at_call 81;have HNX:=HB4;(refine (CS2.out _ HB4.out).mono ?_);rintro e w5 ⟨rfl,hb⟩;have HB5:Hid (Below w.heap.size w w5):=hb;clear hb HNX HB4)
  | (go_at_call 82;have HNX:=HB5;refine (mark_is _ _).mono ?_;rintro e w6 ⟨rfl,hb⟩;have HB6:=HidOf (HB5.out.trans (hb.mono HB5.out.size));clear hb HNX HB5))
 go_ret
 exact ⟨rfl,by first | exact HB6.out | exact HB6.out.alloc HB6.out.size _⟩
theorem makeBegins_an {w:World} {pb b c:Nat} {T:List Tok} {st:Pst} (h:PaS w pb b c T st) (hT:T.length<=200) (hat:st.at'<=300) {us:ByteArray} {uk un:Int} {u1s:ByteArray} {u1k u1n:Int} (hu:seeM T st 0=⟨uk,us,un⟩) (hu1:seeM T st 1=⟨u1k,u1s,u1n⟩) (k1:(u1k == 1)=false) (c0:eqT ⟨uk,us,un⟩ ⟨1,⟨#[101,108,101,109,101,110,116]⟩,0⟩=false) (c1:eqT ⟨uk,us,un⟩ ⟨1,⟨#[97,116,116,114,105,98,117,116,101]⟩,0⟩=true) :
 Calls Tryz.prog 179 #[vP pb 0] w fun e w'=>e=.returned (.bool false)/\Below w.heap.size w w':=by
 have CS0:Hid (∀ W,Below w.heap.size w W->Calls Tryz.prog 81 #[vP pb 0,vI 0] W fun e w'=>e=.returned (.agg #[vI uk,vS us,vI un])/\Below w.heap.size w w'):=fun W hW=>(see_lit (h.below hW) 0 (by omega) hT hat hu).mono fun e w' ⟨k1,k2⟩=>⟨k1,hW.trans (k2.mono hW.size)⟩
 have E0:=eqT_run (k:=uk) (s:=us) (n:=un) (k':=1) (s':=⟨#[101,108,101,109,101,110,116]⟩) (n':=0) c0
 have E1:=eqT_run (k:=uk) (s:=us) (n:=un) (k':=1) (s':=⟨#[97,116,116,114,105,98,117,116,101]⟩) (n':=0) c1
 have CS1:Hid (∀ W,Below w.heap.size w W->Calls Tryz.prog 81 #[vP pb 0,vI 1] W fun e w'=>e=.returned (.agg #[vI u1k,vS u1s,vI u1n])/\Below w.heap.size w w'):=fun W hW=>(see_lit (h.below hW) 1 (by omega) hT hat hu1).mono fun e w' ⟨k1,k2⟩=>⟨k1,hW.trans (k2.mono hW.size)⟩
 have EF:=field_kind u1k u1n u1s
 have HB0:Hid (Below w.heap.size w w):=Below.refl _ _
 clear h
 go_enter Tryz.func179,Tryz.ntmps179
 go_wp2_with (first
  | (go_at_call 81;have HNX:=HB0;(refine (CS0.out _ HB0.out).mono ?_);rintro e w1 ⟨rfl,hb⟩;have HB1:Hid (Below w.heap.size w w1):=hb;clear hb HNX HB0)
  | (go_at_call 119;have HNX:=HB1;refine (word_is _ _).mono ?_;rintro e w2 ⟨rfl,hb⟩;have HB2:=HidOf (HB1.out.trans (hb.mono HB1.out.size));clear hb HNX HB1)
  | (go_at_call 119;have HNX:=HB2;refine (word_is _ _).mono ?_;rintro e w3 ⟨rfl,hb⟩;have HB3:=HidOf (HB2.out.trans (hb.mono HB2.out.size));clear hb HNX HB2)
  | (go_at_call 81;have HNX:=HB3;(refine (CS1.out _ HB3.out).mono ?_);rintro e w4 ⟨rfl,hb⟩;have HB4:Hid (Below w.heap.size w w4):=hb;clear hb HNX HB3))
 go_ret
 exact ⟨rfl,by first | exact HB4.out | exact HB4.out.alloc HB4.out.size _⟩
theorem makeBegins_t {w:World} {pb b c:Nat} {T:List Tok} {st:Pst} (h:PaS w pb b c T st) (hT:T.length<=200) (hat:st.at'<=300) {us:ByteArray} {uk un:Int} {u1s:ByteArray} {u1k u1n:Int} {v2:Bool} (hu:seeM T st 0=⟨uk,us,un⟩) (hu1:seeM T st 1=⟨u1k,u1s,u1n⟩) (z:eqT ⟨u1k,u1s,u1n⟩ ⟨5,⟨#[123]⟩,0⟩=v2) (c0:eqT ⟨uk,us,un⟩ ⟨1,⟨#[101,108,101,109,101,110,116]⟩,0⟩=false) (c1:eqT ⟨uk,us,un⟩ ⟨1,⟨#[97,116,116,114,105,98,117,116,101]⟩,0⟩=false) (c2:eqT ⟨uk,us,un⟩ ⟨1,⟨#[116,101,120,116]⟩,0⟩=true) :
 Calls Tryz.prog 179 #[vP pb 0] w fun e w'=>e=.returned (.bool v2)/\Below w.heap.size w w':=by
 have CS0:Hid (∀ W,Below w.heap.size w W->Calls Tryz.prog 81 #[vP pb 0,vI 0] W fun e w'=>e=.returned (.agg #[vI uk,vS us,vI un])/\Below w.heap.size w w'):=fun W hW=>(see_lit (h.below hW) 0 (by omega) hT hat hu).mono fun e w' ⟨k1,k2⟩=>⟨k1,hW.trans (k2.mono hW.size)⟩
 have E0:=eqT_run (k:=uk) (s:=us) (n:=un) (k':=1) (s':=⟨#[101,108,101,109,101,110,116]⟩) (n':=0) c0
 have E1:=eqT_run (k:=uk) (s:=us) (n:=un) (k':=1) (s':=⟨#[97,116,116,114,105,98,117,116,101]⟩) (n':=0) c1
 have E2:=eqT_run (k:=uk) (s:=us) (n:=un) (k':=1) (s':=⟨#[116,101,120,116]⟩) (n':=0) c2
 have CS1:Hid (∀ W,Below w.heap.size w W->Calls Tryz.prog 81 #[vP pb 0,vI 1] W fun e w'=>e=.returned (.agg #[vI u1k,vS u1s,vI u1n])/\Below w.heap.size w w'):=fun W hW=>(see_lit (h.below hW) 1 (by omega) hT hat hu1).mono fun e w' ⟨k1,k2⟩=>⟨k1,hW.trans (k2.mono hW.size)⟩
 have EZ:=eqT_run z
 have HB0:Hid (Below w.heap.size w w):=Below.refl _ _
 clear h
 go_enter Tryz.func179,Tryz.ntmps179
 go_wp2_with (first
  | (go_at_call 81;have HNX:=HB0;(refine (CS0.out _ HB0.out).mono ?_);rintro e w1 ⟨rfl,hb⟩;have HB1:Hid (Below w.heap.size w w1):=hb;clear hb HNX HB0)
  | (go_at_call 119;have HNX:=HB1;refine (word_is _ _).mono ?_;rintro e w2 ⟨rfl,hb⟩;have HB2:=HidOf (HB1.out.trans (hb.mono HB1.out.size));clear hb HNX HB1)
  | (go_at_call 119;have HNX:=HB2;refine (word_is _ _).mono ?_;rintro e w3 ⟨rfl,hb⟩;have HB3:=HidOf (HB2.out.trans (hb.mono HB2.out.size));clear hb HNX HB2)
  | (go_at_call 119;have HNX:=HB3;refine (word_is _ _).mono ?_;rintro e w4 ⟨rfl,hb⟩;have HB4:=HidOf (HB3.out.trans (hb.mono HB3.out.size));clear hb HNX HB3)
  | (go_at_call 81;have HNX:=HB4;(refine (CS1.out _ HB4.out).mono ?_);rintro e w5 ⟨rfl,hb⟩;have HB5:Hid (Below w.heap.size w w5):=hb;clear hb HNX HB4)
  | (go_at_call 82;have HNX:=HB5;refine (mark_is _ _).mono ?_;rintro e w6 ⟨rfl,hb⟩;have HB6:=HidOf (HB5.out.trans (hb.mono HB5.out.size));clear hb HNX HB5))
 go_ret
 exact ⟨rfl,by first | exact HB6.out | exact HB6.out.alloc HB6.out.size _⟩
theorem makeBegins_no {w:World} {pb b c:Nat} {T:List Tok} {st:Pst} (h:PaS w pb b c T st) (hT:T.length<=200) (hat:st.at'<=300) {us:ByteArray} {uk un:Int} (hu:seeM T st 0=⟨uk,us,un⟩) (c0:eqT ⟨uk,us,un⟩ ⟨1,⟨#[101,108,101,109,101,110,116]⟩,0⟩=false) (c1:eqT ⟨uk,us,un⟩ ⟨1,⟨#[97,116,116,114,105,98,117,116,101]⟩,0⟩=false) (c2:eqT ⟨uk,us,un⟩ ⟨1,⟨#[116,101,120,116]⟩,0⟩=false) :
 Calls Tryz.prog 179 #[vP pb 0] w fun e w'=>e=.returned (.bool false)/\Below w.heap.size w w':=by
 have CS0:Hid (∀ W,Below w.heap.size w W->Calls Tryz.prog 81 #[vP pb 0,vI 0] W fun e w'=>e=.returned (.agg #[vI uk,vS us,vI un])/\Below w.heap.size w w'):=fun W hW=>(see_lit (h.below hW) 0 (by omega) hT hat hu).mono fun e w' ⟨k1,k2⟩=>⟨k1,hW.trans (k2.mono hW.size)⟩
 have E0:=eqT_run (k:=uk) (s:=us) (n:=un) (k':=1) (s':=⟨#[101,108,101,109,101,110,116]⟩) (n':=0) c0
 have E1:=eqT_run (k:=uk) (s:=us) (n:=un) (k':=1) (s':=⟨#[97,116,116,114,105,98,117,116,101]⟩) (n':=0) c1
 have E2:=eqT_run (k:=uk) (s:=us) (n:=un) (k':=1) (s':=⟨#[116,101,120,116]⟩) (n':=0) c2
 have HB0:Hid (Below w.heap.size w w):=Below.refl _ _
 clear h
 go_enter Tryz.func179,Tryz.ntmps179
 go_wp2_with (first
  | (go_at_call 81;have HNX:=HB0;(refine (CS0.out _ HB0.out).mono ?_);rintro e w1 ⟨rfl,hb⟩;have HB1:Hid (Below w.heap.size w w1):=hb;clear hb HNX HB0)
  | (go_at_call 119;have HNX:=HB1;refine (word_is _ _).mono ?_;rintro e w2 ⟨rfl,hb⟩;have HB2:=HidOf (HB1.out.trans (hb.mono HB1.out.size));clear hb HNX HB1)
  | (go_at_call 119;have HNX:=HB2;refine (word_is _ _).mono ?_;rintro e w3 ⟨rfl,hb⟩;have HB3:=HidOf (HB2.out.trans (hb.mono HB2.out.size));clear hb HNX HB2)
  | (go_at_call 119;have HNX:=HB3;refine (word_is _ _).mono ?_;rintro e w4 ⟨rfl,hb⟩;have HB4:=HidOf (HB3.out.trans (hb.mono HB3.out.size));clear hb HNX HB3))
 go_ret
 exact ⟨rfl,by first | exact HB4.out | exact HB4.out.alloc HB4.out.size _⟩
theorem makeBegins_any {w:World} {pb b c:Nat} {T:List Tok} {st:Pst} (h:PaS w pb b c T st) (hT:T.length<=200) (hat:st.at'<=300):Calls Tryz.prog 179 #[vP pb 0] w fun e w'=>e=.returned (.bool (mkBeg (seeM T st 0) (seeM T st 1) (seeM T st 2)))/\Below w.heap.size w w':=by
 obtain ⟨⟨uk,us,un⟩,hu⟩:∃ u,seeM T st 0=u:=⟨_,rfl⟩
 obtain ⟨⟨u1k,u1s,u1n⟩,hu1⟩:∃ u,seeM T st 1=u:=⟨_,rfl⟩
 obtain ⟨⟨u2k,u2s,u2n⟩,hu2⟩:∃ u,seeM T st 2=u:=⟨_,rfl⟩
 rw [hu,hu1,hu2]
 unfold mkBeg
 cases c0:eqT ⟨uk,us,un⟩ ⟨1,⟨#[101,108,101,109,101,110,116]⟩,0⟩
 case true =>
  cases k1:(u1k == 1)
  · simpa [k1] using makeBegins_en h hT hat hu hu1 k1 c0
  · simpa [k1] using makeBegins_ey h hT hat hu hu1 hu2 k1 rfl c0
 cases c1:eqT ⟨uk,us,un⟩ ⟨1,⟨#[97,116,116,114,105,98,117,116,101]⟩,0⟩
 case true =>
  cases k1:(u1k == 1)
  · simpa [k1] using makeBegins_an h hT hat hu hu1 k1 c0 c1
  · simpa [k1] using makeBegins_ay h hT hat hu hu1 hu2 k1 rfl c0 c1
 cases c2:eqT ⟨uk,us,un⟩ ⟨1,⟨#[116,101,120,116]⟩,0⟩
 case true=>simpa using makeBegins_t h hT hat hu hu1 rfl c0 c1 c2
 simpa using makeBegins_no h hT hat hu c0 c1 c2
open Go.RowKit
def RTab (w:World) (pb:Nat):Prop:=OpTab w/\KtTab w/\AxTab w/\5≠pb/\9≠pb/\8≠pb
theorem RTab.grow {w w':World} {pb:Nat} (h:RTab w pb) (hg:GrowA pb w w'):RTab w' pb:=⟨h.1.grow hg h.2.2.2.1,h.2.1.grow hg h.2.2.2.2.1,h.2.2.1.grow hg h.2.2.2.2.2,h.2.2.2⟩
def RunT (pb b c:Nat) (T:List Tok) (f:Nat) (args:Array Value) (st st':Pst) (p:Ph):Prop:=∀ (w:World),PaS w pb b c T st->RTab w pb->Calls Tryz.prog f args w fun e w'=>∃ v,Tre w' w.heap.size p v/\e=.returned (.agg v.toArray)/\PaS w' pb b c T st'/\GrowA pb w w'
def RunL (pb b c:Nat) (T:List Tok) (f:Nat) (st st':Pst) (n:Nat) (A:Nat->Ph):Prop:=∀ (w:World),PaS w pb b c T st->RTab w pb->Calls Tryz.prog f #[vP pb 0] w fun e w'=>∃ v,Phs w' w.heap.size n A v/\e=.returned v/\PaS w' pb b c T st'/\GrowA pb w w'
theorem RunT.use {pb b c:Nat} {T:List Tok} {f:Nat} {args:Array Value} {st st':Pst} {p:Ph} (h:RunT pb b c T f args st st' p) {w W:World} {r0:Nat} (ht:RTab w pb) (hp:PaS W pb b c T st) (hg:GrowA pb w W) (hl:r0<W.heap.size) :
 Calls Tryz.prog f args W fun e w'=>∃ lo v,(r0<lo/\pb<lo/\lo<=w'.heap.size)/\Tre w' lo p v/\e=.returned (.agg v.toArray)/\PaS w' pb b c T st'/\GrowA pb W w' :=
 (h W hp (ht.grow hg)).mono fun e w' ⟨v,h1,h2,h3,h4⟩=>⟨W.heap.size,v,⟨hl,hp.pl,h4.1⟩,h1,h2,h3,h4⟩
theorem RunL.use {pb b c:Nat} {T:List Tok} {f:Nat} {st st':Pst} {n:Nat} {A:Nat->Ph} (h:RunL pb b c T f st st' n A) {w W:World} {r0:Nat} (ht:RTab w pb) (hp:PaS W pb b c T st) (hg:GrowA pb w W) (hl:r0<W.heap.size) :
 Calls Tryz.prog f #[vP pb 0] W fun e w'=>∃ lo v,(r0<lo/\pb<lo/\lo<=w'.heap.size)/\Phs w' lo n A v/\e=.returned v/\PaS w' pb b c T st'/\GrowA pb W w' :=
 (h W hp (ht.grow hg)).mono fun e w' ⟨v,h1,h2,h3,h4⟩=>⟨W.heap.size,v,⟨hl,hp.pl,h4.1⟩,h1,h2,h3,h4⟩
theorem Phs.below {w w':World} {lo na:Nat} {A:Nat->Ph} {v:Value} (h:Phs w lo na A v) (hb:Below w.heap.size w w'):Phs w' lo na A v:=by
 obtain ⟨a,c,h1,h2,h2',h3⟩:=h
 refine ⟨a,c,h1,h2,h2',fun hn=>?_⟩
 obtain ⟨g,q1,q2,q3⟩:=h3 hn
 refine ⟨g,q1,⟨q2.1,Nat.lt_of_lt_of_le q2.2 hb.size⟩,fun i hi=>?_⟩
 obtain ⟨u,r1,r2⟩:=q3 i hi
 exact ⟨u,r1.keep (hb.block g q2.2),r2.below hb⟩
def TkB (w:World) (x:Nat) (v:Array Value):Prop:=w.heap[x]?=some (.cells v 65)
theorem TkB.lt {w:World} {r:Nat} {v:Array Value} (h:TkB w r v):r<w.heap.size:=(gI h).1
theorem TkB.new (w:World) (v:Array Value):TkB (w.alloc (.cells v 65)) w.heap.size v:=heap_alloc_new _ _
theorem TkB.grow {w w':World} {pb r:Nat} {v:Array Value} (h:TkB w r v) (hg:GrowA pb w w') (hr:r≠pb):TkB w' r v:=(hg.2.2.2.2 r h.lt hr).trans h
theorem TkB.below {w w':World} {r:Nat} {v:Array Value} (h:TkB w r v) (hb:Below w.heap.size w w'):TkB w' r v:=(hb.block r h.lt).trans h
theorem TkB.allocI {w:World} {r:Nat} {v:Array Value} (h:TkB w r v) (o:Obj):TkB (w.alloc o) r v:=h.below ((Below.refl _ _).alloc (Nat.le_refl _) o)
theorem TkB.cells {w:World} {r:Nat} {k n:Int} {s:ByteArray} (h:TkB w r #[vI k,vS s,vI n]):w.cell? ⟨r,0,none⟩=some (vI k)/\w.cell? ⟨r,1,none⟩=some (vS s)/\w.cell? ⟨r,2,none⟩=some (vI n):=by
 unfold TkB at h
 refine ⟨?_,?_,?_⟩ <;> simp [World.cell?,h]
theorem PhB.put {w:World} {r:Nat} {y0 y1 y2 y3 y4 y5 y6 y7 y8 y9 y10:Value} (h:PhB w r #[y0,y1,y2,y3,y4,y5,y6,y7,y8,y9,y10]) {x0 x1 x2 x3 x4 x5 x6 x7 x8 x9 x10:Value}:PhB (((((((((((w.setCell ⟨r,0,none⟩ x0).setCell ⟨r,1,none⟩ x1).setCell ⟨r,2,none⟩ x2).setCell ⟨r,3,none⟩ x3).setCell ⟨r,4,none⟩ x4).setCell ⟨r,5,none⟩ x5).setCell ⟨r,6,none⟩ x6).setCell ⟨r,7,none⟩ x7).setCell ⟨r,8,none⟩ x8).setCell ⟨r,9,none⟩ x9).setCell ⟨r,10,none⟩ x10) r #[x0,x1,x2,x3,x4,x5,x6,x7,x8,x9,x10]:=by
 unfold PhB at h ⊢
 simp [World.setCell,Array.getElem?_modify,h]
theorem PhB.setAt {w:World} {r:Nat} {v:Array Value} (h:PhB w r v) (k:Nat) (u:Value):PhB (w.setCell ⟨r,k,none⟩ u) r (v.setIfInBounds k u):=by
 unfold PhB at h ⊢
 simp [World.setCell,Array.getElem?_modify,h]
theorem PhB.setO {w:World} {r x:Nat} {v:Array Value} (h:PhB w r v) (hn:r≠x) (k:Nat) (u:Value):PhB (w.setCell ⟨x,k,none⟩ u) r v:=(Below.heap_setCell _ _ _ _ (by simpa using hn)).trans h
theorem TkB.setO {w:World} {r x:Nat} {v:Array Value} (h:TkB w r v) (hn:r≠x) (k:Nat) (u:Value):TkB (w.setCell ⟨x,k,none⟩ u) r v:=(Below.heap_setCell _ _ _ _ (by simpa using hn)).trans h
theorem phs_new {w:World} {lo:Nat} {p:Ph} {u:List Value} (hp:Tre w lo p u) (hl:lo<=w.heap.size) (hu:u.length=11):Phs (w.alloc (.cells u.toArray 44)) lo 1 (fun _=>p) (vL w.heap.size 0 1 1):=phs_one (heap_alloc_new _ _) hl (hp.allocI _) hu
theorem phs_at {w:World} {lo g:Nat} {p:Ph} {u:List Value} (hg:w.heap.size=g) (hp:Tre w lo p u) (hl:lo<=g) (hu:u.length=11):Phs (w.alloc (.cells u.toArray 44)) lo 1 (fun _=>p) (vL g 0 1 1):=by
 subst hg
 exact phs_new hp hl hu
open Go.RowKit
theorem want_eq {w:World} {pb b c:Nat} {T:List Tok} {st:Pst} (h:PaS w pb b c T st) (hT:T.length<=200) (hat:st.at'<=300) {k n:Int} {s:ByteArray} {st2:Pst} (hs:wantM T st ⟨k,s,n⟩=st2) :
 Calls Tryz.prog 144 #[vP pb 0,.agg #[vI k,vS s,vI n]] w fun e w'=>e=.returned (.tuple #[])/\PaS w' pb b c T st2/\GrowA pb w w':=by
 have:=want_is h ⟨k,s,n⟩ hT hat
 rw [hs] at this
 exact this
theorem clone_of (s:ByteArray) (w:World) (hs:s.size<=4000):Calls Tryz.prog 75 #[vS s] w fun e w'=>e=.returned (vS s)/\Below w.heap.size w w':=by
 have CC:Hid (∀ W,Calls Tryz.prog 114 #[vS s] W fun e w'=>e=.returned (vS s)/\Below W.heap.size W w'):=fun W=>(Tryz.stringslite_Clone s W (by omega)).mono fun e w' h=>h
 go_enter Tryz.func75,Tryz.ntmps75
 go_wp2_with (go_at_call 114;refine (CC.out _).mono ?_;rintro e w1 ⟨rfl,hb1⟩)
 all_goals (exact bodyPost_ret (v:=vS s) (by simp [results,Tryz.results75,go_sem]) rfl ⟨rfl,hb1⟩)
theorem text_yes {w:World} {pb b c:Nat} {T:List Tok} {st:Pst} (h:PaS w pb b c T st) (hT:T.length<=200) (hat:st.at'<=300) {k un:Int} {us:ByteArray} (hu:seeM T st 0=⟨k,us,un⟩) (hs:us.size<=4000) :
 Calls Tryz.prog 145 #[vP pb 0,vI k] w fun e w'=>e=.returned (vS us)/\PaS w' pb b c T { st with at':=st.at' + 1 }/\GrowA pb w w':=by
 have HP1:Hid (PaS w pb b c T st):=h
 have HG1:Hid (GrowA pb w w):=GrowA.refl _ _
 have hk2:(k != k)=false:=by simp
 have hwr:IntKind.i64.wrap ((st.at':Int) + 1)=((st.at' + 1:Nat):Int):=by rw [IntWalk.i64_in _ (by omega)];simp
 have CL:Hid (∀ W,Calls Tryz.prog 75 #[vS us] W fun e w'=>e=.returned (vS us)/\Below W.heap.size W w'):=fun W=>clone_of us W hs
 clear h
 go_enter Tryz.func145,Tryz.ntmps145
 go_upto_region 2 with (first
  | (go_at_call 81;(refine (see_lit HP1.out 0 (by omega) hT hat hu).mono ?_);rintro e w2 ⟨rfl,hb⟩;have HG2:=HidOf (HG1.out.below hb);have HP2:=HidOf (HP1.out.below hb);have hxp:w2.heap.size≠pb:=(by have:=HP2.out.pl;omega);clear hb HP1 HG1))
 obtain ⟨W3,hW3⟩:∃ W,W=w2.alloc (.cells #[vI k,vS us,vI un] 65):=⟨_,rfl⟩
 have HP3:Hid (PaS W3 pb b c T st):=by rw [hW3];exact HP2.out.allocI _
 have HG3:Hid (GrowA pb w W3):=by rw [hW3];exact HG2.out.alloc _
 have HX3:Hid (TkB W3 w2.heap.size #[vI k,vS us,vI un]):=by rw [hW3];exact TkB.new w2 _
 have hxp:w2.heap.size≠pb:=by have:=HP2.out.pl;omega
 rw [<- hW3]
 clear hW3 HP2 HG2
 have x1:=HP3.out.a
 have f1:=HP3.out.fa
 have hl3:=HP3.out.pl
 have hx3:=HX3.out.lt
 obtain ⟨d0,d1,d2⟩:=HX3.out.cells
 obtain ⟨W4,hW4⟩:∃ W,W=W3.setCell ⟨pb,1,none⟩ (vI ((st.at':Int) + 1)):=⟨_,rfl⟩
 have HP4:Hid (PaS W4 pb b c T { st with at':=st.at' + 1 }):=by rw [hW4];exact HP3.out.setA (st.at' + 1)
 have HG4:Hid (GrowA pb w W4):=by rw [hW4];exact HG3.out.set 1 _
 have HX4:Hid (TkB W4 w2.heap.size #[vI k,vS us,vI un]):=by rw [hW4];exact HX3.out.grow ((GrowA.refl _ _).set 1 _) hxp
 go_upto_region 6 with fail
 rw [<- hW4]
 clear hW4 x1 f1 hl3 hx3 d0 d1 d2
 obtain ⟨d0,d1,d2⟩:=HX4.out.cells
 have hx4:=HX4.out.lt
 go_wp2_with (go_at_call 75;refine (CL.out _).mono ?_;rintro e w5 ⟨rfl,hb5⟩)
 go_ret
 exact ⟨rfl,HP4.out.below hb5,HG4.out.below hb5⟩
open Go.RowKit
theorem noStep_num {pb b c:Nat} {T:List Tok} {st:Pst} {us:ByteArray} {un:Int} (hT:T.length<=200) (hat:st.at'<=300) (hu:seeM T st 0=⟨2,us,un⟩):RunT pb b c T 176 #[vP pb 0] st { st with at':=st.at' + 1 } (ph0 1 ⟨2,un,⟨#[]⟩⟩ ⟨#[]⟩ 0 0 0 ⟨#[]⟩):=by
 intro w h htb
 have HTB:Hid (RTab w pb):=htb
 clear htb
 have hpl:=h.pl
 have hbl:=h.bl
 go_enter Tryz.func176,Tryz.ntmps176
 go_upto_region 1 with fail
 obtain ⟨W1,hW1⟩:∃ W,W=w.alloc (.cells (pZA 0) 44):=⟨_,rfl⟩
 have HG1:Hid (GrowA pb w W1):=by rw [hW1];exact (GrowA.refl _ _).alloc _
 have HP1:Hid (PaS W1 pb b c T st):=by rw [hW1];exact h.allocI _
 have HR1:Hid (PhZ W1 w.heap.size):=by rw [hW1];exact PhB.new w _
 rw [<- hW1]
 obtain ⟨r,hr⟩:∃ r,r=w.heap.size:=⟨_,rfl⟩
 have HRW:Hid (w.heap.size<=r):=Nat.le_of_eq hr.symm
 have hrp:r≠pb:=by omega
 have hrb:r≠b:=by omega
 rw [<- hr] at HR1 ⊢
 clear hW1 hr h hpl hbl
 go_upto_region 2 with (first
  | (go_at_call 81;(refine (see_lit HP1.out 0 (by omega) hT hat hu).mono ?_);rintro e w2 ⟨rfl,hb⟩;have HG2:=HidOf (HG1.out.below hb);have HP2:=HidOf (HP1.out.below hb);have HR2:=HidOf (HR1.out.below hb);have hxp:w2.heap.size≠pb:=(by have:=HP2.out.pl;omega);clear hb HP1 HG1 HR1))
 obtain ⟨W3,hW3⟩:∃ W,W=w2.alloc (.cells #[vI 2,vS us,vI un] 65):=⟨_,rfl⟩
 have HP3:Hid (PaS W3 pb b c T st):=by rw [hW3];exact HP2.out.allocI _
 have HG3:Hid (GrowA pb w W3):=by rw [hW3];exact HG2.out.alloc _
 have HR3:Hid (PhZ W3 r):=by rw [hW3];exact HR2.out.allocI _
 have HX3:Hid (TkB W3 w2.heap.size #[vI 2,vS us,vI un]):=by rw [hW3];exact TkB.new w2 _
 have hxp:w2.heap.size≠pb:=by have:=HP2.out.pl;omega
 rw [<- hW3]
 clear hW3 HP2 HG2 HR2
 have x1:=HP3.out.a
 have f1:=HP3.out.fa
 have hl3:=HP3.out.pl
 have hx3:=HX3.out.lt
 have hr3:=HR3.out.lt
 obtain ⟨d0,d1,d2⟩:=HX3.out.cells
 have hwr:IntKind.i64.wrap ((st.at':Int) + 1)=((st.at' + 1:Nat):Int):=by rw [IntWalk.i64_in _ (by omega)];simp
 obtain ⟨W4,hW4⟩:∃ W,W=W3.setCell ⟨pb,1,none⟩ (vI ((st.at':Int) + 1)):=⟨_,rfl⟩
 have HP4:Hid (PaS W4 pb b c T { st with at':=st.at' + 1 }):=by rw [hW4];exact HP3.out.setA (st.at' + 1)
 have HG4:Hid (GrowA pb w W4):=by rw [hW4];exact HG3.out.set 1 _
 have HR4:Hid (PhZ W4 r):=by rw [hW4];exact HR3.out.grow ((GrowA.refl _ _).set 1 _) hrp
 have HX4:Hid (TkB W4 w2.heap.size #[vI 2,vS us,vI un]):=by rw [hW4];exact HX3.out.grow ((GrowA.refl _ _).set 1 _) hxp
 go_upto_region 4 with fail
 rw [<- hW4]
 clear hW4 x1 f1 hl3 hx3 hr3 d0 d1 d2 HP3 HG3 HR3 HX3
 obtain ⟨d0,d1,d2⟩:=HX4.out.cells
 have hx4:=HX4.out.lt
 have hr4:=HR4.out.lt
 obtain ⟨⟨y0,y1,y2,y3,y4,y5,y6,y7,y8,y9,y10⟩,z0,z1,z2,z3,z4,z5,z6,z7,z8,z9,z10⟩:=HR4.out.cells
 go_wp2
 refine bodyPost_ret (v:=.agg (pA 1 2 un ⟨#[]⟩ ⟨#[]⟩ 0 0 0 ⟨#[]⟩ none 0 0 none 0 0)) (by simp [results,Tryz.results176,go_sem,y0,y1,y2,y3,y4,y5,y6,y7,y8,y9,y10]) rfl ⟨(pL 1 2 un ⟨#[]⟩ ⟨#[]⟩ 0 0 0 ⟨#[]⟩ none 0 0 none 0 0),?_,rfl,?_,?_⟩
 · exact tre_ph0
 · (repeat (first | with_reducible refine PaS.setR ?_ hrp hrb _ _ | with_reducible refine PaS.allocI ?_ _ | exact HP4.out))
 · (repeat (first | with_reducible refine GrowA.setR ?_ HRW.out _ _ | with_reducible refine GrowA.alloc ?_ _ | exact HG4.out))
theorem noStep_quo {pb b c:Nat} {T:List Tok} {st:Pst} {us:ByteArray} {un:Int} (hT:T.length<=200) (hat:st.at'<=300) (hu:seeM T st 0=⟨3,us,un⟩) (hs:us.size<=4000):RunT pb b c T 176 #[vP pb 0] st { st with at':=st.at' + 1 } (ph0 1 ⟨3,0,us⟩ ⟨#[]⟩ 0 0 0 ⟨#[]⟩):=by
 intro w h htb
 have HTB:Hid (RTab w pb):=htb
 clear htb
 have CL:Hid (∀ W,Calls Tryz.prog 75 #[vS us] W fun e w'=>e=.returned (vS us)/\Below W.heap.size W w'):=fun W=>clone_of us W hs
 have hpl:=h.pl
 have hbl:=h.bl
 go_enter Tryz.func176,Tryz.ntmps176
 go_upto_region 1 with fail
 obtain ⟨W1,hW1⟩:∃ W,W=w.alloc (.cells (pZA 0) 44):=⟨_,rfl⟩
 have HG1:Hid (GrowA pb w W1):=by rw [hW1];exact (GrowA.refl _ _).alloc _
 have HP1:Hid (PaS W1 pb b c T st):=by rw [hW1];exact h.allocI _
 have HR1:Hid (PhZ W1 w.heap.size):=by rw [hW1];exact PhB.new w _
 rw [<- hW1]
 obtain ⟨r,hr⟩:∃ r,r=w.heap.size:=⟨_,rfl⟩
 have HRW:Hid (w.heap.size<=r):=Nat.le_of_eq hr.symm
 have hrp:r≠pb:=by omega
 have hrb:r≠b:=by omega
 rw [<- hr] at HR1 ⊢
 clear hW1 hr h hpl hbl
 go_upto_region 2 with (first
  | (go_at_call 81;(refine (see_lit HP1.out 0 (by omega) hT hat hu).mono ?_);rintro e w2 ⟨rfl,hb⟩;have HG2:=HidOf (HG1.out.below hb);have HP2:=HidOf (HP1.out.below hb);have HR2:=HidOf (HR1.out.below hb);have hxp:w2.heap.size≠pb:=(by have:=HP2.out.pl;omega);clear hb HP1 HG1 HR1))
 obtain ⟨W3,hW3⟩:∃ W,W=w2.alloc (.cells #[vI 3,vS us,vI un] 65):=⟨_,rfl⟩
 have HP3:Hid (PaS W3 pb b c T st):=by rw [hW3];exact HP2.out.allocI _
 have HG3:Hid (GrowA pb w W3):=by rw [hW3];exact HG2.out.alloc _
 have HR3:Hid (PhZ W3 r):=by rw [hW3];exact HR2.out.allocI _
 have HX3:Hid (TkB W3 w2.heap.size #[vI 3,vS us,vI un]):=by rw [hW3];exact TkB.new w2 _
 have hxp:w2.heap.size≠pb:=by have:=HP2.out.pl;omega
 rw [<- hW3]
 clear hW3 HP2 HG2 HR2
 have x1:=HP3.out.a
 have f1:=HP3.out.fa
 have hl3:=HP3.out.pl
 have hx3:=HX3.out.lt
 have hr3:=HR3.out.lt
 obtain ⟨d0,d1,d2⟩:=HX3.out.cells
 have hwr:IntKind.i64.wrap ((st.at':Int) + 1)=((st.at' + 1:Nat):Int):=by rw [IntWalk.i64_in _ (by omega)];simp
 obtain ⟨W4,hW4⟩:∃ W,W=W3.setCell ⟨pb,1,none⟩ (vI ((st.at':Int) + 1)):=⟨_,rfl⟩
 have HP4:Hid (PaS W4 pb b c T { st with at':=st.at' + 1 }):=by rw [hW4];exact HP3.out.setA (st.at' + 1)
 have HG4:Hid (GrowA pb w W4):=by rw [hW4];exact HG3.out.set 1 _
 have HR4:Hid (PhZ W4 r):=by rw [hW4];exact HR3.out.grow ((GrowA.refl _ _).set 1 _) hrp
 have HX4:Hid (TkB W4 w2.heap.size #[vI 3,vS us,vI un]):=by rw [hW4];exact HX3.out.grow ((GrowA.refl _ _).set 1 _) hxp
 go_upto_region 7 with fail
 rw [<- hW4]
 clear hW4 x1 f1 hl3 hx3 hr3 d0 d1 d2 HP3 HG3 HR3 HX3
 obtain ⟨d0,d1,d2⟩:=HX4.out.cells
 have hx4:=HX4.out.lt
 have hr4:=HR4.out.lt
 go_wp2_with (go_at_call 75;refine (CL.out _).mono ?_;rintro e w5 ⟨rfl,hb⟩;have HP5:Hid (PaS w5 pb b c T { st with at':=st.at' + 1 }):=HP4.out.below hb;have HG5:Hid (GrowA pb w w5):=HG4.out.below hb;have HR5:Hid (PhZ w5 r):=HR4.out.below hb;have hr5:=HR5.out.lt;obtain ⟨⟨y0,y1,y2,y3,y4,y5,y6,y7,y8,y9,y10⟩,z0,z1,z2,z3,z4,z5,z6,z7,z8,z9,z10⟩:=HR5.out.cells;clear hb HP4 HG4 HR4)
 refine bodyPost_ret (v:=.agg (pA 1 3 0 us ⟨#[]⟩ 0 0 0 ⟨#[]⟩ none 0 0 none 0 0)) (by simp [results,Tryz.results176,go_sem,y0,y1,y2,y3,y4,y5,y6,y7,y8,y9,y10]) rfl ⟨(pL 1 3 0 us ⟨#[]⟩ 0 0 0 ⟨#[]⟩ none 0 0 none 0 0),?_,rfl,?_,?_⟩
 · exact tre_ph0
 · (repeat (first | with_reducible refine PaS.setR ?_ hrp hrb _ _ | with_reducible refine PaS.allocI ?_ _ | exact HP5.out))
 · (repeat (first | with_reducible refine GrowA.setR ?_ HRW.out _ _ | with_reducible refine GrowA.alloc ?_ _ | exact HG5.out))
theorem noStep_dol {pb b c:Nat} {T:List Tok} {st:Pst} {us:ByteArray} {un:Int} (hT:T.length<=200) (hat:st.at'<=300) (hu:seeM T st 0=⟨4,us,un⟩) (hs:us.size<=4000):RunT pb b c T 176 #[vP pb 0] st { st with at':=st.at' + 1 } (ph0 2 ⟨0,0,⟨#[]⟩⟩ us 0 0 0 ⟨#[]⟩):=by
 intro w h htb
 have HTB:Hid (RTab w pb):=htb
 clear htb
 have hpl:=h.pl
 have hbl:=h.bl
 go_enter Tryz.func176,Tryz.ntmps176
 go_upto_region 1 with fail
 obtain ⟨W1,hW1⟩:∃ W,W=w.alloc (.cells (pZA 0) 44):=⟨_,rfl⟩
 have HG1:Hid (GrowA pb w W1):=by rw [hW1];exact (GrowA.refl _ _).alloc _
 have HP1:Hid (PaS W1 pb b c T st):=by rw [hW1];exact h.allocI _
 have HR1:Hid (PhZ W1 w.heap.size):=by rw [hW1];exact PhB.new w _
 rw [<- hW1]
 obtain ⟨r,hr⟩:∃ r,r=w.heap.size:=⟨_,rfl⟩
 have HRW:Hid (w.heap.size<=r):=Nat.le_of_eq hr.symm
 have hrp:r≠pb:=by omega
 have hrb:r≠b:=by omega
 rw [<- hr] at HR1 ⊢
 clear hW1 hr h hpl hbl
 go_upto_region 2 with (first
  | (go_at_call 81;(refine (see_lit HP1.out 0 (by omega) hT hat hu).mono ?_);rintro e w2 ⟨rfl,hb⟩;have HG2:=HidOf (HG1.out.below hb);have HP2:=HidOf (HP1.out.below hb);have HR2:=HidOf (HR1.out.below hb);have hxp:w2.heap.size≠pb:=(by have:=HP2.out.pl;omega);clear hb HP1 HG1 HR1))
 obtain ⟨W3,hW3⟩:∃ W,W=w2.alloc (.cells #[vI 4,vS us,vI un] 65):=⟨_,rfl⟩
 have HP3:Hid (PaS W3 pb b c T st):=by rw [hW3];exact HP2.out.allocI _
 have HG3:Hid (GrowA pb w W3):=by rw [hW3];exact HG2.out.alloc _
 have HR3:Hid (PhZ W3 r):=by rw [hW3];exact HR2.out.allocI _
 have HX3:Hid (TkB W3 w2.heap.size #[vI 4,vS us,vI un]):=by rw [hW3];exact TkB.new w2 _
 rw [<- hW3]
 clear hW3 HP2 HG2 HR2
 obtain ⟨d0,d1,d2⟩:=HX3.out.cells
 have hx3:=HX3.out.lt
 go_wp2_with (go_at_call 145;refine (text_yes HP3.out hT hat hu hs).mono ?_;rintro e w4 ⟨rfl,hp,hg⟩;have HP4:Hid (PaS w4 pb b c T { st with at':=st.at' + 1 }):=hp;have HG4:Hid (GrowA pb w w4):=HG3.out.trans hg;have HR4:Hid (PhZ w4 r):=HR3.out.grow hg hrp;have hr4:=HR4.out.lt;obtain ⟨⟨y0,y1,y2,y3,y4,y5,y6,y7,y8,y9,y10⟩,z0,z1,z2,z3,z4,z5,z6,z7,z8,z9,z10⟩:=HR4.out.cells;clear hp hg HP3 HG3 HR3 HX3)
 refine bodyPost_ret (v:=.agg (pA 2 0 0 ⟨#[]⟩ us 0 0 0 ⟨#[]⟩ none 0 0 none 0 0)) (by simp [results,Tryz.results176,go_sem,y0,y1,y2,y3,y4,y5,y6,y7,y8,y9,y10]) rfl ⟨(pL 2 0 0 ⟨#[]⟩ us 0 0 0 ⟨#[]⟩ none 0 0 none 0 0),?_,rfl,?_,?_⟩
 · exact tre_ph0
 · (repeat (first | with_reducible refine PaS.setR ?_ hrp hrb _ _ | with_reducible refine PaS.allocI ?_ _ | exact HP4.out))
 · (repeat (first | with_reducible refine GrowA.setR ?_ HRW.out _ _ | with_reducible refine GrowA.alloc ?_ _ | exact HG4.out))
open Go.RowKit
open Go.RowKit
theorem isLetter_any (c:Int) (w:World) :
 Calls Tryz.prog 41 #[.int .u8 c] w fun e w'=>e=.returned (.bool (lett c))/\w'=w:=by
 go_enter Tryz.func41,Tryz.ntmps41
 go_wp2
 all_goals
  go_ret
  refine ⟨ret_bool ?_,rfl⟩
  rw [Bool.eq_iff_iff]
  simp_all [lett]
  try omega
theorem isDigit_any (c:Int) (w:World) :
 Calls Tryz.prog 43 #[.int .u8 c] w fun e w'=>e=.returned (.bool (dgt c))/\w'=w:=by
 go_enter Tryz.func43,Tryz.ntmps43
 go_wp2
 all_goals
  go_ret
  refine ⟨ret_bool ?_,rfl⟩
  rw [Bool.eq_iff_iff]
  simp_all [dgt]
  try omega
theorem isWordByte_any (c:Int) (f:Bool) (w:World) :
 Calls Tryz.prog 113 #[.int .u8 c,.bool f] w fun e w'=>e=.returned (.bool (wb c f))/\w'=w:=by
 have hw:wb c f=(lett c || (!f && (dgt c || decide (c=45)))):=rfl
 have HW:Hid (wb c f=(lett c || (!f && (dgt c || decide (c=45))))):=hw
 clear hw
 cases f <;> cases hl:lett c <;> cases hd:dgt c
 all_goals
  go_enter Tryz.func113,Tryz.ntmps113
  go_wp2_with (first
   | (go_at_call 41;refine (isLetter_any _ _).mono ?_;rintro e w' ⟨rfl,rfl⟩)
   | (go_at_call 43;refine (isDigit_any _ _).mono ?_;rintro e w' ⟨rfl,rfl⟩))
  all_goals
   go_ret
   refine ⟨ret_bool ?_,rfl⟩
   rw [HW.out]
   simp_all
   try rfl
theorem wordBytes_any (s:ByteArray) (w:World) (hs:s.size<=maxLen) :
 Calls Tryz.prog 73 #[vS s] w fun e w'=>e=.returned (vI (wl s.data.toList true))/\w'=w:=by
 unfold maxLen at hs
 have hle:wl s.data.toList true<=s.size:=wl_le _ _
 go_enter Tryz.func73,Tryz.ntmps73
 go_wp2
 go_loop [3] (fun i=>∃ k:Nat,k<=wl s.data.toList true/\i=vI k) (fun i=>s.size - (intOf i).toNat)
 case atStart=>exact ⟨0,Nat.zero_le _,rfl⟩
 case round =>
  obtain ⟨k,hk,rfl⟩:=hrel
  by_cases hlt:k<wl s.data.toList true
  · have hks:k<s.size:=by omega
    have hb0:wb (byteAt s k) (decide (k=0))=true:=by have:=wl_lt s.data.toList true k hlt;simpa [byteAt_bAt] using this
    have hb:wb (s[k].toNat:Int) ((k:Int) == 0)=true:=by
     rw [byteAt_eq s k hks]
     have e:((k:Int) == 0)=decide (k=0):=by rw [Bool.eq_iff_iff];simp
     rw [e];exact hb0
    clear hb0
    go_wp2_with (go_at_call 113;refine (isWordByte_any _ _ _).mono ?_;rintro e w' ⟨rfl,rfl⟩)
    go_round
    case rel=>exact ⟨k + 1,by omega,by go_num⟩
    case measure=>simp [intOf];omega
  · have e:k=wl s.data.toList true:=by omega
    have E:Hid (k=wl s.data.toList true):=e
    by_cases hks:k<s.size
    · have hb0:wb (byteAt s k) (decide (k=0))=false:=by
       have:=wl_eq s.data.toList true (by rw [<- e];exact hks)
       rw [<- e] at this;simpa [byteAt_bAt] using this
      have hb:wb (s[k].toNat:Int) ((k:Int) == 0)=false:=by
       rw [byteAt_eq s k hks]
       have e:((k:Int) == 0)=decide (k=0):=by rw [Bool.eq_iff_iff];simp
       rw [e];exact hb0
      clear hb0 hlt hk e hle
      go_wp2_with (go_at_call 113;refine (isWordByte_any _ _ _).mono ?_;rintro e w' ⟨rfl,rfl⟩)
      go_ret
      exact ⟨ret_int (by rw [E.out]),rfl⟩
    · clear hlt hk e hle
      go_wp2
      go_ret
      exact ⟨ret_int (by rw [E.out]),rfl⟩
theorem isName_any2 (s:ByteArray) (w:World) (hs:s.size<=maxLen) :
 Calls Tryz.prog 74 #[vS s] w fun e w'=>e=.returned (.bool (nmB s))/\w'=w:=by
 have C:Hid (∀ W,Calls Tryz.prog 73 #[vS s] W fun e w'=>e=.returned (vI (wl s.data.toList true))/\w'=W):=fun W=>wordBytes_any s W hs
 unfold maxLen at hs
 have HN:Hid (nmB s=(decide (1<=s.size/\s.size<=20) && decide (wl s.data.toList true=s.size))):=rfl
 generalize wl s.data.toList true=L at *
 by_cases h1:1<=s.size
 all_goals by_cases h2:s.size<=20
 all_goals by_cases h3:L=s.size
 all_goals
  go_enter Tryz.func74,Tryz.ntmps74
  go_wp2_with (go_at_call 73;refine (C.out _).mono ?_;rintro e w' ⟨rfl,rfl⟩)
  all_goals
   go_ret
   refine ⟨ret_bool ?_,rfl⟩
   rw [HN.out]
   rw [Bool.eq_iff_iff]
   simp
   try omega
open Go.RowKit
def mkS (k:Nat):ByteArray:=⟨(mkAt k).toArray⟩
def mkCells:Array Value:=#[vS ⟨#[58,58]⟩,vS ⟨#[47,47]⟩,vS ⟨#[46,46]⟩,vS ⟨#[58,61]⟩,vS ⟨#[33,61]⟩,vS ⟨#[60,61]⟩,vS ⟨#[62,61]⟩,vS ⟨#[60,60]⟩,vS ⟨#[62,62]⟩,vS ⟨#[47]⟩,vS ⟨#[40]⟩,vS ⟨#[41]⟩,vS ⟨#[91]⟩,vS ⟨#[93]⟩,vS ⟨#[123]⟩,vS ⟨#[125]⟩,vS ⟨#[44]⟩,vS ⟨#[46]⟩,vS ⟨#[64]⟩,vS ⟨#[42]⟩,vS ⟨#[61]⟩,vS ⟨#[60]⟩,vS ⟨#[62]⟩,vS ⟨#[43]⟩,vS ⟨#[45]⟩,vS ⟨#[124]⟩]
def MarkTab (w:World):Prop:=∃ t fr,w.heap[0]?=some (.cells mkCells t fr)
theorem MarkTab.below {w w':World} {B:Nat} (h:MarkTab w) (hb:Below B w w') (hB:0<B):MarkTab w':=by
 obtain ⟨t,fr,h⟩:=h
 exact ⟨t,fr,(hb.block 0 hB).trans h⟩
theorem MarkTab.heap {w w':World} (h:MarkTab w) (e:w'.heap=w.heap):MarkTab w':=by
 obtain ⟨t,fr,h⟩:=h
 exact ⟨t,fr,by rw [e];exact h⟩
theorem mk_index:∀ (k:Nat),k<26->∀ w,(Instr.index 119 (.agg mkCells) (vI (k:Int))).run Tryz.prog w=.ok (vS (mkS k)) w:=by
 intro k hk
 have:k=0\/k=1\/k=2\/k=3\/k=4\/k=5\/k=6\/k=7\/k=8\/k=9\/k=10\/k=11\/k=12\/k=13\/k=14\/k=15\/k=16\/k=17\/k=18\/k=19\/k=20\/k=21\/k=22\/k=23\/k=24\/k=25:=by omega
 rcases this with rfl | rfl | rfl | rfl | rfl | rfl | rfl | rfl | rfl | rfl | rfl | rfl | rfl | rfl | rfl | rfl | rfl | rfl | rfl | rfl | rfl | rfl | rfl | rfl | rfl | rfl <;> exact fun _=>by kernel_rfl
theorem mkS_list (k:Nat):(mkS k).data.toList=mkAt k:=by simp [mkS]
theorem firstMark_any (s:ByteArray) (w:World) (hM:MarkTab w) :
 Calls Tryz.prog 46 #[vS s] w fun e w'=>e=.returned (vS ⟨(fm s.data.toList).toArray⟩)/\w'=w:=by
 obtain ⟨tt,fr,hg⟩:=hM
 have HG:Hid (w.heap[0]?=some (.cells mkCells tt fr)):=hg
 clear hg
 go_enter Tryz.func46,Tryz.ntmps46
 go_wp2_with (refine wpList_load_row rfl 119 _ rfl 0 rfl tt _ fr _ HG.out Tryz.underlying119 rfl (by kernel_rfl) ?_)
 go_loop [6] (fun i=>∃ k:Nat,k<=26/\i=vI k/\fm s.data.toList=fmFrom s.data.toList k) (fun i=>26 - (intOf i).toNat)
 case atStart=>exact ⟨0,by omega,rfl,rfl⟩
 case round =>
  obtain ⟨k,hk,rfl,hno⟩:=hrel
  have HN:Hid (fm s.data.toList=fmFrom s.data.toList k):=hno
  clear hno
  by_cases hlt:k<26
  · have hI:=mk_index k hlt
    have HP:Hid (Calls Tryz.prog 78 #[vS s,vS (mkS k)] w fun e w'=>e=.returned (.bool ((mkAt k).isPrefixOf s.data.toList))/\w'=w):=by
     have:=Tryz.strings_HasPrefix s (mkS k) w
     rw [mkS_list] at this
     exact this
    cases hp:(mkAt k).isPrefixOf s.data.toList
    · have HR:Hid (fm s.data.toList=fmFrom s.data.toList (k + 1)):=HN.out.trans (fmFrom_miss hlt hp)
      rw [hp] at HP
      clear hp
      go_wp2_with (go_at_call 78;refine HP.out.mono ?_;rintro e w' ⟨rfl,rfl⟩)
      go_round
      case rel=>exact ⟨k + 1,by omega,by go_num,HR.out⟩
      case measure=>simp [intOf];omega
    · have HR:Hid (fm s.data.toList=mkAt k):=HN.out.trans (fmFrom_hit hlt hp)
      rw [hp] at HP
      clear hp
      go_wp2_with (go_at_call 78;refine HP.out.mono ?_;rintro e w' ⟨rfl,rfl⟩)
      go_ret
      exact ⟨by rw [HR.out];rfl,rfl⟩
  · have e:k=26:=by omega
    have HR:Hid (fm s.data.toList=[]):=by rw [e] at HN;exact HN.out.trans (fmFrom_end _)
    have hki:¬ ((k:Int)<26):=by omega
    clear e hlt hk
    go_wp2
    go_ret
    exact ⟨by rw [HR.out];rfl,rfl⟩
theorem bytes_eq_iff (a b:ByteArray):(a.toList == b.toList)=true↔a=b:=by
 rw [beq_iff_eq,ByteArray.toList_eq,ByteArray.toList_eq]
 constructor
 · intro h
   cases a;cases b
   simp only at h
   rw [Array.toList_inj.1 h]
 · rintro rfl;rfl
open Go.RowKit
theorem isEmptyT_yes {s:ByteArray} (h:s.size=0):s.toList.isEmpty=true:=by
 rw [ByteArray.toList_eq,List.isEmpty_iff,List.eq_nil_iff_length_eq_zero];exact h
theorem isEmptyT_no {s:ByteArray} (h:¬ s.size=0):s.toList.isEmpty=false:=by
 rw [ByteArray.toList_eq,List.isEmpty_eq_false_iff,ne_eq,List.eq_nil_iff_length_eq_zero];exact h
theorem below_drawnT {B:Nat} {w w':World} (h:Below B w w'):∀ n,Below B w (w'.drewN n)
 | 0=>h
 | n + 1=>(below_drawnT h n).drew
def txF (k:Int) (s:ByteArray):Int :=
 if k=3 then (if hasQ s.data.toList=true then 4 else textF s)
 else if k=5 then (if isMk s.data.toList=true then 0 else 6)
 else if nmB s=true then 0 else 10
def numF (s:ByteArray) (n:Int):Int:=if n<0\/1099511627776<n then 2 else if s.size≠0 then 4 else 0
theorem tokF_is (k:Int) (s:ByteArray) (n:Int):tokF k s n=if ¬ (1<=k/\k<=5) then 3 else if k=2 then numF s n else if n≠0 then 4 else txF k s:=by
 unfold tokF numF txF
 rfl
theorem checkNumber_any (k n:Int) (s:ByteArray) (w:World) :
 Calls Tryz.prog 47 #[.agg #[vI k,vS s,vI n]] w fun e w'=>e=.returned (vI (numF s n))/\Below w.heap.size w w':=by
 have HF:Hid (numF s n=if n<0\/1099511627776<n then 2 else if s.size≠0 then 4 else 0):=rfl
 generalize numF s n=F at HF
 by_cases hn:n<0
 · have HR:Hid (F=2):=HF.out.trans (if_pos (.inl hn))
   clear HF
   go_enter Tryz.func47,Tryz.ntmps47
   go_wp2
   go_ret
   exact ⟨ret_int HR.out.symm,(Below.refl _ _).alloc (Nat.le_refl _) _⟩
 by_cases hm:1099511627776<n
 · have HR:Hid (F=2):=HF.out.trans (if_pos (.inr hm))
   clear HF
   go_enter Tryz.func47,Tryz.ntmps47
   go_wp2
   go_ret
   exact ⟨ret_int HR.out.symm,(Below.refl _ _).alloc (Nat.le_refl _) _⟩
 have HG:Hid (F=if s.size≠0 then 4 else 0):=HF.out.trans (if_neg (by omega))
 clear HF
 by_cases hz:s.size=0
 · have he:=isEmptyT_yes hz
   have HR:Hid (F=0):=HG.out.trans (if_neg (by omega))
   clear HG hz
   go_enter Tryz.func47,Tryz.ntmps47
   go_wp2
   go_ret
   exact ⟨ret_int HR.out.symm,(Below.refl _ _).alloc (Nat.le_refl _) _⟩
 · have he:=isEmptyT_no hz
   have HR:Hid (F=4):=HG.out.trans (if_pos hz)
   clear HG hz
   go_enter Tryz.func47,Tryz.ntmps47
   go_wp2
   go_ret
   exact ⟨ret_int HR.out.symm,(Below.refl _ _).alloc (Nat.le_refl _) _⟩
theorem hasQ_is (s:ByteArray):decide (0<=Lib.indexByte s.data.toList 34)=hasQ s.data.toList:=(Lib.contains_iff_indexByte s.data.toList 34).symm
theorem fm_eq_yes {s:ByteArray} (h:isMk s.data.toList=true):((⟨(fm s.data.toList).toArray⟩:ByteArray).toList == s.toList)=true:=by
 rw [fm_isMk,Bool.and_eq_true] at h
 have h2:=of_decide_eq_true h.2
 rw [h2]
 simp [ByteArray.toList_eq]
theorem fm_eq_no {s:ByteArray} (h:isMk s.data.toList=false) (hz:¬ s.size=0):((⟨(fm s.data.toList).toArray⟩:ByteArray).toList == s.toList)=false:=by
 cases e:((⟨(fm s.data.toList).toArray⟩:ByteArray).toList == s.toList) with
 | false=>rfl
 | true =>
  have e':=(bytes_eq_iff _ _).1 e
  rw [fm_isMk] at h
  have h1:fm s.data.toList=s.data.toList:=by
   have:=congrArg (fun x:ByteArray=>x.data.toList) e'
   simpa using this
  have h2:s.data.toList≠[]:=by
   intro e0
   exact hz (by simpa using congrArg List.length e0)
  rw [decide_eq_true h1,decide_eq_true h2] at h
  exact absurd h (by decide)
theorem checkTextOf_any (k n:Int) (s:ByteArray) (w:World) (hs:s.size<=maxLen) (hT:Tabs w) (hM:MarkTab w) (hg:0<w.heap.size) :
 Calls Tryz.prog 48 #[.agg #[vI k,vS s,vI n]] w fun e w'=>e=.returned (vI (txF k s))/\Below w.heap.size w w':=by
 have CT:Hid (∀ o,Calls Tryz.prog 77 #[vS s] (w.alloc o) fun e w'=>e=.returned (vI (textF s))/\Below (w.alloc o).heap.size (w.alloc o) w') :=
  fun o=>checkText_any s _ hs (Utf8Tabs_below hT ((Below.refl _ _).alloc (Nat.le_refl _) _))
 have CQ:Hid (∀ W,Calls Tryz.prog 79 #[vS s,vS ⟨#[34]⟩] W fun e w'=>e=.returned (.bool (hasQ s.data.toList))/\w'=W):=fun W=>by
  have:=Tryz.strings_Contains_one s 34 W
  rw [hasQ_is] at this
  exact this
 have CF:Hid (∀ o z,Calls Tryz.prog 46 #[vS s] ((w.alloc o).drewN z) fun e w'=>e=.returned (vS ⟨(fm s.data.toList).toArray⟩)/\w'=(w.alloc o).drewN z) :=
  fun o z=>firstMark_any s _ (hM.below (below_drawnT ((Below.refl _ _).alloc (Nat.le_refl _) _) z) hg)
 have CN:Hid (∀ W,Calls Tryz.prog 74 #[vS s] W fun e w'=>e=.returned (.bool (nmB s))/\w'=W):=fun W=>isName_any2 s W hs
 have HF:Hid (txF k s=if k=3 then (if hasQ s.data.toList=true then 4 else textF s) else if k=5 then (if isMk s.data.toList=true then 0 else 6) else if nmB s=true then 0 else 10):=rfl
 generalize txF k s=F at HF
 clear hT hM hs hg
 by_cases k3:k=3
 · subst k3
   have HG:Hid (F=if hasQ s.data.toList=true then 4 else textF s):=HF.out
   clear HF CF CN
   generalize hasQ s.data.toList=B at *
   cases B
   all_goals
    go_enter Tryz.func48,Tryz.ntmps48
    go_wp2_with (first | (go_at_call 79;refine (CQ.out _).mono ?_;rintro e w2 ⟨rfl,rfl⟩) | (go_at_call 77;refine (CT.out _).mono ?_;rintro e w2 ⟨rfl,hb⟩))
    go_ret
    first
    | exact ⟨ret_int HG.out.symm,(Below.refl _ _).alloc (Nat.le_refl _) _⟩
    | exact ⟨ret_int HG.out.symm,((Below.refl _ _).alloc (Nat.le_refl _) _).trans (hb.mono (by simp))⟩
 clear CT CQ
 by_cases k5:k=5
 · subst k5
   have HG:Hid (F=if isMk s.data.toList=true then 0 else 6):=HF.out
   clear HF CN
   by_cases hz:s.size=0
   · have he:=isEmptyT_yes hz
     have HR:Hid (F=6):=HG.out.trans (if_neg (by
      rw [show s.data.toList=[] from List.eq_nil_of_length_eq_zero (by simpa using hz)];decide))
     clear HG hz CF
     go_enter Tryz.func48,Tryz.ntmps48
     go_wp2
     go_quiet (fail)
     go_wp2
     go_ret
     exact ⟨ret_int HR.out.symm,below_drawnT ((Below.refl _ _).alloc (Nat.le_refl _) _) _⟩
   · have he:=isEmptyT_no hz
     cases hk:isMk s.data.toList
     · have hq:=fm_eq_no hk hz
       rw [hk] at HG
       clear hk hz
       generalize (⟨(fm s.data.toList).toArray⟩:ByteArray)=M at *
       go_enter Tryz.func48,Tryz.ntmps48
       go_wp2
       go_quiet ((go_at_call 46;exact Calls.quiet_of_same (CF.out _ _)))
       go_wp2
       go_ret
       exact ⟨ret_int HG.out.symm,below_drawnT ((Below.refl _ _).alloc (Nat.le_refl _) _) _⟩
     · have hq:=fm_eq_yes hk
       rw [hk] at HG
       clear hk hz
       generalize (⟨(fm s.data.toList).toArray⟩:ByteArray)=M at *
       go_enter Tryz.func48,Tryz.ntmps48
       go_wp2
       go_quiet ((go_at_call 46;exact Calls.quiet_of_same (CF.out _ _)))
       go_wp2
       go_ret
       exact ⟨ret_int HG.out.symm,below_drawnT ((Below.refl _ _).alloc (Nat.le_refl _) _) _⟩
 · have HG:Hid (F=if nmB s=true then 0 else 10):=HF.out.trans ((if_neg k3).trans (if_neg k5))
   have k3':(k == 3)=false:=by simpa using k3
   have k5':(k == 5)=false:=by simpa using k5
   clear HF CF k3 k5
   generalize nmB s=B at *
   cases B
   all_goals
    go_enter Tryz.func48,Tryz.ntmps48
    go_wp2_with (first | (go_at_call 74;refine (CN.out _).mono ?_;rintro e w2 ⟨rfl,rfl⟩))
    go_ret
    exact ⟨ret_int HG.out.symm,(Below.refl _ _).alloc (Nat.le_refl _) _⟩
theorem checkToken_any (k n:Int) (s:ByteArray) (w:World) (hs:s.size<=maxLen) (hT:Tabs w) (hM:MarkTab w) (hg:0<w.heap.size) :
 Calls Tryz.prog 19 #[.agg #[vI k,vS s,vI n]] w fun e w'=>e=.returned (vI (tokF k s n))/\Below w.heap.size w w':=by
 have CT:Hid (∀ o,Calls Tryz.prog 48 #[.agg #[vI k,vS s,vI n]] (w.alloc o) fun e w'=>e=.returned (vI (txF k s))/\Below (w.alloc o).heap.size (w.alloc o) w') :=
  fun o=>checkTextOf_any k n s _ hs (Utf8Tabs_below hT ((Below.refl _ _).alloc (Nat.le_refl _) _)) (hM.below ((Below.refl _ _).alloc (Nat.le_refl _) _) hg) (by simp <;> omega)
 have CN:Hid (∀ o,Calls Tryz.prog 47 #[.agg #[vI k,vS s,vI n]] (w.alloc o) fun e w'=>e=.returned (vI (numF s n))/\Below (w.alloc o).heap.size (w.alloc o) w') :=
  fun o=>checkNumber_any k n s _
 have HF:Hid (tokF k s n=if ¬ (1<=k/\k<=5) then 3 else if k=2 then numF s n else if n≠0 then 4 else txF k s):=tokF_is k s n
 generalize tokF k s n=F at HF
 generalize numF s n=A at *
 generalize txF k s=X at *
 clear hT hM hs hg
 by_cases k2:k=2
 · subst k2
   have HG:Hid (F=A):=HF.out
   clear HF CT
   go_enter Tryz.func19,Tryz.ntmps19
   go_wp2_with (first | (go_at_call 47;refine (CN.out _).mono ?_;rintro e w2 ⟨rfl,hb⟩))
   go_ret
   exact ⟨ret_int HG.out.symm,((Below.refl _ _).alloc (Nat.le_refl _) _).trans (hb.mono (by simp))⟩
 clear CN
 by_cases hk:1<=k/\k<=5
 · have hk':k=1\/k=3\/k=4\/k=5:=by omega
   have HG:Hid (F=if n≠0 then 4 else X):=HF.out.trans ((if_neg (by omega)).trans (if_neg k2))
   clear HF
   by_cases hn:n=0
   · subst hn
     have HR:Hid (F=X):=HG.out
     clear HG k2 hk
     rcases hk' with rfl | rfl | rfl | rfl
     all_goals
      go_enter Tryz.func19,Tryz.ntmps19
      go_wp2_with (first | (go_at_call 48;refine (CT.out _).mono ?_;rintro e w2 ⟨rfl,hb⟩))
      go_ret
      exact ⟨ret_int HR.out.symm,((Below.refl _ _).alloc (Nat.le_refl _) _).trans (hb.mono (by simp))⟩
   · have hn':(n == 0)=false:=by simpa using hn
     have HR:Hid (F=4):=HG.out.trans (if_pos hn)
     clear HG k2 hk hn CT
     rcases hk' with rfl | rfl | rfl | rfl
     all_goals
      go_enter Tryz.func19,Tryz.ntmps19
      go_wp2
      go_ret
      exact ⟨ret_int HR.out.symm,(Below.refl _ _).alloc (Nat.le_refl _) _⟩
 · have HR:Hid (F=3):=HF.out.trans (if_pos hk)
   have e1:(k == 1)=false:=by simp;omega
   have e2:(k == 2)=false:=by simp;omega
   have e3:(k == 3)=false:=by simp;omega
   have e4:(k == 4)=false:=by simp;omega
   have e5:(k == 5)=false:=by simp;omega
   clear HF CT k2 hk
   go_enter Tryz.func19,Tryz.ntmps19
   go_wp2
   go_ret
   exact ⟨ret_int HR.out.symm,(Below.refl _ _).alloc (Nat.le_refl _) _⟩
open Go.RowKit
theorem ext_drop (s:ByteArray) (b:Nat):(s.extract b s.size).data.toList=s.data.toList.drop b:=by
 rw [Lib.extract_data]
 refine List.take_of_length_le ?_
 rw [List.length_drop];simp
theorem ext_take (s:ByteArray) (b m:Nat):(s.extract b (b + m)).data.toList=(s.data.toList.drop b).take m:=by
 rw [Lib.extract_data];congr 1;omega
theorem bs_eq {x:ByteArray} {l:List UInt8} (h:x.data.toList=l):x=bs l:=by rw [<- h,bs_of]
theorem clone_any (s:ByteArray) (w:World) (hs:s.size<=1000) :
 Calls Tryz.prog 75 #[vS s] w fun e w'=>e=.returned (vS s)/\Below w.heap.size w w':=by
 have C:Hid (Calls Tryz.prog 114 #[vS s] w fun e w'=>e=.returned (vS s)/\Below w.heap.size w w'):=Tryz.stringslite_Clone s w (by omega)
 go_enter Tryz.func75,Tryz.ntmps75
 go_wp2_with (go_at_call 114;refine C.out.mono ?_;rintro e w1 ⟨rfl,hb⟩)
 go_ret
 exact ⟨rfl,hb⟩
theorem trim_any (s:ByteArray) (w:World) :
 Calls Tryz.prog 40 #[vS s,vS ⟨#[32,10,9]⟩] w fun e w'=>e=.returned (vS (bs (s.data.toList.drop (bl s.data.toList))))/\Below w.heap.size w w':=by
 have:=Any.strings_TrimLeft_ascii Tryz.lays161 (fun _=>by kernel_rfl) (by kernel_rfl) s ⟨#[32,10,9]⟩ w (by decide) (by
  intro j b hj
  match j,hj with
  | 0,hj=>simp at hj;subst hj;decide
  | 1,hj=>simp at hj;subst hj;decide
  | 2,hj=>simp at hj;subst hj;decide)
 rw [show (⟨#[32,10,9]⟩:ByteArray).data.toList=[32,10,9] from rfl,bl_trim] at this
 exact this
theorem blankBytes_any (s:ByteArray) (w:World) (hs:s.size<=1000) :
 Calls Tryz.prog 17 #[vS s] w fun e w'=>e=.returned (vI (bl s.data.toList))/\Below w.heap.size w w':=by
 have C:Hid (Calls Tryz.prog 40 #[vS s,vS ⟨#[32,10,9]⟩] w fun e w'=>e=.returned (vS (bs (s.data.toList.drop (bl s.data.toList))))/\Below w.heap.size w w'):=trim_any s w
 have hle:bl s.data.toList<=s.size:=bl_le _
 have hz:(bs (s.data.toList.drop (bl s.data.toList))).size=s.size - bl s.data.toList:=by rw [bs_size,List.length_drop];rfl
 generalize bl s.data.toList=B at *
 generalize bs (s.data.toList.drop B)=T at *
 have hT:T.size<=1000:=by omega
 have HZ:Hid (T.size=s.size - B):=hz
 clear hz
 go_enter Tryz.func17,Tryz.ntmps17
 go_wp2_with (go_at_call 40;refine C.out.mono ?_;rintro e w1 ⟨rfl,hb⟩)
 go_ret
 exact ⟨ret_int (by have:=HZ.out;omega),hb⟩
theorem nmB_take (x:List UInt8):nmB (bs (x.take (wl x true)))=decide (1<=wl x true/\wl x true<=20):=by
 have h1:=wl_le x true
 unfold nmB
 rw [bs_list,wl_take,bs_size,List.length_take,Nat.min_eq_left h1]
 simp
def resV (r:Int × Tok × Nat):Value:=.tuple #[tokV r.2.1,vI (r.2.2:Int),vI r.1]
def nameR (k:Int) (x:List UInt8) (b:Nat):Int × Tok × Nat:=if 1<=wl x true/\wl x true<=20 then (0,⟨k,bs (x.take (wl x true)),0⟩,b + wl x true) else (10,tok0,0)
theorem name_any (k:Int) (s:ByteArray) (b:Nat) (w:World) (hs:s.size<=1000) (hb:b<=s.size) :
 Calls Tryz.prog 42 #[vI k,vS s,vI b] w fun e w'=>e=.returned (resV (nameR k (s.data.toList.drop b) b))/\Below w.heap.size w w':=by
 have CW:Hid (∀ W,Calls Tryz.prog 73 #[vS (s.extract b s.size)] W fun e w'=>e=.returned (vI (wl (s.data.toList.drop b) true))/\w'=W):=fun W=>by
  have:=wordBytes_any (s.extract b s.size) W (by unfold maxLen;simp;omega)
  rw [ext_drop] at this
  exact this
 have hle:wl (s.data.toList.drop b) true<=s.size - b:=by
  have:=wl_le (s.data.toList.drop b) true
  rw [List.length_drop] at this;exact this
 have HX:Hid (s.extract b (b + wl (s.data.toList.drop b) true)=bs ((s.data.toList.drop b).take (wl (s.data.toList.drop b) true))):=bs_eq (ext_take _ _ _)
 have HM:Hid (nmB (bs ((s.data.toList.drop b).take (wl (s.data.toList.drop b) true)))=decide (1<=wl (s.data.toList.drop b) true/\wl (s.data.toList.drop b) true<=20)):=nmB_take _
 have HF:Hid (nameR k (s.data.toList.drop b) b=if 1<=wl (s.data.toList.drop b) true/\wl (s.data.toList.drop b) true<=20 then (0,⟨k,bs ((s.data.toList.drop b).take (wl (s.data.toList.drop b) true)),0⟩,b + wl (s.data.toList.drop b) true) else (10,tok0,0)):=rfl
 generalize nameR k (s.data.toList.drop b) b=F at *
 generalize wl (s.data.toList.drop b) true=L at *
 generalize bs ((s.data.toList.drop b).take L)=T at *
 have hT:T.size<=1000:=by rw [<- HX.out];simp;omega
 have hTL:T.size=L:=by rw [<- HX.out];simp;omega
 have CN:Hid (∀ W,Calls Tryz.prog 74 #[vS T] W fun e w'=>e=.returned (.bool (nmB T))/\w'=W):=fun W=>isName_any2 T W (by unfold maxLen;omega)
 have CC:Hid (∀ W,Calls Tryz.prog 75 #[vS T] W fun e w'=>e=.returned (vS T)/\Below W.heap.size W w'):=fun W=>clone_any T W hT
 rw [HM.out] at CN
 have hx:=HX.out
 clear HM
 by_cases hc:1<=L/\L<=20
 · rw [decide_eq_true hc] at CN
   have HR:Hid (F=(0,⟨k,T,0⟩,b + L)):=HF.out.trans (if_pos hc)
   clear hc HF
   go_enter Tryz.func42,Tryz.ntmps42
   go_wp2_with (first
    | (go_at_call 73;refine (CW.out _).mono ?_;rintro e w1 ⟨rfl,rfl⟩)
    | (go_at_call 74;refine (CN.out _).mono ?_;rintro e w1 ⟨rfl,rfl⟩)
    | (go_at_call 75;refine (CC.out _).mono ?_;rintro e w1 ⟨rfl,hb1⟩;obtain ⟨hc1,hf1⟩:=bcell hb1;have hz1:w.heap.size<w1.heap.size:=(by have:=hb1.size;simp at this;omega);have HB1:Hid (Below w.heap.size w w1):=((Below.refl _ _).alloc (Nat.le_refl _) _).trans (hb1.mono (by simp));clear hb1))
   exact bodyPost_ret (v:=.tuple #[.agg #[vI k,vS T,vI 0],vI ((b:Int) + L),vI 0]) (by simp [results,Tryz.results42,go_sem,hc1]) rfl ⟨by rw [HR.out];simp [resV,tokV],((HB1.out.setCell (by simp) _).setCell (by simp) _).setCell (by simp) _⟩
 · rw [decide_eq_false hc] at CN
   have HR:Hid (F=(10,tok0,0)):=HF.out.trans (if_neg hc)
   clear hc HF
   go_enter Tryz.func42,Tryz.ntmps42
   go_wp2_with (first
    | (go_at_call 73;refine (CW.out _).mono ?_;rintro e w1 ⟨rfl,rfl⟩)
    | (go_at_call 74;refine (CN.out _).mono ?_;rintro e w1 ⟨rfl,rfl⟩))
   exact bodyPost_ret (v:=.tuple #[.agg #[vI 0,vE,vI 0],vI 0,vI 10]) (by simp [results,Tryz.results42,go_sem]) rfl ⟨by rw [HR.out];simp [resV,tokV,tok0],by first | exact (Below.refl _ _).alloc (Nat.le_refl _) _ | exact ((((Below.refl _ _).alloc (Nat.le_refl _) _).setCell (by simp) _).setCell (by simp) _).setCell (by simp) _⟩
def numR (l:List UInt8):Int × Tok × Nat:=if numV l (dl l)<=1099511627776 then (0,⟨2,⟨#[]⟩,numV l (dl l)⟩,dl l) else (2,tok0,0)
def capV (l:List UInt8) (k:Nat):Int:=min (numV l k) 1099511627777
theorem capV_succ (l:List UInt8) (k:Nat) (h:k<dl l):capV l (k + 1)=min (10 * capV l k + (bAt l k - 48)) 1099511627777:=by
 have h1:=numV_nonneg l k (by omega)
 have h2:=dgt_iff.1 (dl_lt l k h)
 unfold capV
 rw [numV_succ]
 omega
theorem capV_bd (l:List UInt8) (k:Nat) (h:k<=dl l):0<=capV l k/\capV l k<=1099511627777:=by
 have h1:=numV_nonneg l k h
 unfold capV
 omega
theorem number_any (s:ByteArray) (w:World) (hs:s.size<=1000) :
 Calls Tryz.prog 44 #[vS s] w fun e w'=>e=.returned (resV (numR s.data.toList))/\Below w.heap.size w w':=by
 have hle:dl s.data.toList<=s.size:=dl_le _
 have HF:Hid (numR s.data.toList=if numV s.data.toList (dl s.data.toList)<=1099511627776 then (0,⟨2,⟨#[]⟩,numV s.data.toList (dl s.data.toList)⟩,dl s.data.toList) else (2,tok0,0)):=rfl
 generalize numR s.data.toList=F at HF
 go_enter Tryz.func44,Tryz.ntmps44
 go_wp2
 go_loop [5,6] (fun n i=>∃ k:Nat,k<=dl s.data.toList/\i=vI k/\n=vI (capV s.data.toList k)) (fun _ i=>s.size - (intOf i).toNat)
 case atStart=>exact ⟨0,Nat.zero_le _,rfl,by simp [capV,numV];omega⟩
 case round =>
  obtain ⟨k,hk,rfl,rfl⟩:=hrel
  obtain ⟨hc1,hc2⟩:=capV_bd s.data.toList k hk
  by_cases hlt:k<dl s.data.toList
  · have hks:k<s.size:=by omega
    have hd:=dl_lt s.data.toList k hlt
    have HS:Hid (capV s.data.toList (k + 1)=min (10 * capV s.data.toList k + ((s[k].toNat:Int) - 48)) 1099511627777):=by
     have:=capV_succ s.data.toList k hlt
     rw [<- byteAt_bAt,<- byteAt_eq s k hks] at this
     exact this
    rw [<- byteAt_bAt,<- byteAt_eq s k hks] at hd
    obtain ⟨hd3,hd4⟩:=dgt_iff.1 hd
    generalize capV s.data.toList k=V at *
    go_wp2_with (go_at_call 43;refine (isDigit_any _ _).mono ?_;rintro e w' ⟨rfl,rfl⟩)
    go_round
    case rel=>exact ⟨k + 1,by omega,by go_num,by rw [HS.out]⟩
    case measure=>simp [intOf];omega
  · have e:k=dl s.data.toList:=by omega
    have HC:Hid (capV s.data.toList k=min (numV s.data.toList (dl s.data.toList)) 1099511627777):=by rw [e];rfl
    have hN:0<=numV s.data.toList (dl s.data.toList):=numV_nonneg _ _ (Nat.le_refl _)
    have HE:Hid (k=dl s.data.toList):=e
    have hD:∀ h:k<s.size,dgt (s[k].toNat:Int)=false:=fun h=>by
     rw [byteAt_eq s k h,byteAt_bAt,e]
     exact dl_eq s.data.toList (by rw [<- e];exact h)
    clear hlt hk e hle
    generalize dl s.data.toList=D at *
    generalize numV s.data.toList D=X at *
    generalize capV s.data.toList k=V at *
    by_cases hX:X<=1099511627776
    · have hv:V<=1099511627776:=by have:=HC.out;omega
      have HR:Hid (F=(0,⟨2,⟨#[]⟩,V⟩,k)):=HF.out.trans ((if_pos hX).trans (by rw [HE.out,show V=X by have:=HC.out;omega]))
      clear HF HC hX
      by_cases hks:k<s.size
      · have hd:=hD hks
        clear hD
        go_wp2_with (go_at_call 43;refine (isDigit_any _ _).mono ?_;rintro e w' ⟨rfl,rfl⟩)
        exact bodyPost_ret (v:=.tuple #[.agg #[vI 2,vE,vI V],vI k,vI 0]) (by simp [results,Tryz.results44,go_sem]) rfl ⟨by rw [HR.out];simp [resV,tokV],by first | exact (Below.refl _ _).alloc (Nat.le_refl _) _ | exact ((((Below.refl _ _).alloc (Nat.le_refl _) _).setCell (by simp) _).setCell (by simp) _).setCell (by simp) _⟩
      · clear hD
        go_wp2
        exact bodyPost_ret (v:=.tuple #[.agg #[vI 2,vE,vI V],vI k,vI 0]) (by simp [results,Tryz.results44,go_sem]) rfl ⟨by rw [HR.out];simp [resV,tokV],by first | exact (Below.refl _ _).alloc (Nat.le_refl _) _ | exact ((((Below.refl _ _).alloc (Nat.le_refl _) _).setCell (by simp) _).setCell (by simp) _).setCell (by simp) _⟩
    · have hv:V=1099511627777:=by have:=HC.out;omega
      have HR:Hid (F=(2,tok0,0)):=HF.out.trans (if_neg hX)
      clear HF HC hX
      subst hv
      by_cases hks:k<s.size
      · have hd:=hD hks
        clear hD
        go_wp2_with (go_at_call 43;refine (isDigit_any _ _).mono ?_;rintro e w' ⟨rfl,rfl⟩)
        exact bodyPost_ret (v:=.tuple #[.agg #[vI 0,vE,vI 0],vI 0,vI 2]) (by simp [results,Tryz.results44,go_sem]) rfl ⟨by rw [HR.out];simp [resV,tokV,tok0],by first | exact (Below.refl _ _).alloc (Nat.le_refl _) _ | exact ((((Below.refl _ _).alloc (Nat.le_refl _) _).setCell (by simp) _).setCell (by simp) _).setCell (by simp) _⟩
      · clear hD
        go_wp2
        exact bodyPost_ret (v:=.tuple #[.agg #[vI 0,vE,vI 0],vI 0,vI 2]) (by simp [results,Tryz.results44,go_sem]) rfl ⟨by rw [HR.out];simp [resV,tokV,tok0],by first | exact (Below.refl _ _).alloc (Nat.le_refl _) _ | exact ((((Below.refl _ _).alloc (Nat.le_refl _) _).setCell (by simp) _).setCell (by simp) _).setCell (by simp) _⟩
def MaxL (w:World):Prop:=∃ m,w.cell? ⟨4,0,none⟩=some (vI m)
theorem MaxL.below {w w':World} (h:MaxL w) (hb:Below w.heap.size w w'):MaxL w':=by
 obtain ⟨m,h⟩:=h
 have hlt:4<w.heap.size:=by
  unfold World.cell? at h
  by_cases hb:4<w.heap.size
  · exact hb
  · rw [Array.getElem?_eq_none (by simpa using hb)] at h
    cases h
 exact ⟨m,(hb.cell (p:=⟨4,0,none⟩) hlt).trans h⟩
def quoR (x:List UInt8):Int × Tok × Nat:=if ql x<x.length then (if textF (bs (x.take (ql x)))=0 then (0,⟨3,bs (x.take (ql x)),0⟩,ql x + 2) else (textF (bs (x.take (ql x))),tok0,0)) else (5,tok0,0)
theorem cut_any (s:ByteArray) (w:World) (hs:s.size<=1000) (hm:MaxL w) :
 Calls Tryz.prog 76 #[vS s,vS ⟨#[34]⟩] w fun e w'=>e=.returned (.tuple #[vS (bs (Lib.cut s.data.toList [34]).1),vS (bs (Lib.cut s.data.toList [34]).2.1),.bool (Lib.cut s.data.toList [34]).2.2])/\∃ n,w'=w.drewN n:=by
 obtain ⟨m,hm⟩:=hm
 exact Tryz.strings_Cut s ⟨#[34]⟩ m w (by omega) hm
theorem cut_yes (s:ByteArray) (w:World) (hs:s.size<=1000) (hm:MaxL w) (x:List UInt8) (hx:s.data.toList=x) (h:ql x<x.length) :
 Calls Tryz.prog 76 #[vS s,vS ⟨#[34]⟩] w fun e w'=>(∃ v2,e=.returned (.tuple #[vS (bs (x.take (ql x))),vS v2,.bool true]))/\∃ n,w'=w.drewN n:=by
 have:=cut_any s w hs hm
 rw [hx,ql_cut,if_pos h] at this
 exact this.mono fun e w' ⟨h1,h2⟩=>⟨⟨_,h1⟩,h2⟩
theorem cut_no (s:ByteArray) (w:World) (hs:s.size<=1000) (hm:MaxL w) (x:List UInt8) (hx:s.data.toList=x) (h:¬ ql x<x.length) :
 Calls Tryz.prog 76 #[vS s,vS ⟨#[34]⟩] w fun e w'=>(∃ v1 v2,e=.returned (.tuple #[vS v1,vS v2,.bool false]))/\∃ n,w'=w.drewN n:=by
 have:=cut_any s w hs hm
 rw [hx,ql_cut,if_neg h] at this
 exact this.mono fun e w' ⟨h1,h2⟩=>⟨⟨_,_,h1⟩,h2⟩
theorem quoted_any (s:ByteArray) (w:World) (hs:s.size<=1000) (h0:1<=s.size) (hT:Tabs w) (hm:MaxL w) :
 Calls Tryz.prog 45 #[vS s] w fun e w'=>e=.returned (resV (quoR (s.data.toList.drop 1)))/\Below w.heap.size w w':=by
 have HF:Hid (quoR (s.data.toList.drop 1)=if ql (s.data.toList.drop 1)<(s.data.toList.drop 1).length then (if textF (bs ((s.data.toList.drop 1).take (ql (s.data.toList.drop 1))))=0 then (0,⟨3,bs ((s.data.toList.drop 1).take (ql (s.data.toList.drop 1))),0⟩,ql (s.data.toList.drop 1) + 2) else (textF (bs ((s.data.toList.drop 1).take (ql (s.data.toList.drop 1)))),tok0,0)) else (5,tok0,0)):=rfl
 have hxl:(s.data.toList.drop 1).length<=1000:=by rw [List.length_drop];show s.size - 1<=1000;omega
 have hxd:(s.extract 1 s.size).data.toList=s.data.toList.drop 1:=ext_drop s 1
 have hxs:(s.extract 1 s.size).size<=1000:=by simp;omega
 generalize quoR (s.data.toList.drop 1)=F at HF
 generalize s.data.toList.drop 1=x at *
 by_cases hq:ql x<x.length
 · have CU:Hid (∀ o,Calls Tryz.prog 76 #[vS (s.extract 1 s.size),vS ⟨#[34]⟩] (w.alloc o) fun e w'=>(∃ v2,e=.returned (.tuple #[vS (bs (x.take (ql x))),vS v2,.bool true]))/\∃ n,w'=(w.alloc o).drewN n) :=
    fun o=>cut_yes _ _ hxs (hm.below ((Below.refl _ _).alloc (Nat.le_refl _) _)) x hxd hq
   have HG:Hid (F=if textF (bs (x.take (ql x)))=0 then (0,⟨3,bs (x.take (ql x)),0⟩,ql x + 2) else (textF (bs (x.take (ql x))),tok0,0)):=HF.out.trans (if_pos hq)
   have hTs:(bs (x.take (ql x))).size=ql x:=by rw [bs_size,List.length_take];omega
   have hQ:ql x<=1000:=by omega
   clear HF hxd hxs hq
   generalize ql x=Q at *
   generalize bs (x.take Q)=T at *
   have CT:Hid (∀ o n,Calls Tryz.prog 77 #[vS T] ((w.alloc o).drewN n) fun e w'=>e=.returned (vI (textF T))/\Below ((w.alloc o).drewN n).heap.size ((w.alloc o).drewN n) w') :=
    fun o n=>checkText_any T _ (by unfold maxLen;omega) (Utf8Tabs_below hT (below_drawnT ((Below.refl _ _).alloc (Nat.le_refl _) _) n))
   have CC:Hid (∀ W,Calls Tryz.prog 75 #[vS T] W fun e w'=>e=.returned (vS T)/\Below W.heap.size W w'):=fun W=>clone_any T W (by omega)
   clear hT hm
   generalize textF T=E at *
   by_cases hE:E=0
   · subst hE
     have HR:Hid (F=(0,⟨3,T,0⟩,Q + 2)):=HG.out
     clear HG
     go_enter Tryz.func45,Tryz.ntmps45
     go_wp2_with (first
      | (go_at_call 76;refine (CU.out _).mono ?_;rintro e w1 ⟨⟨v2,rfl⟩,n1,rfl⟩)
      | (go_at_call 77;refine (CT.out _ _).mono ?_;rintro e w1 ⟨rfl,hb1⟩;have HB1:Hid (Below w.heap.size w w1):=(below_drawnT ((Below.refl _ _).alloc (Nat.le_refl _) _) _).trans (hb1.mono (by simp));have hz1:w.heap.size<w1.heap.size:=(by have:=hb1.size;simp at this;omega);obtain ⟨hc1,hf1⟩:=bcell hb1;clear hb1)
      | (go_at_call 75;refine (CC.out _).mono ?_;rintro e w2 ⟨rfl,hb2⟩;have HB2:Hid (Below w.heap.size w w2):=HB1.out.trans (hb2.mono (by omega));have hz2:w.heap.size<w2.heap.size:=(by have:=hb2.size;omega);obtain ⟨hc2,hf2⟩:=bcell hb2;clear hb2))
     exact bodyPost_ret (v:=.tuple #[.agg #[vI 3,vS T,vI 0],vI ((Q:Int) + 2),vI 0]) (by simp [results,Tryz.results45,go_sem,hc2,hz1,hc1]) rfl ⟨by rw [HR.out];simp [resV,tokV],((HB2.out.setCell (by simp) _).setCell (by simp) _).setCell (by simp) _⟩
   · have HR:Hid (F=(E,tok0,0)):=HG.out.trans (if_neg hE)
     have hE':(E == 0)=false:=by simpa using hE
     clear HG hE
     go_enter Tryz.func45,Tryz.ntmps45
     go_wp2_with (first
      | (go_at_call 76;refine (CU.out _).mono ?_;rintro e w1 ⟨⟨v2,rfl⟩,n1,rfl⟩)
      | (go_at_call 77;refine (CT.out _ _).mono ?_;rintro e w1 ⟨rfl,hb1⟩;have HB1:Hid (Below w.heap.size w w1):=(below_drawnT ((Below.refl _ _).alloc (Nat.le_refl _) _) _).trans (hb1.mono (by simp));have hz1:w.heap.size<w1.heap.size:=(by have:=hb1.size;simp at this;omega);obtain ⟨hc1,hf1⟩:=bcell hb1;clear hb1))
     exact bodyPost_ret (v:=.tuple #[.agg #[vI 0,vE,vI 0],vI 0,vI E]) (by simp [results,Tryz.results45,go_sem,hc1]) rfl ⟨by rw [HR.out];simp [resV,tokV,tok0],((HB1.out.setCell (by simp) _).setCell (by simp) _).setCell (by simp) _⟩
 · have CU:Hid (∀ o,Calls Tryz.prog 76 #[vS (s.extract 1 s.size),vS ⟨#[34]⟩] (w.alloc o) fun e w'=>(∃ v1 v2,e=.returned (.tuple #[vS v1,vS v2,.bool false]))/\∃ n,w'=(w.alloc o).drewN n) :=
    fun o=>cut_no _ _ hxs (hm.below ((Below.refl _ _).alloc (Nat.le_refl _) _)) x hxd hq
   have HR:Hid (F=(5,tok0,0)):=HF.out.trans (if_neg hq)
   clear HF hxd hxs hq hT hm
   go_enter Tryz.func45,Tryz.ntmps45
   go_wp2_with (first
    | (go_at_call 76;refine (CU.out _).mono ?_;rintro e w1 ⟨⟨v1,v2,rfl⟩,n1,rfl⟩))
   exact bodyPost_ret (v:=.tuple #[.agg #[vI 0,vE,vI 0],vI 0,vI 5]) (by simp [results,Tryz.results45,go_sem]) rfl ⟨by rw [HR.out];simp [resV,tokV,tok0],by first | exact below_drawnT ((Below.refl _ _).alloc (Nat.le_refl _) _) _ | exact (((below_drawnT ((Below.refl _ _).alloc (Nat.le_refl _) _) _).setCell (by simp) _).setCell (by simp) _).setCell (by simp) _⟩
open Go.RowKit
theorem tk_word {l:List UInt8} (h:lett (bAt l 0)=true) (hl:0<l.length):tk l=nameR 1 (l.drop 0) 0:=by
 have:=wl_pos h hl
 unfold tk nameR
 rw [if_pos h,List.drop_zero,Nat.zero_add]
 by_cases h1:wl l true<=20
 · rw [if_pos h1,if_pos ⟨this,h1⟩]
 · rw [if_neg h1,if_neg (fun h=>h1 h.2)]
theorem lett_no {c:Int} (h:c=36\/c=34\/dgt c=true):lett c=false:=by
 rw [Bool.eq_false_iff]
 intro h'
 have h2:=of_decide_eq_true h'
 rcases h with h | h | h
 · omega
 · omega
 · have:=dgt_iff.1 h;omega
theorem tk_var {l:List UInt8} (h:bAt l 0=36):tk l=nameR 4 (l.drop 1) 1:=by
 unfold tk nameR
 rw [if_neg (by rw [lett_no (.inl h)];decide),if_pos h]
theorem tk_num {l:List UInt8} (h:dgt (bAt l 0)=true):tk l=numR l:=by
 unfold tk numR
 rw [if_neg (by rw [lett_no (.inr (.inr h))];decide),if_neg (by have:=dgt_iff.1 h;omega),if_pos h]
theorem dgt_no {c:Int} (h:c=34\/c=36):dgt c=false:=by
 rw [Bool.eq_false_iff]
 intro h'
 have:=dgt_iff.1 h'
 omega
theorem tk_quo {l:List UInt8} (h:bAt l 0=34):tk l=quoR (l.drop 1):=by
 unfold tk quoR
 rw [if_neg (by rw [lett_no (.inr (.inl h))];decide),if_neg (by omega),if_neg (by rw [dgt_no (.inl h)];decide),if_pos h]
theorem tk_mark {l:List UInt8} (h1:lett (bAt l 0)=false) (h2:¬ bAt l 0=36) (h3:dgt (bAt l 0)=false) (h4:¬ bAt l 0=34):tk l=if fm l=[] then (4,tok0,0) else (0,⟨5,bs (fm l),0⟩,(fm l).length):=by
 unfold tk
 rw [if_neg (by rw [h1];decide),if_neg h2,if_neg (by rw [h3];decide),if_neg h4]
theorem firstToken_any (s:ByteArray) (w:World) (hs:s.size<=1000) (h0:1<=s.size) (hT:Tabs w) (hm:MaxL w) (hM:MarkTab w) (hg:0<w.heap.size) :
 Calls Tryz.prog 18 #[vS s] w fun e w'=>e=.returned (resV (tk s.data.toList))/\Below w.heap.size w w':=by
 have h0':0<s.size:=h0
 have hbe:bAt s.data.toList 0=(s[0].toNat:Int):=by rw [<- byteAt_bAt,byteAt_eq s 0 h0']
 have hBel:∀ o,Below w.heap.size w (w.alloc o):=fun o=>(Below.refl _ _).alloc (Nat.le_refl _) o
 by_cases c1:lett (s[0].toNat:Int)=true
 · have HR:Hid (tk s.data.toList=nameR 1 (s.data.toList.drop 0) 0):=tk_word (by rw [hbe];exact c1) h0'
   have CN:Hid (∀ o,Calls Tryz.prog 42 #[vI 1,vS s,vI 0] (w.alloc o) fun e w'=>e=.returned (resV (nameR 1 (s.data.toList.drop 0) 0))/\Below (w.alloc o).heap.size (w.alloc o) w'):=fun o=>name_any 1 s 0 _ hs (Nat.zero_le _)
   generalize nameR 1 (s.data.toList.drop 0) 0=r at *
   obtain ⟨E,⟨K,S,N⟩,Z⟩:=r
   simp only [resV,tokV] at CN
   clear hT hm hM hbe hBel
   go_enter Tryz.func18,Tryz.ntmps18
   go_wp2_with (first
    | (go_at_call 41;refine (isLetter_any _ _).mono ?_;rintro e w' ⟨rfl,rfl⟩)
    | (go_at_call 42;refine (CN.out _).mono ?_;rintro e w1 ⟨rfl,hb1⟩;have HB1:Hid (Below w.heap.size w w1):=((Below.refl _ _).alloc (Nat.le_refl _) _).trans (hb1.mono (by simp));obtain ⟨hc1,hf1⟩:=bcell hb1;clear hb1))
   exact bodyPost_ret (v:=.tuple #[.agg #[vI K,vS S,vI N],vI Z,vI E]) (by simp [results,Tryz.results18,go_sem,hc1]) rfl ⟨by rw [HR.out];rfl,((HB1.out.setCell (by simp) _).setCell (by simp) _).setCell (by simp) _⟩
 have c1':lett (s[0].toNat:Int)=false:=by simpa using c1
 clear c1
 by_cases c2:(s[0].toNat:Int)=36
 · have HR:Hid (tk s.data.toList=nameR 4 (s.data.toList.drop 1) 1):=tk_var (by rw [hbe];exact c2)
   have CN:Hid (∀ o,Calls Tryz.prog 42 #[vI 4,vS s,vI 1] (w.alloc o) fun e w'=>e=.returned (resV (nameR 4 (s.data.toList.drop 1) 1))/\Below (w.alloc o).heap.size (w.alloc o) w'):=fun o=>name_any 4 s 1 _ hs h0
   generalize nameR 4 (s.data.toList.drop 1) 1=r at *
   obtain ⟨E,⟨K,S,N⟩,Z⟩:=r
   simp only [resV,tokV] at CN
   have c2':((s[0].toNat:Int) == 36)=true:=by simpa using c2
   clear hT hm hM hbe hBel c2
   go_enter Tryz.func18,Tryz.ntmps18
   go_wp2_with (first
    | (go_at_call 41;refine (isLetter_any _ _).mono ?_;rintro e w' ⟨rfl,rfl⟩)
    | (go_at_call 42;refine (CN.out _).mono ?_;rintro e w1 ⟨rfl,hb1⟩;have HB1:Hid (Below w.heap.size w w1):=((Below.refl _ _).alloc (Nat.le_refl _) _).trans (hb1.mono (by simp));obtain ⟨hc1,hf1⟩:=bcell hb1;clear hb1))
   exact bodyPost_ret (v:=.tuple #[.agg #[vI K,vS S,vI N],vI Z,vI E]) (by simp [results,Tryz.results18,go_sem,hc1]) rfl ⟨by rw [HR.out];rfl,((HB1.out.setCell (by simp) _).setCell (by simp) _).setCell (by simp) _⟩
 have c2':((s[0].toNat:Int) == 36)=false:=by simpa using c2
 by_cases c3:dgt (s[0].toNat:Int)=true
 · have HR:Hid (tk s.data.toList=numR s.data.toList):=tk_num (by rw [hbe];exact c3)
   have CN:Hid (∀ o,Calls Tryz.prog 44 #[vS s] (w.alloc o) fun e w'=>e=.returned (resV (numR s.data.toList))/\Below (w.alloc o).heap.size (w.alloc o) w'):=fun o=>number_any s _ hs
   generalize numR s.data.toList=r at *
   obtain ⟨E,⟨K,S,N⟩,Z⟩:=r
   simp only [resV,tokV] at CN
   clear hT hm hM hbe hBel c2
   go_enter Tryz.func18,Tryz.ntmps18
   go_wp2_with (first
    | (go_at_call 41;refine (isLetter_any _ _).mono ?_;rintro e w' ⟨rfl,rfl⟩)
    | (go_at_call 43;refine (isDigit_any _ _).mono ?_;rintro e w' ⟨rfl,rfl⟩)
    | (go_at_call 44;refine (CN.out _).mono ?_;rintro e w1 ⟨rfl,hb1⟩;have HB1:Hid (Below w.heap.size w w1):=((Below.refl _ _).alloc (Nat.le_refl _) _).trans (hb1.mono (by simp));obtain ⟨hc1,hf1⟩:=bcell hb1;clear hb1))
   exact bodyPost_ret (v:=.tuple #[.agg #[vI K,vS S,vI N],vI Z,vI E]) (by simp [results,Tryz.results18,go_sem,hc1]) rfl ⟨by rw [HR.out];rfl,((HB1.out.setCell (by simp) _).setCell (by simp) _).setCell (by simp) _⟩
 have c3':dgt (s[0].toNat:Int)=false:=by simpa using c3
 clear c3
 by_cases c4:(s[0].toNat:Int)=34
 · have HR:Hid (tk s.data.toList=quoR (s.data.toList.drop 1)):=tk_quo (by rw [hbe];exact c4)
   have CN:Hid (∀ o,Calls Tryz.prog 45 #[vS s] (w.alloc o) fun e w'=>e=.returned (resV (quoR (s.data.toList.drop 1)))/\Below (w.alloc o).heap.size (w.alloc o) w'):=fun o=>quoted_any s _ hs h0 (Utf8Tabs_below hT (hBel o)) (hm.below (hBel o))
   generalize quoR (s.data.toList.drop 1)=r at *
   obtain ⟨E,⟨K,S,N⟩,Z⟩:=r
   simp only [resV,tokV] at CN
   have c4':((s[0].toNat:Int) == 34)=true:=by simpa using c4
   clear hT hm hM hbe hBel c2 c4
   go_enter Tryz.func18,Tryz.ntmps18
   go_wp2_with (first
    | (go_at_call 41;refine (isLetter_any _ _).mono ?_;rintro e w' ⟨rfl,rfl⟩)
    | (go_at_call 43;refine (isDigit_any _ _).mono ?_;rintro e w' ⟨rfl,rfl⟩)
    | (go_at_call 45;refine (CN.out _).mono ?_;rintro e w1 ⟨rfl,hb1⟩;have HB1:Hid (Below w.heap.size w w1):=((Below.refl _ _).alloc (Nat.le_refl _) _).trans (hb1.mono (by simp));obtain ⟨hc1,hf1⟩:=bcell hb1;clear hb1))
   exact bodyPost_ret (v:=.tuple #[.agg #[vI K,vS S,vI N],vI Z,vI E]) (by simp [results,Tryz.results18,go_sem,hc1]) rfl ⟨by rw [HR.out];rfl,((HB1.out.setCell (by simp) _).setCell (by simp) _).setCell (by simp) _⟩
 have c4':((s[0].toNat:Int) == 34)=false:=by simpa using c4
 have HF:Hid (tk s.data.toList=if fm s.data.toList=[] then (4,tok0,0) else (0,⟨5,bs (fm s.data.toList),0⟩,(fm s.data.toList).length)):=tk_mark (by rw [hbe];exact c1') (by rw [hbe];exact c2) (by rw [hbe];exact c3') (by rw [hbe];exact c4)
 have CN:Hid (∀ o,Calls Tryz.prog 46 #[vS s] (w.alloc o) fun e w'=>e=.returned (vS (bs (fm s.data.toList)))/\w'=w.alloc o):=fun o=>firstMark_any s _ (hM.below (hBel o) hg)
 have hsz:(bs (fm s.data.toList)).size=(fm s.data.toList).length:=bs_size _
 have hln:(fm s.data.toList).length<=1000:=by
  by_cases hf:fm s.data.toList=[]
  · rw [hf];simp
  · have:=(fm_len hf).2
    have e:s.data.toList.length=s.size:=rfl
    omega
 generalize tk s.data.toList=F at HF
 clear hT hm hM hbe hBel c2 c4
 by_cases hf:fm s.data.toList=[]
 · have HR:Hid (F=(4,tok0,0)):=HF.out.trans (if_pos hf)
   have he:(bs (fm s.data.toList)).toList.isEmpty=true:=isEmptyT_yes (by rw [hsz,hf];rfl)
   clear HF hf hsz hln
   generalize bs (fm s.data.toList)=T at *
   go_enter Tryz.func18,Tryz.ntmps18
   go_wp2_with (first
    | (go_at_call 41;refine (isLetter_any _ _).mono ?_;rintro e w' ⟨rfl,rfl⟩)
    | (go_at_call 43;refine (isDigit_any _ _).mono ?_;rintro e w' ⟨rfl,rfl⟩)
    | (go_at_call 46;refine (CN.out _).mono ?_;rintro e w' ⟨rfl,rfl⟩))
   exact bodyPost_ret (v:=.tuple #[.agg #[vI 0,vE,vI 0],vI 0,vI 4]) (by simp [results,Tryz.results18,go_sem]) rfl ⟨by rw [HR.out];simp [resV,tokV,tok0],by first | exact (Below.refl _ _).alloc (Nat.le_refl _) _ | exact ((((Below.refl _ _).alloc (Nat.le_refl _) _).setCell (by simp) _).setCell (by simp) _).setCell (by simp) _⟩
 · have HR:Hid (F=(0,⟨5,bs (fm s.data.toList),0⟩,(bs (fm s.data.toList)).size)):=HF.out.trans ((if_neg hf).trans (by rw [hsz]))
   have he:(bs (fm s.data.toList)).toList.isEmpty=false:=isEmptyT_no (by rw [hsz];intro e;exact hf (List.eq_nil_of_length_eq_zero e))
   have hT':(bs (fm s.data.toList)).size<=1000:=by omega
   clear HF hf hsz hln
   generalize bs (fm s.data.toList)=T at *
   go_enter Tryz.func18,Tryz.ntmps18
   go_wp2_with (first
    | (go_at_call 41;refine (isLetter_any _ _).mono ?_;rintro e w' ⟨rfl,rfl⟩)
    | (go_at_call 43;refine (isDigit_any _ _).mono ?_;rintro e w' ⟨rfl,rfl⟩)
    | (go_at_call 46;refine (CN.out _).mono ?_;rintro e w' ⟨rfl,rfl⟩))
   exact bodyPost_ret (v:=.tuple #[.agg #[vI 5,vS T,vI 0],vI T.size,vI 0]) (by simp [results,Tryz.results18,go_sem]) rfl ⟨by rw [HR.out];simp [resV,tokV],by first | exact (Below.refl _ _).alloc (Nat.le_refl _) _ | exact ((((Below.refl _ _).alloc (Nat.le_refl _) _).setCell (by simp) _).setCell (by simp) _).setCell (by simp) _⟩
open Go.RowKit
theorem ownsRow_below {w w':World} {base:Nat} {e:TypeId} {size:Nat} {v:Value} {n:Nat} {xs:List Value} (h:w.ownsRow base e size v n xs) (hb:Below w.heap.size w w'):w'.ownsRow base e size v n xs:=by
 refine ⟨h.1,?_⟩
 rcases h.2 with h1 | ⟨g,cap,cur,h1,h2,h3,h4⟩
 · exact .inl h1
 · refine .inr ⟨g,cap,cur,h1,h2,?_,h4⟩
   rw [hb.block g (gI h3).1]
   exact h3
theorem own_shape {w:World} {base:Nat} {e:TypeId} {size:Nat} {v:Value} {n:Nat} {xs:List Value} (h:w.ownsRow base e size v n xs):∃ a c,v=.slice a n c:=by
 obtain ⟨_,⟨rfl,rfl⟩ | ⟨b,cap,cur,rfl,_⟩⟩:=h
 · exact ⟨_,_,rfl⟩
 · exact ⟨_,_,rfl⟩
theorem infoTok:(Tryz.prog.info? 65).map (fun i=>(i.zero,i.size,i.bytes))=some (some (.agg #[vI 0,vS ByteArray.empty,vI 0]),3,32):=by kernel_rfl
theorem elemT_in {w:World} (t:Tok):∀ j u,(tokC t)[j]?=some u->(w.alloc (.cells #[vI t.kind,vS t.s,vI t.n] 65)).cell? ((⟨w.heap.size,0,none⟩:Addr).add j)=some u:=by
 intro j u hj
 have hj3:j<3:=(List.getElem?_eq_some_iff.1 hj).1
 match j,hj3 with
 | 0,_=>simp [tokC] at hj;subst hj;simp [Addr.add]
 | 1,_=>simp [tokC] at hj;subst hj;simp [Addr.add]
 | 2,_=>simp [tokC] at hj;subst hj;simp [Addr.add]
theorem elemT_in2 {w:World} (o:Obj) (t:Tok):∀ j u,(tokC t)[j]?=some u->((w.alloc o).alloc (.cells #[vI t.kind,vS t.s,vI t.n] 65)).cell? ((⟨w.heap.size + 1,0,none⟩:Addr).add j)=some u:=by
 intro j u hj
 have:=elemT_in (w:=w.alloc o) t j u hj
 simpa using this
theorem elemT_one (t:Tok):∀ u∈tokC t,u.oneCell'=true:=by
 intro u hu
 simp [tokC] at hu
 rcases hu with rfl | rfl | rfl <;> rfl
def ToksOwn (w:World) (base:Nat) (v:Value) (L:List Tok):Prop:=w.ownsRow base 65 3 v L.length (tokCells L)
theorem ToksOwn.below {w w':World} {base:Nat} {v:Value} {L:List Tok} (h:ToksOwn w base v L) (hb:Below w.heap.size w w'):ToksOwn w' base v L:=ownsRow_below h hb
theorem ToksOwn.nil (w:World) (base:Nat):ToksOwn w base (vN) []:=World.ownsRow_nil _ _ _ _
theorem ToksOwn.mono {w:World} {base base':Nat} {v:Value} {L:List Tok} (h:ToksOwn w base v L) (hb:base'<=base):ToksOwn w base' v L:=by
 obtain ⟨h1,h2⟩:=h
 refine ⟨h1,?_⟩
 rcases h2 with h2 | ⟨g,cap,cur,k1,k2,k3⟩
 · exact .inl h2
 · exact .inr ⟨g,cap,cur,k1,by omega,k3⟩
theorem cut_is (s:ByteArray) (w:World) (hs:s.size<=maxLen) (hT:Tabs w) (hm:MaxL w) (hM:MarkTab w) (hg:0<w.heap.size) :
 Calls Tryz.prog 10 #[vS s] w fun e w'=>∃ v,e=.returned (.tuple #[v,vI (cutP s.data.toList),vI (cutE s.data.toList)])/\ToksOwn w' w.heap.size v (cutT s.data.toList)/\Below w.heap.size w w':=by
 have hsl:s.data.toList.length=s.size:=rfl
 unfold maxLen at hs
 by_cases h1:1000<s.size
 · have HR:Hid (cutT s.data.toList=[]/\cutP s.data.toList=0/\cutE s.data.toList=1):=cut_big h1
   clear hT hm hM hsl
   go_enter Tryz.func10,Tryz.ntmps10
   go_wp2
   refine bodyPost_ret (v:=.tuple #[vN,vI 0,vI 1]) (by simp [results,Tryz.results10,go_sem]) rfl ?_
   exact ⟨_,by rw [HR.out.2.1,HR.out.2.2];rfl,by rw [HR.out.1];exact ToksOwn.nil _ _,Below.refl _ _⟩
 have hs1:s.size<=1000:=by omega
 have H1:Hid (¬ 1000<s.data.toList.length):=h1
 clear h1 hs
 have CB:Hid (∀ W,Calls Tryz.prog 17 #[vS s] W fun e w'=>e=.returned (vI (bl s.data.toList))/\Below W.heap.size W w'):=fun W=>blankBytes_any s W hs1
 have CA:Hid (∀ W a,a<=s.size->Calls Tryz.prog 17 #[vS (s.extract a s.size)] W fun e w'=>e=.returned (vI (bl (s.data.toList.drop a)))/\Below W.heap.size W w'):=fun W a ha=>by
  have:=blankBytes_any (s.extract a s.size) W (by simp;omega)
  rw [ext_drop] at this
  exact this
 have CF:Hid (∀ W a,Below w.heap.size w W->a<s.size->Calls Tryz.prog 18 #[vS (s.extract a s.size)] W fun e w'=>e=.returned (resV (tk (s.data.toList.drop a)))/\Below W.heap.size W w'):=fun W a hW ha=>by
  have:=firstToken_any (s.extract a s.size) W (by simp;omega) (by simp;omega) (Utf8Tabs_below hT hW) (hm.below hW) (hM.below hW hg) (Nat.lt_of_lt_of_le hg hW.size)
  rw [ext_drop] at this
  exact this
 obtain ⟨i0,hi0,hz0,hz1,hz2⟩:=info_parts infoTok
 have hbl0:bl s.data.toList<=s.size:=bl_le _
 clear hT hm hM hg
 go_enter Tryz.func10,Tryz.ntmps10
 go_wp2_with (go_at_call 17;refine (CB.out _).mono ?_;rintro e w0 ⟨rfl,hb0⟩)
 have HB0:Hid (Below w.heap.size w w0):=hb0
 clear hb0
 go_loopw [5,6] (fun v i wr=>∃ (a:Nat) (L:List Tok),a<=s.size/\i=vI a/\(a<s.size->bk (bAt s.data.toList a)=false)/\L.length<=200/\CutTo s.data.toList L a/\ToksOwn wr w.heap.size v L/\Below w.heap.size w wr) (fun _ i _=>s.size - (intOf i).toNat)
 case atStart =>
  refine ⟨bl s.data.toList,[],hbl0,rfl,fun h=>bl_eq _ (by omega),by simp,?_,ToksOwn.nil _ _,HB0.out⟩
  have:=(CutTo.zero s.data.toList).blanks (k:=bl s.data.toList) (by simp)
  simpa using this
 case round =>
  obtain ⟨a,L,ha,rfl,hbk,hL,hcut,hv,hbr⟩:=hrel
  have hshape:=own_shape hv
  obtain ⟨va,vc,rfl⟩:=hshape
  have HV:Hid (ToksOwn wr w.heap.size (.slice va L.length vc) L):=hv
  have HB:Hid (Below w.heap.size w wr):=hbr
  have HCUT:Hid (CutTo s.data.toList L a):=hcut
  have HK:Hid (a<s.size->bk (bAt s.data.toList a)=false):=hbk
  have hzr:w.heap.size<=wr.heap.size:=hbr.size
  clear hv hbr hcut hbk HB0 CB hbl0
  by_cases hlt:a<s.size
  · by_cases hfull:L.length=200
    · have HR:Hid (cutT s.data.toList=[]/\cutP s.data.toList=a/\cutE s.data.toList=1):=HCUT.out.full H1.out hlt (HK.out hlt) (by omega)
      have hq:((L.length:Int) == 200)=true:=by simp;omega
      clear hfull
      go_wp2
      refine bodyPost_ret (v:=.tuple #[vN,vI a,vI 1]) (by simp [results,Tryz.results10,go_sem]) rfl ?_
      exact ⟨_,by rw [HR.out.2.1,HR.out.2.2],by rw [HR.out.1];exact ToksOwn.nil _ _,HB.out⟩
    · have hq:((L.length:Int) == 200)=false:=by simp;omega
      have CF1:Hid (Calls Tryz.prog 18 #[vS (s.extract a s.size)] wr fun e w'=>e=.returned (resV (tk (s.data.toList.drop a)))/\Below wr.heap.size wr w'):=CF.out wr a HB.out hlt
      have HER:Hid (¬ (tk (s.data.toList.drop a)).1=0->cutT s.data.toList=[]/\cutP s.data.toList=a/\cutE s.data.toList=(tk (s.data.toList.drop a)).1):=fun h=>HCUT.out.err H1.out hlt (HK.out hlt) (by omega) h
      have HTK:Hid ((tk (s.data.toList.drop a)).1=0->CutTo s.data.toList (L ++ [(tk (s.data.toList.drop a)).2.1]) (a + (tk (s.data.toList.drop a)).2.2)):=fun h=>HCUT.out.tok hlt (HK.out hlt) (by omega) h
      have HSZ:Hid ((tk (s.data.toList.drop a)).1=0->1<=(tk (s.data.toList.drop a)).2.2/\(tk (s.data.toList.drop a)).2.2<=s.size - a):=fun h=>by
       have:=tk_size (l:=s.data.toList.drop a) (by rw [List.length_drop];omega) h
       rw [List.length_drop] at this
       exact this
      clear CF HK HCUT
      generalize tk (s.data.toList.drop a)=r at *
      obtain ⟨E,⟨K,S,N⟩,Z⟩:=r
      simp only [resV,tokV] at CF1
      by_cases hE:E=0
      · subst hE
        have hZ:=HSZ.out rfl
        simp only at hZ
        obtain ⟨hZ1,hZ2⟩:=hZ
        have HC2:Hid (CutTo s.data.toList (L ++ [⟨K,S,N⟩]) (a + Z)):=HTK.out rfl
        have hbl1:bl (s.data.toList.drop (a + Z))<=s.size - (a + Z):=by
         have:=bl_le (s.data.toList.drop (a + Z))
         rw [List.length_drop] at this
         exact this
        have HBK:Hid (a + Z + bl (s.data.toList.drop (a + Z))<s.size->bk (bAt s.data.toList (a + Z + bl (s.data.toList.drop (a + Z))))=false):=fun h=>by
         have:=bl_eq (s.data.toList.drop (a + Z)) (by rw [List.length_drop];omega)
         rw [bAt_drop] at this
         exact this
        have HC3:Hid (CutTo s.data.toList (L ++ [⟨K,S,N⟩]) (a + Z + bl (s.data.toList.drop (a + Z)))):=HC2.out.blanks (Nat.le_refl _)
        have CA1:Hid (∀ W,Calls Tryz.prog 17 #[vS (s.extract (a + Z) s.size)] W fun e w'=>e=.returned (vI (bl (s.data.toList.drop (a + Z))))/\Below W.heap.size W w'):=fun W=>CA.out W (a + Z) (by omega)
        clear HER HTK HSZ HC2 CA
        generalize bl (s.data.toList.drop (a + Z))=Y at *
        go_wp2_with (first
         | (go_at_call 18;refine CF1.out.mono ?_;rintro e w1 ⟨rfl,hb1⟩;have HV1:Hid (ToksOwn w1 w.heap.size (.slice va L.length vc) L):=HV.out.below hb1;have HB1:Hid (Below w.heap.size w w1):=HB.out.trans (hb1.mono hzr);have hzr1:w.heap.size<=w1.heap.size:=Nat.le_trans hzr hb1.size;clear hb1)
         | (at_builtin;refine wpList_append_own _ rfl (.tmp 35) (.tmp 37) 38 rfl w.heap.size 65 i0 _ 3 32 Tryz.underlying38 hi0 hz0 hz1 hz2 rfl (by decide) _ _ _ rfl ((World.ownsRow.alloc HV1.out _).alloc _) ⟨w1.heap.size + 1,0,none⟩ 1 1 (tokC ⟨K,S,N⟩) rfl rfl (elemT_in2 _ ⟨K,S,N⟩) (elemT_one _) (by unfold maxLen;omega) (by omega) (by simp <;> omega) ?_;intro v6 w6 hown6 hgrow6 _;obtain ⟨va6,vc6,rfl⟩:=own_shape hown6;have HV6:Hid (w6.ownsRow w.heap.size 65 3 (.slice va6 (L.length + 1) vc6) (L.length + 1) (tokCells L ++ tokC ⟨K,S,N⟩)):=hown6;have HB6:Hid (Below w.heap.size w w6):=((HB1.out.alloc hzr1 _).alloc (by simp <;> omega) _).grown hgrow6 (by simp <;> omega) (fun z hz=>(World.ownsRow.lt HV1.out z hz).1);have hzr6:w.heap.size<=w6.heap.size:=HB6.out.size;clear hown6 hgrow6)
         | (go_at_call 17;refine (CA1.out _).mono ?_;rintro e w7 ⟨rfl,hb7⟩;have HV7:Hid (w7.ownsRow w.heap.size 65 3 (.slice va6 (L.length + 1) vc6) (L.length + 1) (tokCells L ++ tokC ⟨K,S,N⟩)):=ownsRow_below HV6.out hb7;have HB7:Hid (Below w.heap.size w w7):=HB6.out.trans (hb7.mono hzr6);clear hb7))
        go_roundw
        case rel=>exact ⟨a + Z + Y,L ++ [⟨K,S,N⟩],by omega,by go_num,HBK.out,by simp;omega,HC3.out,by unfold ToksOwn;rw [tokCells_snoc,List.length_append];exact HV7.out,HB7.out⟩
        case measure=>simp [intOf];omega
      · have HR:Hid (cutT s.data.toList=[]/\cutP s.data.toList=a/\cutE s.data.toList=E):=HER.out hE
        have hE':(E == 0)=false:=by simpa using hE
        clear HER HTK HSZ CA hE
        go_wp2_with (first
         | (go_at_call 18;refine CF1.out.mono ?_;rintro e w1 ⟨rfl,hb1⟩;have HB1:Hid (Below w.heap.size w w1):=HB.out.trans (hb1.mono hzr);have hzr1:w.heap.size<=w1.heap.size:=Nat.le_trans hzr hb1.size;clear hb1))
        refine bodyPost_ret (v:=.tuple #[vN,vI a,vI E]) (by simp [results,Tryz.results10,go_sem]) rfl ?_
        exact ⟨_,by rw [HR.out.2.1,HR.out.2.2],by rw [HR.out.1];exact ToksOwn.nil _ _,HB1.out.alloc hzr1 _⟩
  · have e:a=s.size:=by omega
    have HR:Hid (cutT s.data.toList=L/\cutP s.data.toList=0/\cutE s.data.toList=0):=HCUT.out.done H1.out (by omega)
    go_wp2
    refine bodyPost_ret (v:=.tuple #[.slice va L.length vc,vI 0,vI 0]) (by simp [results,Tryz.results10,go_sem]) rfl ?_
    exact ⟨_,by rw [HR.out.2.1,HR.out.2.2];rfl,by rw [HR.out.1];exact HV.out,HB.out⟩
theorem cellsT_at (L:List Tok):∀ (k:Nat) (h:k<L.length),(tokCells L)[k * 3]?=some (vI L[k].kind)/\(tokCells L)[k * 3 + 1]?=some (vS L[k].s)/\(tokCells L)[k * 3 + 2]?=some (vI L[k].n):=by
 induction L with
 | nil=>intro k h;simp at h
 | cons t L ih =>
  intro k h
  cases k with
  | zero=>exact ⟨rfl,rfl,rfl⟩
  | succ k =>
   have:=ih k (by simpa using h)
   have e:∀ j,(tokCells (t :: L))[(k + 1) * 3 + j]?=(tokCells L)[k * 3 + j]?:=fun j=>by
    rw [show (k + 1) * 3 + j=(k * 3 + j) + 3 by omega];rfl
   exact ⟨(e 0).trans this.1,(e 1).trans this.2.1,(e 2).trans this.2.2⟩
theorem ToksOwn.at {w:World} {base:Nat} {v:Value} {L:List Tok} (h:ToksOwn w base v L) (k:Nat) (hk:k<L.length):∃ b c,v=vL b 0 L.length c/\b<w.heap.size/\L.length<=c/\w.cell? ⟨b,k * 3,none⟩=some (vI L[k].kind)/\w.cell? ⟨b,k * 3 + 1,none⟩=some (vS L[k].s)/\w.cell? ⟨b,k * 3 + 2,none⟩=some (vI L[k].n):=by
 have h8:=h
 obtain ⟨hl,⟨rfl,h2⟩ | ⟨b,cap,cur,rfl,q1,q2,q3,q4,_⟩⟩:=h
 · omega
 · obtain ⟨c0,c1,c2⟩:=cellsT_at L k hk
   exact ⟨b,cap,rfl,(gI q2).1,q3,(World.ownsRow.cellAt h8 _ (by omega)).trans c0,(World.ownsRow.cellAt h8 _ (by omega)).trans c1,(World.ownsRow.cellAt h8 _ (by omega)).trans c2⟩
open Go.RowKit Go.ChangeShapes Go.WideShapes Go.Deep
theorem cells3:Tryz.prog.cellsOf 3=1:=by kernel_rfl
theorem cells9:Tryz.prog.cellsOf 9=1:=by kernel_rfl
theorem block_lt {w:World} {a:Addr} {v:Value} (h:w.cell? a=some v):a.block<w.heap.size:=by
 unfold World.cell? at h
 by_cases hb:a.block<w.heap.size
 · exact hb
 · rw [Array.getElem?_eq_none (by omega)] at h
   cases h
def StrsAt (w:World) (b off n:Nat) (C:Nat->ByteArray):Prop:=∀ i,i<n->w.cell? ⟨b,off + i,none⟩=some (vS (C i))
def StrsIs (w:World) (v:Value) (n:Nat) (C:Nat->ByteArray):Prop :=
 ∃ a cap,v=.slice a n cap/\n<=cap/\cap<=maxLen/\(a=none->cap=0)/\(0<n->∃ b off,a=some ⟨b,off,none⟩/\b<w.heap.size/\StrsAt w b off n C)
def ItsAt (w:World) (b off n:Nat) (X:Nat->It):Prop :=
 ∀ i,i<n->w.cell? ⟨b,off + i * 3,none⟩=some (vI (X i).kind)/\w.cell? ⟨b,off + i * 3 + 1,none⟩=some (vI (X i).n)/\w.cell? ⟨b,off + i * 3 + 2,none⟩=some (vS (X i).s)
def ItsIs (w:World) (v:Value) (n:Nat) (X:Nat->It):Prop :=
 ∃ a cap,v=.slice a n cap/\n<=cap/\cap<=maxLen/\(a=none->cap=0)/\(0<n->∃ b off,a=some ⟨b,off,none⟩/\b<w.heap.size/\ItsAt w b off n X)
def RowsAt (w:World) (b off m:Nat) (R:Nat->Row):Prop:=∀ i,i<m->∃ u,w.cell? ⟨b,off + i,none⟩=some u/\ItsIs w u (R i).len (R i).at_
def RowsIs (w:World) (v:Value) (m:Nat) (R:Nat->Row):Prop :=
 ∃ a cap,v=.slice a m cap/\m<=cap/\cap<=maxLen/\(a=none->cap=0)/\(0<m->∃ b off,a=some ⟨b,off,none⟩/\b<w.heap.size/\RowsAt w b off m R)
theorem StrsAt.below {w w':World} {b off n B:Nat} {C:Nat->ByteArray} (h:StrsAt w b off n C) (hb:Below B w w') (hB:b<B):StrsAt w' b off n C :=
 fun i hi=>(hb.cell (p:=⟨b,off + i,none⟩) hB).trans (h i hi)
theorem StrsIs.below {w w':World} {v:Value} {n:Nat} {C:Nat->ByteArray} (h:StrsIs w v n C) (hb:Below w.heap.size w w'):StrsIs w' v n C:=by
 obtain ⟨a,cap,h1,h2,h3,hn,h4⟩:=h
 refine ⟨a,cap,h1,h2,h3,hn,fun h0=>?_⟩
 obtain ⟨b,off,h5,h6,h7⟩:=h4 h0
 exact ⟨b,off,h5,Nat.lt_of_lt_of_le h6 hb.size,h7.below hb h6⟩
theorem ItsAt.below {w w':World} {b off n B:Nat} {X:Nat->It} (h:ItsAt w b off n X) (hb:Below B w w') (hB:b<B):ItsAt w' b off n X :=
 fun i hi=>⟨(hb.cell (p:=⟨b,off + i * 3,none⟩) hB).trans (h i hi).1,(hb.cell (p:=⟨b,off + i * 3 + 1,none⟩) hB).trans (h i hi).2.1,(hb.cell (p:=⟨b,off + i * 3 + 2,none⟩) hB).trans (h i hi).2.2⟩
theorem ItsIs.below {w w':World} {v:Value} {n:Nat} {X:Nat->It} (h:ItsIs w v n X) (hb:Below w.heap.size w w'):ItsIs w' v n X:=by
 obtain ⟨a,cap,h1,h2,h3,hn,h4⟩:=h
 refine ⟨a,cap,h1,h2,h3,hn,fun h0=>?_⟩
 obtain ⟨b,off,h5,h6,h7⟩:=h4 h0
 exact ⟨b,off,h5,Nat.lt_of_lt_of_le h6 hb.size,h7.below hb h6⟩
theorem RowsIs.below {w w':World} {v:Value} {m:Nat} {R:Nat->Row} (h:RowsIs w v m R) (hb:Below w.heap.size w w'):RowsIs w' v m R:=by
 obtain ⟨a,cap,h1,h2,h3,hn,h4⟩:=h
 refine ⟨a,cap,h1,h2,h3,hn,fun h0=>?_⟩
 obtain ⟨b,off,h5,h6,h7⟩:=h4 h0
 refine ⟨b,off,h5,Nat.lt_of_lt_of_le h6 hb.size,fun i hi=>?_⟩
 obtain ⟨u,k1,k2⟩:=h7 i hi
 exact ⟨u,(hb.cell (p:=⟨b,off + i,none⟩) h6).trans k1,k2.below hb⟩
theorem spot_none {W:World} {b off:Nat} {spot} {v:Value} (h:W.cell? ((⟨b,off,spot⟩:Addr).add 0)=some v):spot=none:=by
 simpa [Addr.add] using World.cell?_spot h
open Go.RowKit Go.ChangeShapes Go.WideShapes Go.Deep
structure Rw where
 k:Int
 a:Int
 b:Int
 c:Int
 t:ByteArray
def i64 (x:Int):Prop:=-9223372036854775808<=x/\x<=9223372036854775807
theorem i64_wf {x:Int} (h:(Lit.int .i64 x).wf=true):i64 x:=by
 unfold Lit.wf at h
 obtain ⟨h1,h2⟩:=Bool.and_eq_true_iff.1 h
 have h1:=of_decide_eq_true h1
 have h2:=of_decide_eq_true h2
 exact ⟨h1,h2⟩
def RawsAt (w:World) (b off n:Nat) (X:Nat->Rw):Prop :=
 ∀ i,i<n->w.cell? ⟨b,off + i * 5,none⟩=some (vI (X i).k)/\w.cell? ⟨b,off + i * 5 + 1,none⟩=some (vI (X i).a)/\w.cell? ⟨b,off + i * 5 + 2,none⟩=some (vI (X i).b)/\w.cell? ⟨b,off + i * 5 + 3,none⟩=some (vI (X i).c)/\w.cell? ⟨b,off + i * 5 + 4,none⟩=some (vS (X i).t)
def RawsIs (w:World) (v:Value) (n:Nat) (X:Nat->Rw):Prop :=
 ∃ a cap,v=.slice a n cap/\n<=cap/\cap<=maxLen/\(0<n->∃ b off,a=some ⟨b,off,none⟩/\b<w.heap.size/\RawsAt w b off n X)
def RawsFine (n:Nat) (X:Nat->Rw):Prop:=∀ i,i<n->i64 (X i).k/\i64 (X i).a/\i64 (X i).b/\i64 (X i).c/\(X i).t.size<=maxLen
theorem RawsIs.below {w w':World} {v:Value} {n:Nat} {X:Nat->Rw} (h:RawsIs w v n X) (hb:Below w.heap.size w w'):RawsIs w' v n X:=by
 obtain ⟨a,cap,h1,h2,h3,h4⟩:=h
 refine ⟨a,cap,h1,h2,h3,fun h0=>?_⟩
 obtain ⟨b,off,h5,h6,h7⟩:=h4 h0
 refine ⟨b,off,h5,Nat.lt_of_lt_of_le h6 hb.size,fun i hi=>?_⟩
 obtain ⟨k0,k1,k2,k3,k4⟩:=h7 i hi
 exact ⟨(hb.cell (p:=⟨b,off + i * 5,none⟩) h6).trans k0,(hb.cell (p:=⟨b,off + i * 5 + 1,none⟩) h6).trans k1,(hb.cell (p:=⟨b,off + i * 5 + 2,none⟩) h6).trans k2,(hb.cell (p:=⟨b,off + i * 5 + 3,none⟩) h6).trans k3,(hb.cell (p:=⟨b,off + i * 5 + 4,none⟩) h6).trans k4⟩
theorem cellsRaw:Tryz.prog.cellsOf 78=5:=by kernel_rfl
theorem open_five {H:Type} {enc:TypeId × Value->H} {P:Program} {w:World} {t:TypeId} {f0 f1 f2 f3 f4:Field} {fuel:Nat} {cs:List Value} {x:DataW H × List MemPlace} (ht:P.underlying t=some (.struct #[f0,f1,f2,f3,f4]))
 (h:DataW.trod enc P w 0 (fun _=>true) true fuel t cs=some x):∃ n y0 y1 y2 y3 y4,cs.length=P.cellsOf t/\DataW.trod enc P w 0 (fun _=>true) true n f0.type ((cs.drop f0.offset).take (P.cellsOf f0.type))=some y0/\DataW.trod enc P w 0 (fun _=>true) true n f1.type ((cs.drop f1.offset).take (P.cellsOf f1.type))=some y1/\DataW.trod enc P w 0 (fun _=>true) true n f2.type ((cs.drop f2.offset).take (P.cellsOf f2.type))=some y2/\DataW.trod enc P w 0 (fun _=>true) true n f3.type ((cs.drop f3.offset).take (P.cellsOf f3.type))=some y3/\DataW.trod enc P w 0 (fun _=>true) true n f4.type ((cs.drop f4.offset).take (P.cellsOf f4.type))=some y4:=by
 obtain ⟨xs,n,_,rfl,hl,hlen,hf⟩:=DataW.trod_struct ht h
 match xs,hlen with
 | [y0,y1,y2,y3,y4],_ =>
  exact ⟨n,y0,y1,y2,y3,y4,hl,by simpa using hf 0 f0 rfl,by simpa using hf 1 f1 rfl,by simpa using hf 2 f2 rfl,by simpa using hf 3 f3 rfl,by simpa using hf 4 f4 rfl⟩
theorem open_raw {H:Type} {enc:TypeId × Value->H} {W:World} {n:Nat} {cs:List Value} {x:DataW H × List MemPlace} (h:DataW.trod enc Tryz.prog W 0 (fun _=>true) true n 78 cs=some x) :
 ∃ e:Rw,cs=[vI e.k,vI e.a,vI e.b,vI e.c,vS e.t]/\i64 e.k/\i64 e.a/\i64 e.b/\i64 e.c/\e.t.size<=maxLen:=by
 obtain ⟨m,y0,y1,y2,y3,y4,hl,h0,h1,h2,h3,h4⟩:=open_five Tryz.underlying78 h
 rw [cellsRaw] at hl
 match cs,hl with
 | [c0,c1,c2,c3,c4],_ =>
  simp only [cells3,cells9,List.drop_zero,List.drop_succ_cons,List.take_succ_cons,List.take_zero] at h0 h1 h2 h3 h4
  obtain ⟨k,e0,_,s0⟩:=DataW.trod_int Tryz.underlying3 h0
  obtain ⟨a,e1,_,s1⟩:=DataW.trod_int Tryz.underlying3 h1
  obtain ⟨b,e2,_,s2⟩:=DataW.trod_int Tryz.underlying3 h2
  obtain ⟨c,e3,_,s3⟩:=DataW.trod_int Tryz.underlying3 h3
  obtain ⟨t,e4,_,s4⟩:=DataW.trod_string Tryz.underlying9 h4
  simp only [List.cons.injEq,and_true] at e0 e1 e2 e3 e4
  subst e0 e1 e2 e3 e4
  exact ⟨⟨k,a,b,c,t⟩,rfl,i64_wf s0,i64_wf s1,i64_wf s2,i64_wf s3,s4⟩
theorem open_rawl {H:Type} {enc:TypeId × Value->H} {W:World} {fuel:Nat} {v:Value} {x:DataW H × List MemPlace} (h:DataW.trod enc Tryz.prog W 0 (fun _=>true) true fuel 22 [v]=some x) :
 ∃ (n:Nat) (X:Nat->Rw),RawsIs W v n X/\RawsFine n X:=by
 rcases open_slice Tryz.underlying22 h with ⟨h1,_⟩ | ⟨a,len,cap,m,n,D,Pl,h1,hb,hl,hm,hmm,rfl,hx⟩
 · simp only [List.cons.injEq,and_true] at h1
   exact ⟨0,fun _=>⟨0,0,0,0,⟨#[]⟩⟩,⟨none,0,h1,Nat.le_refl _,Nat.zero_le _,fun h=>absurd h (Nat.lt_irrefl 0)⟩,fun i hi=>absurd hi (Nat.not_lt_zero i)⟩
 simp only [if_true] at hmm
 subst hmm
 simp only [List.cons.injEq,and_true] at h1
 subst h1
 haveI:Inhabited Rw:=⟨⟨0,0,0,0,⟨#[]⟩⟩⟩
 obtain ⟨X,hX⟩:=choose_lt (α:=Rw) (n:=m) (p:=fun i (e:Rw)=>W.cells? 0 (a.add (i * 5)) 5=some [vI e.k,vI e.a,vI e.b,vI e.c,vS e.t]/\i64 e.k/\i64 e.a/\i64 e.b/\i64 e.c/\e.t.size<=maxLen) (fun i hi=>by
  obtain ⟨cs',h1,h2⟩:=hx i hi
  rw [cellsRaw] at h1
  obtain ⟨e,rfl,s2⟩:=open_raw h2
  exact ⟨e,h1,s2⟩)
 have hc:∀ i,i<m->∀ r,r<5->W.cell? (a.add (i * 5 + r))=[Value.int .i64 (X i).k,vI (X i).a,vI (X i).b,vI (X i).c,vS (X i).t][r]?:=fun i hi r hr=>by
  obtain ⟨_,_,h3⟩:=World.cells?_some (hX i (by omega)).1
  rw [<- add_add]
  exact h3 r hr
 refine ⟨len,X,⟨some a,m,rfl,hl,hm,fun h0=>?_⟩,fun i hi=>(hX i (Nat.lt_of_lt_of_le hi hl)).2⟩
 obtain ⟨b,off,spot⟩:=a
 have h0':0<m:=Nat.lt_of_lt_of_le h0 hl
 obtain rfl:=spot_none (hc 0 h0' 0 (by omega))
 refine ⟨b,off,rfl,by simpa [Addr.add] using block_lt (hc 0 h0' 0 (by omega)),fun i hi=>?_⟩
 have hi':i<m:=Nat.lt_of_lt_of_le hi hl
 have g0:=hc i hi' 0 (by omega)
 have g1:=hc i hi' 1 (by omega)
 have g2:=hc i hi' 2 (by omega)
 have g3:=hc i hi' 3 (by omega)
 have g4:=hc i hi' 4 (by omega)
 rw [add_plain] at g0 g1 g2 g3 g4
 exact ⟨g0,g1,g2,g3,g4⟩
theorem open_raws {H:Type} {enc:TypeId × Value->H} {W:World} {r:Reach} {b0:Nat} {v:Value} {d:DataW H} {p:List MemPlace} (hv:Value.okWide Tryz.prog W r b0 22 v) (h:DataW.Trod enc Tryz.prog W 0 (fun _=>true) true 22 v d p):∃ (n:Nat) (X:Nat->Rw),RawsIs W v n X/\RawsFine n X:=by
 obtain ⟨a0,len0,cap0,rfl⟩:=okWide_slice Tryz.underlying22 hv
 obtain ⟨fuel,hf⟩:=h
 exact open_rawl (v:=.slice a0 len0 cap0) hf
open Go.RowKit Go.WideShapes
def pk (n many:Int):Int:=(if n<0 then -(n + 1) else n).tmod many
theorem pk_range {n many:Int} (h0:0<many):0<=pk n many/\pk n many<many:=by
 unfold pk
 have hx:0<=(if n<0 then -(n + 1) else n):=by split <;> omega
 rw [Int.tmod_eq_emod_of_nonneg hx]
 exact ⟨Int.emod_nonneg _ (by omega),Int.emod_lt_of_pos _ h0⟩
theorem picked_is (n many:Int) (w:World) (hn:-9223372036854775808<=n/\n<=9223372036854775807) (h0:0<many) (hm:many<=9223372036854775807) :
 Calls Tryz.prog 9 #[vI n,vI many] w fun e w'=>e=.returned (vI (pk n many))/\w'=w:=by
 obtain ⟨n1,n2⟩:=hn
 have hz:¬ many=0:=by omega
 have hz1:(many == 0)=false:=by simpa using hz
 have hm1:¬ many = -1:=by omega
 have hm2:(many == -1)=false:=by simpa using hm1
 have hr:=pk_range (n:=n) h0
 by_cases hlt:n<0
 · have HP:Hid (pk n many=(-(n + 1)).tmod many):=by
    have h:pk n many=(-(n + 1)).tmod many:=by unfold pk;rw [if_pos hlt]
    exact h
   go_enter Tryz.func9,Tryz.ntmps9
   go_wp2
   go_ret
   exact ⟨ret_int (by rw [HP.out,Int.neg_tmod]),rfl⟩
 · have HP:Hid (pk n many=n.tmod many):=by
    have h:pk n many=n.tmod many:=by unfold pk;rw [if_neg hlt]
    exact h
   go_enter Tryz.func9,Tryz.ntmps9
   go_wp2
   go_ret
   exact ⟨ret_int (by rw [HP.out,Int.tmod_eq_emod_of_nonneg (by omega)]),rfl⟩
open Go.RowKit
def GrowQ (pb:Nat) (w wr:World):Prop:=w.heap.size<=wr.heap.size/\wr.os=w.os/\wr.tape=w.tape/\wr.output=w.output/\∀ b,b<w.heap.size->b≠pb->wr.heap[b]?=w.heap[b]?
theorem GrowQ.refl (pb:Nat) (w:World):GrowQ pb w w:=⟨Nat.le_refl _,rfl,rfl,rfl,fun _ _ _=>rfl⟩
theorem GrowQ.below {pb:Nat} {w wr w':World} (h:GrowQ pb w wr) (hb:Below wr.heap.size wr w'):GrowQ pb w w':=⟨Nat.le_trans h.1 hb.size,hb.os.trans h.2.1,hb.tape.trans h.2.2.1,hb.output.trans h.2.2.2.1,fun b h1 h2=>(hb.block b (Nat.lt_of_lt_of_le h1 h.1)).trans (h.2.2.2.2 b h1 h2)⟩
theorem GrowQ.trans {pb:Nat} {a b c:World} (h:GrowQ pb a b) (h':GrowQ pb b c):GrowQ pb a c:=⟨Nat.le_trans h.1 h'.1,h'.2.1.trans h.2.1,h'.2.2.1.trans h.2.2.1,h'.2.2.2.1.trans h.2.2.2.1,fun k h1 hk=>(h'.2.2.2.2 k (Nat.lt_of_lt_of_le h1 h.1) hk).trans (h.2.2.2.2 k h1 hk)⟩
theorem GrowQ.alloc {pb:Nat} {w wr:World} (h:GrowQ pb w wr) (o:Obj):GrowQ pb w (wr.alloc o):=h.below ((Below.refl _ _).alloc (Nat.le_refl _) o)
theorem GrowQ.drew {pb:Nat} {w wr:World} (h:GrowQ pb w wr):GrowQ pb w wr.drew:=h
theorem GrowQ.set {pb:Nat} {w wr:World} (h:GrowQ pb w wr) (t:Nat) (u:Value):GrowQ pb w (wr.setCell ⟨pb,t,none⟩ u):=⟨by simpa using h.1,h.2.1,h.2.2.1,h.2.2.2.1,fun b h1 h2=>(Below.heap_setCell _ _ _ _ (by simpa using h2)).trans (h.2.2.2.2 b h1 h2)⟩
theorem GrowQ.low {pb:Nat} {w w':World} (h:GrowQ pb w w') (hp:pb<=w.heap.size):Below pb w w':=⟨h.2.1,h.2.2.1,h.2.2.2.1,h.1,fun b hb=>h.2.2.2.2 b (by omega) (by omega)⟩
theorem GrowQ.cell {pb:Nat} {w w':World} (h:GrowQ pb w w') {b k:Nat} (hb:b<w.heap.size) (hn:b≠pb):w'.cell? ⟨b,k,none⟩=w.cell? ⟨b,k,none⟩:=World.cell?_of_block (h.2.2.2.2 b hb hn)
def PoAt (w:World) (pb:Nat) (v:Value) (d:Bool):Prop:=w.cell? ⟨pb,0,none⟩=some v/\w.cell? ⟨pb,1,none⟩=some (.bool d)/\w.frozen? ⟨pb,0,none⟩=false/\w.frozen? ⟨pb,1,none⟩=false/\pb<w.heap.size
theorem PoAt.below {w w':World} {pb:Nat} {v:Value} {d:Bool} (h:PoAt w pb v d) (hb:Below w.heap.size w w'):PoAt w' pb v d:=by
 obtain ⟨h0,h1,h2,h3,h4⟩:=h
 exact ⟨(hb.cell (p:=⟨pb,0,none⟩) h4).trans h0,(hb.cell (p:=⟨pb,1,none⟩) h4).trans h1,(hb.frozen (p:=⟨pb,0,none⟩) h4).trans h2,(hb.frozen (p:=⟨pb,1,none⟩) h4).trans h3,Nat.lt_of_lt_of_le h4 hb.size⟩
theorem PoAt.setL {w:World} {pb:Nat} {v:Value} {d:Bool} (h:PoAt w pb v d) (u:Value):PoAt (w.setCell ⟨pb,0,none⟩ u) pb u d:=by
 obtain ⟨h0,h1,h2,h3,h4⟩:=h
 exact ⟨by simp [go_sem,h0],by simp [go_sem,h1],by simp [go_sem,h2],by simp [go_sem,h3],by simpa using h4⟩
theorem PoAt.setD {w:World} {pb:Nat} {v:Value} {d:Bool} (h:PoAt w pb v d) (e:Bool):PoAt (w.setCell ⟨pb,1,none⟩ (.bool e)) pb v e:=by
 obtain ⟨h0,h1,h2,h3,h4⟩:=h
 exact ⟨by simp [go_sem,h0],by simp [go_sem,h1],by simp [go_sem,h2],by simp [go_sem,h3],by simpa using h4⟩
structure PoS (w0 w:World) (pb:Nat) (d:Bool):Prop where
 size:w0.heap.size=pb
 st:∃ v n X,PoAt w pb v d/\RawsIs w0 v n X/\RawsFine n X
 lo:Below pb w0 w
theorem PoS.below {w0 w w':World} {pb:Nat} {d:Bool} (h:PoS w0 w pb d) (hb:Below w.heap.size w w'):PoS w0 w' pb d:=by
 obtain ⟨hz,⟨v,n,X,h1,h2,h3⟩,lo⟩:=h
 exact ⟨hz,⟨v,n,X,h1.below hb,h2,h3⟩,lo.trans (hb.mono (by have:=h1.2.2.2.2;omega))⟩
theorem PoS.lt {w0 w:World} {pb:Nat} {d:Bool} (h:PoS w0 w pb d):pb<w.heap.size:=by
 obtain ⟨v,n,X,h1,_⟩:=h.st
 exact h1.2.2.2.2
def RwFine (r:Rw):Prop:=i64 r.k/\i64 r.a/\i64 r.b/\i64 r.c/\r.t.size<=maxLen
theorem next_is {w0 w:World} {pb:Nat} {d:Bool} (h:PoS w0 w pb d) :
 Calls Tryz.prog 26 #[vP pb 0] w fun e w'=>∃ r,e=.returned (.agg #[vI r.k,vI r.a,vI r.b,vI r.c,vS r.t])/\RwFine r/\GrowQ pb w w'/\PoS w0 w' pb d:=by
 have HS:Hid (PoS w0 w pb d):=h
 obtain ⟨hz,⟨v,n,X,hp,hr,hf⟩,lo⟩:=h
 have HP:Hid (PoAt w pb v d):=hp
 have HR:Hid (RawsIs w0 v n X):=hr
 have HF:Hid (RawsFine n X):=hf
 have HLO:Hid (Below pb w0 w):=lo
 obtain ⟨a,cap,rfl,hnc,hcm,hx⟩:=hr
 obtain ⟨h0,h1,h2,h3,h4⟩:=hp
 unfold maxLen at hcm
 by_cases e0:n=0
 · subst e0
   clear hf lo hx
   go_enter Tryz.func26,Tryz.ntmps26
   go_wp2
   refine bodyPost_ret (v:=.agg #[vI 0,vI 0,vI 0,vI 0,vE]) (by simp [results,Tryz.results26,go_sem]) rfl ⟨⟨0,0,0,0,⟨#[]⟩⟩,rfl,⟨⟨by decide,by decide⟩,⟨by decide,by decide⟩,⟨by decide,by decide⟩,⟨by decide,by decide⟩,by show (0:Nat)<=maxLen;unfold maxLen;omega⟩,(GrowQ.refl _ _).alloc _,HS.out.below ((Below.refl _ _).alloc (Nat.le_refl _) _)⟩
 · obtain ⟨b,off,rfl,hb,hraw⟩:=hx (by omega)
   obtain ⟨r0,r1,r2,r3,r4⟩:=hraw 0 (by omega)
   rw [Nat.zero_mul,Nat.add_zero] at r0 r1 r2 r3 r4
   have hbp:b<pb:=by omega
   have x0:=(lo.cell (p:=⟨b,off,none⟩) hbp).trans r0
   have x1:=(lo.cell (p:=⟨b,off + 1,none⟩) hbp).trans r1
   have x2:=(lo.cell (p:=⟨b,off + 2,none⟩) hbp).trans r2
   have x3:=(lo.cell (p:=⟨b,off + 3,none⟩) hbp).trans r3
   have x4:=(lo.cell (p:=⟨b,off + 4,none⟩) hbp).trans r4
   have HFX:Hid (RwFine (X 0)):=hf 0 (by omega)
   have HTL:Hid (∀ u,((cap=1/\∃ u1,u=.slice u1 0 0)\/(¬ cap=1/\u=vL b (off + 5) (n - 1) (cap - 1)))->RawsIs w0 u (n - 1) (fun i=>X (i + 1))/\RawsFine (n - 1) (fun i=>X (i + 1))):=by
    intro u hu
    refine ⟨?_,fun i hi=>HF.out (i + 1) (by omega)⟩
    rcases hu with ⟨hc,u1,rfl⟩ | ⟨hc,rfl⟩
    · rw [show n - 1=0 by omega]
      exact ⟨_,_,rfl,Nat.le_refl _,Nat.zero_le _,fun h=>absurd h (Nat.lt_irrefl 0)⟩
    · refine ⟨_,_,rfl,by omega,by unfold maxLen;omega,fun _=>⟨b,off + 5,rfl,hb,fun i hi=>?_⟩⟩
      have:=hraw (i + 1) (by omega)
      rw [show off + (i + 1) * 5=off + 5 + i * 5 by omega] at this
      exact this
   generalize X 0=x at x0 x1 x2 x3 x4 HFX
   clear hf lo hx hraw r0 r1 r2 r3 r4
   have hbw:b<w.heap.size:=by omega
   have hbn:¬ b=pb:=by omega
   have hni:¬ (n:Int)=0:=by omega
   have hnb:((n:Int) == 0)=false:=by rw [beq_eq_false_iff_ne];exact hni
   have hn1:(1:Int)<=(n:Int):=by omega
   have hn0:(0:Int)<(n:Int):=by omega
   have hcc:(n:Int)<=(cap:Int):=by omega
   by_cases hc1:cap=1
   · have en:n=1:=by omega
     subst hc1
     subst en
     go_enter Tryz.func26,Tryz.ntmps26
     go_wp2
     refine bodyPost_ret (v:=.agg #[vI x.k,vI x.a,vI x.b,vI x.c,vS x.t]) (by simp [results,Tryz.results26,go_sem]) rfl ⟨x,rfl,HFX.out,(((GrowQ.refl _ _).set 0 _).alloc _).alloc _,?_⟩
     have hT:=HTL.out (vL b off 0 0) (by first | exact .inl ⟨rfl,_,rfl⟩ | exact .inl ⟨trivial,_,rfl⟩)
     exact PoS.below (w:=w.setCell ⟨pb,0,none⟩ (vL b off 0 0)) ⟨hz,⟨(vL b off 0 0),(1 - 1),_,HP.out.setL _,hT.1,hT.2⟩,HLO.out.trans (((GrowQ.refl pb w).set 0 _).low (by omega))⟩ (((Below.refl _ _).alloc (Nat.le_refl _) _).alloc (by simp) _)
   · have hc2:¬ (cap:Int)=1:=by omega
     go_enter Tryz.func26,Tryz.ntmps26
     go_wp2
     refine bodyPost_ret (v:=.agg #[vI x.k,vI x.a,vI x.b,vI x.c,vS x.t]) (by simp [results,Tryz.results26,go_sem]) rfl ⟨x,rfl,HFX.out,(((GrowQ.refl _ _).set 0 _).alloc _).alloc _,?_⟩
     have hT:=HTL.out (vL b (off + 5) (n - 1) (cap - 1)) (.inr ⟨hc1,rfl⟩)
     exact PoS.below (w:=w.setCell ⟨pb,0,none⟩ (vL b (off + 5) (n - 1) (cap - 1))) ⟨hz,⟨(vL b (off + 5) (n - 1) (cap - 1)),(n - 1),_,HP.out.setL _,hT.1,hT.2⟩,HLO.out.trans (((GrowQ.refl pb w).set 0 _).low (by omega))⟩ (((Below.refl _ _).alloc (Nat.le_refl _) _).alloc (by simp) _)
theorem step_cell (w:World) (i:Nat) (hi:i<18):(w.alloc (.cells #[vS ⟨#[97]⟩,vS ⟨#[98]⟩,vS ⟨#[42]⟩,vS ⟨#[64,107]⟩,vS ⟨#[64,109]⟩,vS ⟨#[46,46]⟩,vS ⟨#[116,101,120,116,40,41]⟩,vS ⟨#[110,111,100,101,40,41]⟩,vS ⟨#[100,101,115,99,101,110,100,97,110,116,58,58,97]⟩,vS ⟨#[97,110,99,101,115,116,111,114,58,58,42]⟩,vS ⟨#[102,111,108,108,111,119,105,110,103,58,58,98]⟩,vS ⟨#[112,114,101,99,101,100,105,110,103,58,58,42]⟩,vS ⟨#[102,111,108,108,111,119,105,110,103,45,115,105,98,108,105,110,103,58,58,42]⟩,vS ⟨#[112,114,101,99,101,100,105,110,103,45,115,105,98,108,105,110,103,58,58,110,111,100,101,40,41]⟩,vS ⟨#[115,101,108,102,58,58,99]⟩,vS ⟨#[100,101,115,99,101,110,100,97,110,116,45,111,114,45,115,101,108,102,58,58,110,111,100,101,40,41]⟩,vS ⟨#[99,111,109,109,101,110,116,40,41]⟩,vS ⟨#[99]⟩] 9)).cell? ⟨w.heap.size,i,none⟩=some (vS ⟨(stepL.getD i []).toArray⟩):=by
 have e:i=0\/i=1\/i=2\/i=3\/i=4\/i=5\/i=6\/i=7\/i=8\/i=9\/i=10\/i=11\/i=12\/i=13\/i=14\/i=15\/i=16\/i=17:=by omega
 rcases e with rfl | rfl | rfl | rfl | rfl | rfl | rfl | rfl | rfl | rfl | rfl | rfl | rfl | rfl | rfl | rfl | rfl | rfl <;> simp [stepL]
theorem q0_cell (w:World) (i:Nat) (hi:i<5):(w.alloc (.cells #[vS ⟨#[49]⟩,vS ⟨#[47,47,97]⟩,vS ⟨#[34,120,34]⟩,vS ⟨#[116,114,117,101,40,41]⟩,vS ⟨#[40,41]⟩] 9)).cell? ⟨w.heap.size,i,none⟩=some (vS ⟨(q0L.getD i []).toArray⟩):=by
 have e:i=0\/i=1\/i=2\/i=3\/i=4:=by omega
 rcases e with rfl | rfl | rfl | rfl | rfl <;> simp [q0L]
theorem base_cell (w:World) (i:Nat) (hi:i<6):(w.alloc (.cells #[vS ⟨#[47,114]⟩,vS ⟨#[47,47,97]⟩,vS ⟨#[47,47,42]⟩,vS ⟨#[47,114,47,42]⟩,vS ⟨#[47,47,64,107]⟩,vS ⟨#[47,47,116,101,120,116,40,41]⟩] 9)).cell? ⟨w.heap.size,i,none⟩=some (vS ⟨(baseL.getD i []).toArray⟩):=by
 have e:i=0\/i=1\/i=2\/i=3\/i=4\/i=5:=by omega
 rcases e with rfl | rfl | rfl | rfl | rfl | rfl <;> simp [baseL]
theorem pk_nat {n:Int} {m:Nat} (h:0<m):∃ i:Nat,pk n m=i/\i<m:=by
 have:=pk_range (n:=n) (many:=m) (by omega)
 exact ⟨(pk n m).toNat,by omega,by omega⟩
theorem step_is (pb:Nat) (r:Rw) (w:World) (hr:RwFine r) :
 Calls Tryz.prog 39 #[vP pb 0,.agg #[vI r.k,vI r.a,vI r.b,vI r.c,vS r.t]] w fun e w'=>∃ i,i<18/\e=.returned (vS ⟨(stepL.getD i []).toArray⟩)/\Below w.heap.size w w':=by
 obtain ⟨i,hi,hi18⟩:=pk_nat (n:=r.b) (m:=18) (by omega)
 have CK:Hid (∀ W,Calls Tryz.prog 9 #[vI r.b,vI 18] W fun e w'=>e=.returned (vI i)/\W=w'):=fun W=>(picked_is r.b 18 W hr.2.2.1 (by omega) (by omega)).mono fun e w' ⟨k1,k2⟩=>⟨by rw [k1];exact ret_int hi,k2.symm⟩
 have hii:(i:Int)<18:=by omega
 clear hi hr
 have hc:=step_cell (w.alloc (.cells #[vI r.k,vI r.a,vI r.b,vI r.c,vS r.t] 78)) i hi18
 rw [show (w.alloc (.cells #[vI r.k,vI r.a,vI r.b,vI r.c,vS r.t] 78)).heap.size=w.heap.size + 1 by simp] at hc
 obtain ⟨z,hz⟩:∃ z,z=stepL.getD i []:=⟨_,rfl⟩
 have HZ:Hid (z=stepL.getD i []):=hz
 rw [<- hz] at hc
 clear hz
 go_enter Tryz.func39,Tryz.ntmps39
 go_wp2_with (first | (go_at_call 9;refine (CK.out _).mono ?_;rintro e w4 ⟨rfl,rfl⟩))
 all_goals
  exact bodyPost_ret (v:=vS ⟨z.toArray⟩) (by simp [results,Tryz.results39,go_sem]) rfl ⟨i,hi18,by rw [HZ.out],((Below.refl _ _).alloc (Nat.le_refl _) _).alloc (by simp) _⟩
theorem query0_is {w0 w:World} {pb:Nat} {d:Bool} (h:PoS w0 w pb d) :
 Calls Tryz.prog 13 #[vP pb 0,vI 0] w fun e w'=>∃ i,i<5/\e=.returned (vS ⟨(q0L.getD i []).toArray⟩)/\GrowQ pb w w'/\PoS w0 w' pb d:=by
 have CN:Hid (Calls Tryz.prog 26 #[vP pb 0] w fun e w'=>∃ r,e=.returned (.agg #[vI r.k,vI r.a,vI r.b,vI r.c,vS r.t])/\RwFine r/\GrowQ pb w w'/\PoS w0 w' pb d):=next_is h
 clear h
 go_enter Tryz.func13,Tryz.ntmps13
 go_upto_region 3 with (first
  | (go_at_call 26;refine CN.out.mono ?_;rintro e w1 ⟨r,rfl,hr,hg1,hp1⟩;have HG1:Hid (GrowQ pb w w1):=hg1;have HP1:Hid (PoS w0 w1 pb d):=hp1;have HR:Hid (RwFine r):=hr;clear hg1 hp1 hr))
 obtain ⟨i,hi,hi5⟩:=pk_nat (n:=r.k) (m:=5) (by omega)
 have CK:Hid (∀ W,Calls Tryz.prog 9 #[vI r.k,vI 5] W fun e w'=>e=.returned (vI i)/\W=w'):=fun W=>(picked_is r.k 5 W HR.out.1 (by omega) (by omega)).mono fun e w' ⟨k1,k2⟩=>⟨by rw [k1];exact ret_int hi,k2.symm⟩
 have hii:(i:Int)<5:=by omega
 clear hi
 have hc:=q0_cell (w1.alloc (.cells #[vI r.k,vI r.a,vI r.b,vI r.c,vS r.t] 78)) i hi5
 rw [show (w1.alloc (.cells #[vI r.k,vI r.a,vI r.b,vI r.c,vS r.t] 78)).heap.size=w1.heap.size + 1 by simp] at hc
 obtain ⟨z,hz⟩:∃ z,z=q0L.getD i []:=⟨_,rfl⟩
 have HZ:Hid (z=q0L.getD i []):=hz
 rw [<- hz] at hc
 clear hz
 go_wp2_with (first | (go_at_call 9;refine (CK.out _).mono ?_;rintro e w4 ⟨rfl,rfl⟩))
 all_goals
  exact bodyPost_ret (v:=vS ⟨z.toArray⟩) (by simp [results,Tryz.results13,go_sem]) rfl ⟨i,hi5,by rw [HZ.out],(HG1.out.alloc _).alloc _,HP1.out.below (((Below.refl _ _).alloc (Nat.le_refl _) _).alloc (by simp) _)⟩
end Go.Proofs.YtmcmbdkpfcibkaaGreatDoor
