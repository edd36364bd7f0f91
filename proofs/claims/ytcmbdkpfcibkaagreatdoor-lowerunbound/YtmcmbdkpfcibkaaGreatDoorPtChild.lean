import Derived.Test.YtmcmbdkpfcibkaaGreatDoorPoNext
import Derived.Deep.RegionHeld3
set_option linter.unusedVariables false
set_option maxHeartbeats 1600000
namespace Go.Proofs.YtmcmbdkpfcibkaaGreatDoor
set_option maxRecDepth 100000
open Go.RowKit
theorem neT_run {k n k' n':Int} {s s':ByteArray} {v:Bool} (h:eqT ⟨k,s,n⟩ ⟨k',s',n'⟩=v) (W:World):Sem.run Tryz.prog (binOp .neq 65 (.agg #[vI k,vS s,vI n]) (.agg #[vI k',vS s',vI n'])) W=.ok (.bool (!v)) W:=by
 subst h
 by_cases h1:k=k'
 · by_cases h2:s=s'
   · by_cases h3:n=n'
     · subst h1 h2 h3;simp [eqT,go_sem]
     · have:=beq_eq_false_iff_ne.2 h3
       subst h1 h2;simp [eqT,go_sem,h3]
   · have h2':(s.toList == s'.toList)=false:=by rw [toL_eq,decide_eq_false h2]
     subst h1;simp [eqT,go_sem,h2,h2']
 · simp [eqT,go_sem,h1]
def childB (u0 u1 u2:Tok):Bool:=eqT u0 ⟨5,⟨#[42]⟩,0⟩ || ((u0.kind == 1) && (!(mkBeg u0 u1 u2) && (!(eqT u1 ⟨5,⟨#[40]⟩,0⟩) || (!(ktOf u0.s == 0) && eqT u2 ⟨5,⟨#[41]⟩,0⟩))))
theorem childBegins_star {w:World} {pb b c:Nat} {T:List Tok} {st:Pst} (h:PaS w pb b c T st) (hT:T.length<=200) (hat:st.at'<=300) {us:ByteArray} {uk un:Int} (hu:seeM T st 0=⟨uk,us,un⟩) (c0:eqT ⟨uk,us,un⟩ ⟨5,⟨#[42]⟩,0⟩=true) :
 Calls Tryz.prog 175 #[vP pb 0] w fun e w'=>e=.returned (.bool true)/\Below w.heap.size w w':=by
 have CS:Hid (∀ W,Below w.heap.size w W->Calls Tryz.prog 81 #[vP pb 0,vI 0] W fun e w'=>e=.returned (.agg #[vI uk,vS us,vI un])/\Below w.heap.size w w'):=fun W hW=>(see_lit (h.below hW) 0 (by omega) hT hat hu).mono fun e w' ⟨k1,k2⟩=>⟨k1,hW.trans (k2.mono hW.size)⟩
 have E0:=eqT_run c0
 have HB0:Hid (Below w.heap.size w w):=Below.refl _ _
 clear h
 go_enter Tryz.func175,Tryz.ntmps175
 go_upto_region 2 with (first | (go_at_call 81;have HNX:=HB0;(refine (CS.out _ HB0.out).mono ?_);rintro e w1 ⟨rfl,hb⟩;have HB1:Hid (Below w.heap.size w w1):=hb;clear hb HNX HB0))
 obtain ⟨W2,hW2⟩:∃ W,W=w1.alloc (.cells #[vI uk,vS us,vI un] 65):=⟨_,rfl⟩
 have HB2:Hid (Below w.heap.size w W2):=by rw [hW2];exact HB1.out.alloc HB1.out.size _
 have x0:W2.cell? ⟨w1.heap.size,0,none⟩=some (vI uk):=by rw [hW2];simp
 have x1:W2.cell? ⟨w1.heap.size,1,none⟩=some (vS us):=by rw [hW2];simp
 have x2:W2.cell? ⟨w1.heap.size,2,none⟩=some (vI un):=by rw [hW2];simp
 have hxl:w1.heap.size<W2.heap.size:=by rw [hW2];simp
 have HXL:Hid (w1.heap.size<W2.heap.size):=hxl
 have HSS:Hid (∀ W,Below W2.heap.size W2 W->W.cell? ⟨w1.heap.size,0,none⟩=some (vI uk)/\W.cell? ⟨w1.heap.size,1,none⟩=some (vS us)/\W.cell? ⟨w1.heap.size,2,none⟩=some (vI un)):=fun W hb=>⟨(hb.cell (p:=⟨w1.heap.size,0,none⟩) hxl).trans x0,(hb.cell (p:=⟨w1.heap.size,1,none⟩) hxl).trans x1,(hb.cell (p:=⟨w1.heap.size,2,none⟩) hxl).trans x2⟩
 have CM:Hid (∀ W,Below W2.heap.size W2 W->Calls Tryz.prog 82 #[vS ⟨#[42]⟩] W fun e w'=>e=.returned (.agg #[vI 5,vS ⟨#[42]⟩,vI 0])/\Below W2.heap.size W2 w'):=fun W hW=>(mark_is _ W).mono fun e w' ⟨k1,k2⟩=>⟨k1,hW.trans (k2.mono hW.size)⟩
 rw [<- hW2]
 clear hW2 x0 x1 x2 hxl HB1
 go_region_held3 (fun W=>W.cell? ⟨w1.heap.size,0,none⟩=some (vI uk)/\W.cell? ⟨w1.heap.size,1,none⟩=some (vS us)/\W.cell? ⟨w1.heap.size,2,none⟩=some (vI un))
  ((refine HSS.out _ ?_;repeat (first | exact Hid.out (by assumption) | exact Below.refl _ _ | refine Below.drew ?_)))
  (first
   | (go_at_call 82;refine (CM.out _ ?_).mono ?_;(focus (repeat (first | exact Below.refl _ _ | refine Below.drew ?_)));rintro e w3 ⟨rfl,hb3⟩;have HC3:Hid (Below W2.heap.size W2 w3):=hb3;clear hb3))
 obtain ⟨y0,y1,y2⟩:=HSS.out _ HC3.out
 have hxl3:w1.heap.size<w3.heap.size:=Nat.lt_of_lt_of_le HXL.out HC3.out.size
 have HB3:Hid (Below w.heap.size w w3):=HB2.out.trans (HC3.out.mono HB2.out.size)
 have HSW:Hid (∀ W,Below w3.heap.size w3 W->W.cell? ⟨w1.heap.size,0,none⟩=some (vI uk)/\W.cell? ⟨w1.heap.size,1,none⟩=some (vS us)/\W.cell? ⟨w1.heap.size,2,none⟩=some (vI un)/\w1.heap.size<W.heap.size):=fun W hb=>⟨(hb.cell (p:=⟨w1.heap.size,0,none⟩) hxl3).trans y0,(hb.cell (p:=⟨w1.heap.size,1,none⟩) hxl3).trans y1,(hb.cell (p:=⟨w1.heap.size,2,none⟩) hxl3).trans y2,Nat.lt_of_lt_of_le hxl3 hb.size⟩
 clear HSS CM HB2 HC3 HXL
 go_wp2
 go_ret
 exact ⟨rfl,by first | exact HB3.out | exact HB3.out.alloc HB3.out.size _⟩
theorem childBegins_kind {w:World} {pb b c:Nat} {T:List Tok} {st:Pst} (h:PaS w pb b c T st) (hT:T.length<=200) (hat:st.at'<=300) {us:ByteArray} {uk un:Int} (hu:seeM T st 0=⟨uk,us,un⟩) (c0:eqT ⟨uk,us,un⟩ ⟨5,⟨#[42]⟩,0⟩=false) (k1:(uk == 1)=false) :
 Calls Tryz.prog 175 #[vP pb 0] w fun e w'=>e=.returned (.bool false)/\Below w.heap.size w w':=by
 have CS:Hid (∀ W,Below w.heap.size w W->Calls Tryz.prog 81 #[vP pb 0,vI 0] W fun e w'=>e=.returned (.agg #[vI uk,vS us,vI un])/\Below w.heap.size w w'):=fun W hW=>(see_lit (h.below hW) 0 (by omega) hT hat hu).mono fun e w' ⟨k1,k2⟩=>⟨k1,hW.trans (k2.mono hW.size)⟩
 have E0:=eqT_run c0
 have k2:(uk != 1)=true:=by simp only [bne,k1];rfl
 have HB0:Hid (Below w.heap.size w w):=Below.refl _ _
 clear h
 go_enter Tryz.func175,Tryz.ntmps175
 go_upto_region 2 with (first | (go_at_call 81;have HNX:=HB0;(refine (CS.out _ HB0.out).mono ?_);rintro e w1 ⟨rfl,hb⟩;have HB1:Hid (Below w.heap.size w w1):=hb;clear hb HNX HB0))
 obtain ⟨W2,hW2⟩:∃ W,W=w1.alloc (.cells #[vI uk,vS us,vI un] 65):=⟨_,rfl⟩
 have HB2:Hid (Below w.heap.size w W2):=by rw [hW2];exact HB1.out.alloc HB1.out.size _
 have x0:W2.cell? ⟨w1.heap.size,0,none⟩=some (vI uk):=by rw [hW2];simp
 have x1:W2.cell? ⟨w1.heap.size,1,none⟩=some (vS us):=by rw [hW2];simp
 have x2:W2.cell? ⟨w1.heap.size,2,none⟩=some (vI un):=by rw [hW2];simp
 have hxl:w1.heap.size<W2.heap.size:=by rw [hW2];simp
 have HXL:Hid (w1.heap.size<W2.heap.size):=hxl
 have HSS:Hid (∀ W,Below W2.heap.size W2 W->W.cell? ⟨w1.heap.size,0,none⟩=some (vI uk)/\W.cell? ⟨w1.heap.size,1,none⟩=some (vS us)/\W.cell? ⟨w1.heap.size,2,none⟩=some (vI un)):=fun W hb=>⟨(hb.cell (p:=⟨w1.heap.size,0,none⟩) hxl).trans x0,(hb.cell (p:=⟨w1.heap.size,1,none⟩) hxl).trans x1,(hb.cell (p:=⟨w1.heap.size,2,none⟩) hxl).trans x2⟩
 have CM:Hid (∀ W,Below W2.heap.size W2 W->Calls Tryz.prog 82 #[vS ⟨#[42]⟩] W fun e w'=>e=.returned (.agg #[vI 5,vS ⟨#[42]⟩,vI 0])/\Below W2.heap.size W2 w'):=fun W hW=>(mark_is _ W).mono fun e w' ⟨k1,k2⟩=>⟨k1,hW.trans (k2.mono hW.size)⟩
 rw [<- hW2]
 clear hW2 x0 x1 x2 hxl HB1
 go_region_held3 (fun W=>W.cell? ⟨w1.heap.size,0,none⟩=some (vI uk)/\W.cell? ⟨w1.heap.size,1,none⟩=some (vS us)/\W.cell? ⟨w1.heap.size,2,none⟩=some (vI un))
  ((refine HSS.out _ ?_;repeat (first | exact Hid.out (by assumption) | exact Below.refl _ _ | refine Below.drew ?_)))
  (first
   | (go_at_call 82;refine (CM.out _ ?_).mono ?_;(focus (repeat (first | exact Below.refl _ _ | refine Below.drew ?_)));rintro e w3 ⟨rfl,hb3⟩;have HC3:Hid (Below W2.heap.size W2 w3):=hb3;clear hb3))
 obtain ⟨y0,y1,y2⟩:=HSS.out _ HC3.out
 have hxl3:w1.heap.size<w3.heap.size:=Nat.lt_of_lt_of_le HXL.out HC3.out.size
 have HB3:Hid (Below w.heap.size w w3):=HB2.out.trans (HC3.out.mono HB2.out.size)
 have HSW:Hid (∀ W,Below w3.heap.size w3 W->W.cell? ⟨w1.heap.size,0,none⟩=some (vI uk)/\W.cell? ⟨w1.heap.size,1,none⟩=some (vS us)/\W.cell? ⟨w1.heap.size,2,none⟩=some (vI un)/\w1.heap.size<W.heap.size):=fun W hb=>⟨(hb.cell (p:=⟨w1.heap.size,0,none⟩) hxl3).trans y0,(hb.cell (p:=⟨w1.heap.size,1,none⟩) hxl3).trans y1,(hb.cell (p:=⟨w1.heap.size,2,none⟩) hxl3).trans y2,Nat.lt_of_lt_of_le hxl3 hb.size⟩
 clear HSS CM HB2 HC3 HXL
 go_wp2
 go_ret
 exact ⟨rfl,by first | exact HB3.out | exact HB3.out.alloc HB3.out.size _⟩
theorem childBegins_make {w:World} {pb b c:Nat} {T:List Tok} {st:Pst} (h:PaS w pb b c T st) (hT:T.length<=200) (hat:st.at'<=300) {us:ByteArray} {un:Int} (hu:seeM T st 0=⟨1,us,un⟩) (c0:eqT ⟨1,us,un⟩ ⟨5,⟨#[42]⟩,0⟩=false) (hm:mkBeg (seeM T st 0) (seeM T st 1) (seeM T st 2)=true) :
 Calls Tryz.prog 175 #[vP pb 0] w fun e w'=>e=.returned (.bool false)/\Below w.heap.size w w':=by
 have CS:Hid (∀ W,Below w.heap.size w W->Calls Tryz.prog 81 #[vP pb 0,vI 0] W fun e w'=>e=.returned (.agg #[vI 1,vS us,vI un])/\Below w.heap.size w w'):=fun W hW=>(see_lit (h.below hW) 0 (by omega) hT hat hu).mono fun e w' ⟨k1,k2⟩=>⟨k1,hW.trans (k2.mono hW.size)⟩
 have E0:=eqT_run c0
 have k2:((1:Int) != 1)=false:=by decide
 have CB:Hid (∀ W,Below w.heap.size w W->Calls Tryz.prog 179 #[vP pb 0] W fun e w'=>e=.returned (.bool true)/\Below W.heap.size W w'):=fun W hW=>by have:=makeBegins_any (h.below hW) hT hat;rwa [hm] at this
 have HB0:Hid (Below w.heap.size w w):=Below.refl _ _
 clear h
 go_enter Tryz.func175,Tryz.ntmps175
 go_upto_region 2 with (first | (go_at_call 81;have HNX:=HB0;(refine (CS.out _ HB0.out).mono ?_);rintro e w1 ⟨rfl,hb⟩;have HB1:Hid (Below w.heap.size w w1):=hb;clear hb HNX HB0))
 obtain ⟨W2,hW2⟩:∃ W,W=w1.alloc (.cells #[vI 1,vS us,vI un] 65):=⟨_,rfl⟩
 have HB2:Hid (Below w.heap.size w W2):=by rw [hW2];exact HB1.out.alloc HB1.out.size _
 have x0:W2.cell? ⟨w1.heap.size,0,none⟩=some (vI 1):=by rw [hW2];simp
 have x1:W2.cell? ⟨w1.heap.size,1,none⟩=some (vS us):=by rw [hW2];simp
 have x2:W2.cell? ⟨w1.heap.size,2,none⟩=some (vI un):=by rw [hW2];simp
 have hxl:w1.heap.size<W2.heap.size:=by rw [hW2];simp
 have HXL:Hid (w1.heap.size<W2.heap.size):=hxl
 have HSS:Hid (∀ W,Below W2.heap.size W2 W->W.cell? ⟨w1.heap.size,0,none⟩=some (vI 1)/\W.cell? ⟨w1.heap.size,1,none⟩=some (vS us)/\W.cell? ⟨w1.heap.size,2,none⟩=some (vI un)):=fun W hb=>⟨(hb.cell (p:=⟨w1.heap.size,0,none⟩) hxl).trans x0,(hb.cell (p:=⟨w1.heap.size,1,none⟩) hxl).trans x1,(hb.cell (p:=⟨w1.heap.size,2,none⟩) hxl).trans x2⟩
 have CM:Hid (∀ W,Below W2.heap.size W2 W->Calls Tryz.prog 82 #[vS ⟨#[42]⟩] W fun e w'=>e=.returned (.agg #[vI 5,vS ⟨#[42]⟩,vI 0])/\Below W2.heap.size W2 w'):=fun W hW=>(mark_is _ W).mono fun e w' ⟨k1,k2⟩=>⟨k1,hW.trans (k2.mono hW.size)⟩
 rw [<- hW2]
 clear hW2 x0 x1 x2 hxl HB1
 go_region_held3 (fun W=>W.cell? ⟨w1.heap.size,0,none⟩=some (vI 1)/\W.cell? ⟨w1.heap.size,1,none⟩=some (vS us)/\W.cell? ⟨w1.heap.size,2,none⟩=some (vI un))
  ((refine HSS.out _ ?_;repeat (first | exact Hid.out (by assumption) | exact Below.refl _ _ | refine Below.drew ?_)))
  (first
   | (go_at_call 82;refine (CM.out _ ?_).mono ?_;(focus (repeat (first | exact Below.refl _ _ | refine Below.drew ?_)));rintro e w3 ⟨rfl,hb3⟩;have HC3:Hid (Below W2.heap.size W2 w3):=hb3;clear hb3))
 obtain ⟨y0,y1,y2⟩:=HSS.out _ HC3.out
 have hxl3:w1.heap.size<w3.heap.size:=Nat.lt_of_lt_of_le HXL.out HC3.out.size
 have HB3:Hid (Below w.heap.size w w3):=HB2.out.trans (HC3.out.mono HB2.out.size)
 have HSW:Hid (∀ W,Below w3.heap.size w3 W->W.cell? ⟨w1.heap.size,0,none⟩=some (vI 1)/\W.cell? ⟨w1.heap.size,1,none⟩=some (vS us)/\W.cell? ⟨w1.heap.size,2,none⟩=some (vI un)/\w1.heap.size<W.heap.size):=fun W hb=>⟨(hb.cell (p:=⟨w1.heap.size,0,none⟩) hxl3).trans y0,(hb.cell (p:=⟨w1.heap.size,1,none⟩) hxl3).trans y1,(hb.cell (p:=⟨w1.heap.size,2,none⟩) hxl3).trans y2,Nat.lt_of_lt_of_le hxl3 hb.size⟩
 clear HSS CM HB2 HC3 HXL
 go_wp2_with (first
  | (go_at_call 179;(refine (CB.out _ HB3.out).mono ?_);rintro e w4 ⟨rfl,hb⟩;have HB4:Hid (Below w.heap.size w w4):=(HB3.out.trans (hb.mono HB3.out.size));clear hb HB3))
 go_ret
 exact ⟨rfl,by first | exact HB4.out | exact HB4.out.alloc HB4.out.size _⟩
theorem childBegins_plain {w:World} {pb b c:Nat} {T:List Tok} {st:Pst} (h:PaS w pb b c T st) (hT:T.length<=200) (hat:st.at'<=300) {us:ByteArray} {un:Int} {u1s:ByteArray} {u1k u1n:Int} (hu:seeM T st 0=⟨1,us,un⟩) (c0:eqT ⟨1,us,un⟩ ⟨5,⟨#[42]⟩,0⟩=false) (hu1:seeM T st 1=⟨u1k,u1s,u1n⟩) (hm:mkBeg (seeM T st 0) (seeM T st 1) (seeM T st 2)=false) (c1:eqT ⟨u1k,u1s,u1n⟩ ⟨5,⟨#[40]⟩,0⟩=false) :
 Calls Tryz.prog 175 #[vP pb 0] w fun e w'=>e=.returned (.bool true)/\Below w.heap.size w w':=by
 have CS:Hid (∀ W,Below w.heap.size w W->Calls Tryz.prog 81 #[vP pb 0,vI 0] W fun e w'=>e=.returned (.agg #[vI 1,vS us,vI un])/\Below w.heap.size w w'):=fun W hW=>(see_lit (h.below hW) 0 (by omega) hT hat hu).mono fun e w' ⟨k1,k2⟩=>⟨k1,hW.trans (k2.mono hW.size)⟩
 have E0:=eqT_run c0
 have k2:((1:Int) != 1)=false:=by decide
 have CB:Hid (∀ W,Below w.heap.size w W->Calls Tryz.prog 179 #[vP pb 0] W fun e w'=>e=.returned (.bool false)/\Below W.heap.size W w'):=fun W hW=>by have:=makeBegins_any (h.below hW) hT hat;rwa [hm] at this
 have CS1:Hid (∀ W,Below w.heap.size w W->Calls Tryz.prog 81 #[vP pb 0,vI 1] W fun e w'=>e=.returned (.agg #[vI u1k,vS u1s,vI u1n])/\Below W.heap.size W w'):=fun W hW=>see_lit (h.below hW) 1 (by omega) hT hat hu1
 have E1:=neT_run c1
 have HB0:Hid (Below w.heap.size w w):=Below.refl _ _
 clear h
 go_enter Tryz.func175,Tryz.ntmps175
 go_upto_region 2 with (first | (go_at_call 81;have HNX:=HB0;(refine (CS.out _ HB0.out).mono ?_);rintro e w1 ⟨rfl,hb⟩;have HB1:Hid (Below w.heap.size w w1):=hb;clear hb HNX HB0))
 obtain ⟨W2,hW2⟩:∃ W,W=w1.alloc (.cells #[vI 1,vS us,vI un] 65):=⟨_,rfl⟩
 have HB2:Hid (Below w.heap.size w W2):=by rw [hW2];exact HB1.out.alloc HB1.out.size _
 have x0:W2.cell? ⟨w1.heap.size,0,none⟩=some (vI 1):=by rw [hW2];simp
 have x1:W2.cell? ⟨w1.heap.size,1,none⟩=some (vS us):=by rw [hW2];simp
 have x2:W2.cell? ⟨w1.heap.size,2,none⟩=some (vI un):=by rw [hW2];simp
 have hxl:w1.heap.size<W2.heap.size:=by rw [hW2];simp
 have HXL:Hid (w1.heap.size<W2.heap.size):=hxl
 have HSS:Hid (∀ W,Below W2.heap.size W2 W->W.cell? ⟨w1.heap.size,0,none⟩=some (vI 1)/\W.cell? ⟨w1.heap.size,1,none⟩=some (vS us)/\W.cell? ⟨w1.heap.size,2,none⟩=some (vI un)):=fun W hb=>⟨(hb.cell (p:=⟨w1.heap.size,0,none⟩) hxl).trans x0,(hb.cell (p:=⟨w1.heap.size,1,none⟩) hxl).trans x1,(hb.cell (p:=⟨w1.heap.size,2,none⟩) hxl).trans x2⟩
 have CM:Hid (∀ W,Below W2.heap.size W2 W->Calls Tryz.prog 82 #[vS ⟨#[42]⟩] W fun e w'=>e=.returned (.agg #[vI 5,vS ⟨#[42]⟩,vI 0])/\Below W2.heap.size W2 w'):=fun W hW=>(mark_is _ W).mono fun e w' ⟨k1,k2⟩=>⟨k1,hW.trans (k2.mono hW.size)⟩
 rw [<- hW2]
 clear hW2 x0 x1 x2 hxl HB1
 go_region_held3 (fun W=>W.cell? ⟨w1.heap.size,0,none⟩=some (vI 1)/\W.cell? ⟨w1.heap.size,1,none⟩=some (vS us)/\W.cell? ⟨w1.heap.size,2,none⟩=some (vI un))
  ((refine HSS.out _ ?_;repeat (first | exact Hid.out (by assumption) | exact Below.refl _ _ | refine Below.drew ?_)))
  (first
   | (go_at_call 82;refine (CM.out _ ?_).mono ?_;(focus (repeat (first | exact Below.refl _ _ | refine Below.drew ?_)));rintro e w3 ⟨rfl,hb3⟩;have HC3:Hid (Below W2.heap.size W2 w3):=hb3;clear hb3))
 obtain ⟨y0,y1,y2⟩:=HSS.out _ HC3.out
 have hxl3:w1.heap.size<w3.heap.size:=Nat.lt_of_lt_of_le HXL.out HC3.out.size
 have HB3:Hid (Below w.heap.size w w3):=HB2.out.trans (HC3.out.mono HB2.out.size)
 have HSW:Hid (∀ W,Below w3.heap.size w3 W->W.cell? ⟨w1.heap.size,0,none⟩=some (vI 1)/\W.cell? ⟨w1.heap.size,1,none⟩=some (vS us)/\W.cell? ⟨w1.heap.size,2,none⟩=some (vI un)/\w1.heap.size<W.heap.size):=fun W hb=>⟨(hb.cell (p:=⟨w1.heap.size,0,none⟩) hxl3).trans y0,(hb.cell (p:=⟨w1.heap.size,1,none⟩) hxl3).trans y1,(hb.cell (p:=⟨w1.heap.size,2,none⟩) hxl3).trans y2,Nat.lt_of_lt_of_le hxl3 hb.size⟩
 clear HSS CM HB2 HC3 HXL
 go_wp2_with (first
  | (go_at_call 179;(refine (CB.out _ HB3.out).mono ?_);rintro e w4 ⟨rfl,hb⟩;have HB4:Hid (Below w.heap.size w w4):=(HB3.out.trans (hb.mono HB3.out.size));have HD4:Hid (Below w3.heap.size w3 w4):=hb;clear hb HB3)
  | (go_at_call 81;refine (CS1.out _ HB4.out).mono ?_;rintro e w5 ⟨rfl,hb⟩;have HB5:Hid (Below w.heap.size w w5):=HB4.out.trans (hb.mono HB4.out.size);have HD5:Hid (Below w3.heap.size w3 w5):=HD4.out.trans (hb.mono HD4.out.size);clear hb HB4 HD4)
  | (go_at_call 82;have HNX:=HB5;refine (mark_is _ _).mono ?_;rintro e w6 ⟨rfl,hb⟩;have HB6:Hid (Below w.heap.size w w6):=HB5.out.trans (hb.mono HB5.out.size);have HD6:Hid (Below w3.heap.size w3 w6):=HD5.out.trans (hb.mono HD5.out.size);clear hb HNX HB5 HD5))
 go_ret
 exact ⟨rfl,by first | exact HB6.out | exact HB6.out.alloc HB6.out.size _⟩
theorem childBegins_call {w:World} {pb b c:Nat} {T:List Tok} {st:Pst} (h:PaS w pb b c T st) (hT:T.length<=200) (hat:st.at'<=300) {us:ByteArray} {un:Int} {u1s:ByteArray} {u1k u1n:Int} (hu:seeM T st 0=⟨1,us,un⟩) (c0:eqT ⟨1,us,un⟩ ⟨5,⟨#[42]⟩,0⟩=false) (hu1:seeM T st 1=⟨u1k,u1s,u1n⟩) (hm:mkBeg (seeM T st 0) (seeM T st 1) (seeM T st 2)=false) (c1:eqT ⟨u1k,u1s,u1n⟩ ⟨5,⟨#[40]⟩,0⟩=true) {kt:Int} (hk:KtTab w) (hkt:ktOf us=kt) (k0:(kt == 0)=true) :
 Calls Tryz.prog 175 #[vP pb 0] w fun e w'=>e=.returned (.bool false)/\Below w.heap.size w w':=by
 have CS:Hid (∀ W,Below w.heap.size w W->Calls Tryz.prog 81 #[vP pb 0,vI 0] W fun e w'=>e=.returned (.agg #[vI 1,vS us,vI un])/\Below w.heap.size w w'):=fun W hW=>(see_lit (h.below hW) 0 (by omega) hT hat hu).mono fun e w' ⟨k1,k2⟩=>⟨k1,hW.trans (k2.mono hW.size)⟩
 have E0:=eqT_run c0
 have k2:((1:Int) != 1)=false:=by decide
 have CB:Hid (∀ W,Below w.heap.size w W->Calls Tryz.prog 179 #[vP pb 0] W fun e w'=>e=.returned (.bool false)/\Below W.heap.size W w'):=fun W hW=>by have:=makeBegins_any (h.below hW) hT hat;rwa [hm] at this
 have CK:Hid (∀ W,Below w.heap.size w W->Calls Tryz.prog 178 #[vS us] W fun e w'=>e=.returned (vI kt)/\Below W.heap.size W w'):=fun W hW=>by have:=kindTestOf_is us W (hk.below hW);rwa [hkt] at this
 have CS1:Hid (∀ W,Below w.heap.size w W->Calls Tryz.prog 81 #[vP pb 0,vI 1] W fun e w'=>e=.returned (.agg #[vI u1k,vS u1s,vI u1n])/\Below W.heap.size W w'):=fun W hW=>see_lit (h.below hW) 1 (by omega) hT hat hu1
 have E1:=neT_run c1
 have k3:(kt != 0)=false:=by simp only [bne,k0];rfl
 clear hk
 have HB0:Hid (Below w.heap.size w w):=Below.refl _ _
 clear h
 go_enter Tryz.func175,Tryz.ntmps175
 go_upto_region 2 with (first | (go_at_call 81;have HNX:=HB0;(refine (CS.out _ HB0.out).mono ?_);rintro e w1 ⟨rfl,hb⟩;have HB1:Hid (Below w.heap.size w w1):=hb;clear hb HNX HB0))
 obtain ⟨W2,hW2⟩:∃ W,W=w1.alloc (.cells #[vI 1,vS us,vI un] 65):=⟨_,rfl⟩
 have HB2:Hid (Below w.heap.size w W2):=by rw [hW2];exact HB1.out.alloc HB1.out.size _
 have x0:W2.cell? ⟨w1.heap.size,0,none⟩=some (vI 1):=by rw [hW2];simp
 have x1:W2.cell? ⟨w1.heap.size,1,none⟩=some (vS us):=by rw [hW2];simp
 have x2:W2.cell? ⟨w1.heap.size,2,none⟩=some (vI un):=by rw [hW2];simp
 have hxl:w1.heap.size<W2.heap.size:=by rw [hW2];simp
 have HXL:Hid (w1.heap.size<W2.heap.size):=hxl
 have HSS:Hid (∀ W,Below W2.heap.size W2 W->W.cell? ⟨w1.heap.size,0,none⟩=some (vI 1)/\W.cell? ⟨w1.heap.size,1,none⟩=some (vS us)/\W.cell? ⟨w1.heap.size,2,none⟩=some (vI un)):=fun W hb=>⟨(hb.cell (p:=⟨w1.heap.size,0,none⟩) hxl).trans x0,(hb.cell (p:=⟨w1.heap.size,1,none⟩) hxl).trans x1,(hb.cell (p:=⟨w1.heap.size,2,none⟩) hxl).trans x2⟩
 have CM:Hid (∀ W,Below W2.heap.size W2 W->Calls Tryz.prog 82 #[vS ⟨#[42]⟩] W fun e w'=>e=.returned (.agg #[vI 5,vS ⟨#[42]⟩,vI 0])/\Below W2.heap.size W2 w'):=fun W hW=>(mark_is _ W).mono fun e w' ⟨k1,k2⟩=>⟨k1,hW.trans (k2.mono hW.size)⟩
 rw [<- hW2]
 clear hW2 x0 x1 x2 hxl HB1
 go_region_held3 (fun W=>W.cell? ⟨w1.heap.size,0,none⟩=some (vI 1)/\W.cell? ⟨w1.heap.size,1,none⟩=some (vS us)/\W.cell? ⟨w1.heap.size,2,none⟩=some (vI un))
  ((refine HSS.out _ ?_;repeat (first | exact Hid.out (by assumption) | exact Below.refl _ _ | refine Below.drew ?_)))
  (first
   | (go_at_call 82;refine (CM.out _ ?_).mono ?_;(focus (repeat (first | exact Below.refl _ _ | refine Below.drew ?_)));rintro e w3 ⟨rfl,hb3⟩;have HC3:Hid (Below W2.heap.size W2 w3):=hb3;clear hb3))
 obtain ⟨y0,y1,y2⟩:=HSS.out _ HC3.out
 have hxl3:w1.heap.size<w3.heap.size:=Nat.lt_of_lt_of_le HXL.out HC3.out.size
 have HB3:Hid (Below w.heap.size w w3):=HB2.out.trans (HC3.out.mono HB2.out.size)
 have HSW:Hid (∀ W,Below w3.heap.size w3 W->W.cell? ⟨w1.heap.size,0,none⟩=some (vI 1)/\W.cell? ⟨w1.heap.size,1,none⟩=some (vS us)/\W.cell? ⟨w1.heap.size,2,none⟩=some (vI un)/\w1.heap.size<W.heap.size):=fun W hb=>⟨(hb.cell (p:=⟨w1.heap.size,0,none⟩) hxl3).trans y0,(hb.cell (p:=⟨w1.heap.size,1,none⟩) hxl3).trans y1,(hb.cell (p:=⟨w1.heap.size,2,none⟩) hxl3).trans y2,Nat.lt_of_lt_of_le hxl3 hb.size⟩
 clear HSS CM HB2 HC3 HXL
 go_wp2_with (first
  | (go_at_call 179;(refine (CB.out _ HB3.out).mono ?_);rintro e w4 ⟨rfl,hb⟩;have HB4:Hid (Below w.heap.size w w4):=(HB3.out.trans (hb.mono HB3.out.size));have HD4:Hid (Below w3.heap.size w3 w4):=hb;clear hb HB3)
  | (go_at_call 81;refine (CS1.out _ HB4.out).mono ?_;rintro e w5 ⟨rfl,hb⟩;have HB5:Hid (Below w.heap.size w w5):=HB4.out.trans (hb.mono HB4.out.size);have HD5:Hid (Below w3.heap.size w3 w5):=HD4.out.trans (hb.mono HD4.out.size);clear hb HB4 HD4)
  | (go_at_call 82;have HNX:=HB5;refine (mark_is _ _).mono ?_;rintro e w6 ⟨rfl,hb⟩;have HB6:Hid (Below w.heap.size w w6):=HB5.out.trans (hb.mono HB5.out.size);have HD6:Hid (Below w3.heap.size w3 w6):=HD5.out.trans (hb.mono HD5.out.size);obtain ⟨z0,z1,z2,z3⟩:=HSW.out _ HD6.out;clear hb HNX HB5 HD5)
  | (go_at_call 178;refine (CK.out _ HB6.out).mono ?_;rintro e w7 ⟨rfl,hb⟩;have HB7:Hid (Below w.heap.size w w7):=HB6.out.trans (hb.mono HB6.out.size);have HD7:Hid (Below w3.heap.size w3 w7):=HD6.out.trans (hb.mono HD6.out.size);clear hb HB6 HD6))
 go_ret
 exact ⟨rfl,by first | exact HB7.out | exact HB7.out.alloc HB7.out.size _⟩
theorem childBegins_test {w:World} {pb b c:Nat} {T:List Tok} {st:Pst} (h:PaS w pb b c T st) (hT:T.length<=200) (hat:st.at'<=300) {us:ByteArray} {un:Int} {u1s:ByteArray} {u1k u1n:Int} {u2s:ByteArray} {u2k u2n:Int} {v:Bool} (hu:seeM T st 0=⟨1,us,un⟩) (c0:eqT ⟨1,us,un⟩ ⟨5,⟨#[42]⟩,0⟩=false) (hu1:seeM T st 1=⟨u1k,u1s,u1n⟩) (hu2:seeM T st 2=⟨u2k,u2s,u2n⟩) (hm:mkBeg (seeM T st 0) (seeM T st 1) (seeM T st 2)=false) (c1:eqT ⟨u1k,u1s,u1n⟩ ⟨5,⟨#[40]⟩,0⟩=true) (c2:eqT ⟨u2k,u2s,u2n⟩ ⟨5,⟨#[41]⟩,0⟩=v) {kt:Int} (hk:KtTab w) (hkt:ktOf us=kt) (k0:(kt == 0)=false) :
 Calls Tryz.prog 175 #[vP pb 0] w fun e w'=>e=.returned (.bool v)/\Below w.heap.size w w':=by
 have CS:Hid (∀ W,Below w.heap.size w W->Calls Tryz.prog 81 #[vP pb 0,vI 0] W fun e w'=>e=.returned (.agg #[vI 1,vS us,vI un])/\Below w.heap.size w w'):=fun W hW=>(see_lit (h.below hW) 0 (by omega) hT hat hu).mono fun e w' ⟨k1,k2⟩=>⟨k1,hW.trans (k2.mono hW.size)⟩
 have E0:=eqT_run c0
 have k2:((1:Int) != 1)=false:=by decide
 have CB:Hid (∀ W,Below w.heap.size w W->Calls Tryz.prog 179 #[vP pb 0] W fun e w'=>e=.returned (.bool false)/\Below W.heap.size W w'):=fun W hW=>by have:=makeBegins_any (h.below hW) hT hat;rwa [hm] at this
 have CK:Hid (∀ W,Below w.heap.size w W->Calls Tryz.prog 178 #[vS us] W fun e w'=>e=.returned (vI kt)/\Below W.heap.size W w'):=fun W hW=>by have:=kindTestOf_is us W (hk.below hW);rwa [hkt] at this
 have CS1:Hid (∀ W,Below w.heap.size w W->Calls Tryz.prog 81 #[vP pb 0,vI 1] W fun e w'=>e=.returned (.agg #[vI u1k,vS u1s,vI u1n])/\Below W.heap.size W w'):=fun W hW=>see_lit (h.below hW) 1 (by omega) hT hat hu1
 have CS2:Hid (∀ W,Below w.heap.size w W->Calls Tryz.prog 81 #[vP pb 0,vI 2] W fun e w'=>e=.returned (.agg #[vI u2k,vS u2s,vI u2n])/\Below W.heap.size W w'):=fun W hW=>see_lit (h.below hW) 2 (by omega) hT hat hu2
 have E1:=neT_run c1
 have E2:=eqT_run c2
 have k3:(kt != 0)=true:=by simp only [bne,k0];rfl
 clear hk
 have HB0:Hid (Below w.heap.size w w):=Below.refl _ _
 clear h
 go_enter Tryz.func175,Tryz.ntmps175
 go_upto_region 2 with (first | (go_at_call 81;have HNX:=HB0;(refine (CS.out _ HB0.out).mono ?_);rintro e w1 ⟨rfl,hb⟩;have HB1:Hid (Below w.heap.size w w1):=hb;clear hb HNX HB0))
 obtain ⟨W2,hW2⟩:∃ W,W=w1.alloc (.cells #[vI 1,vS us,vI un] 65):=⟨_,rfl⟩
 have HB2:Hid (Below w.heap.size w W2):=by rw [hW2];exact HB1.out.alloc HB1.out.size _
 have x0:W2.cell? ⟨w1.heap.size,0,none⟩=some (vI 1):=by rw [hW2];simp
 have x1:W2.cell? ⟨w1.heap.size,1,none⟩=some (vS us):=by rw [hW2];simp
 have x2:W2.cell? ⟨w1.heap.size,2,none⟩=some (vI un):=by rw [hW2];simp
 have hxl:w1.heap.size<W2.heap.size:=by rw [hW2];simp
 have HXL:Hid (w1.heap.size<W2.heap.size):=hxl
 have HSS:Hid (∀ W,Below W2.heap.size W2 W->W.cell? ⟨w1.heap.size,0,none⟩=some (vI 1)/\W.cell? ⟨w1.heap.size,1,none⟩=some (vS us)/\W.cell? ⟨w1.heap.size,2,none⟩=some (vI un)):=fun W hb=>⟨(hb.cell (p:=⟨w1.heap.size,0,none⟩) hxl).trans x0,(hb.cell (p:=⟨w1.heap.size,1,none⟩) hxl).trans x1,(hb.cell (p:=⟨w1.heap.size,2,none⟩) hxl).trans x2⟩
 have CM:Hid (∀ W,Below W2.heap.size W2 W->Calls Tryz.prog 82 #[vS ⟨#[42]⟩] W fun e w'=>e=.returned (.agg #[vI 5,vS ⟨#[42]⟩,vI 0])/\Below W2.heap.size W2 w'):=fun W hW=>(mark_is _ W).mono fun e w' ⟨k1,k2⟩=>⟨k1,hW.trans (k2.mono hW.size)⟩
 rw [<- hW2]
 clear hW2 x0 x1 x2 hxl HB1
 go_region_held3 (fun W=>W.cell? ⟨w1.heap.size,0,none⟩=some (vI 1)/\W.cell? ⟨w1.heap.size,1,none⟩=some (vS us)/\W.cell? ⟨w1.heap.size,2,none⟩=some (vI un))
  ((refine HSS.out _ ?_;repeat (first | exact Hid.out (by assumption) | exact Below.refl _ _ | refine Below.drew ?_)))
  (first
   | (go_at_call 82;refine (CM.out _ ?_).mono ?_;(focus (repeat (first | exact Below.refl _ _ | refine Below.drew ?_)));rintro e w3 ⟨rfl,hb3⟩;have HC3:Hid (Below W2.heap.size W2 w3):=hb3;clear hb3))
 obtain ⟨y0,y1,y2⟩:=HSS.out _ HC3.out
 have hxl3:w1.heap.size<w3.heap.size:=Nat.lt_of_lt_of_le HXL.out HC3.out.size
 have HB3:Hid (Below w.heap.size w w3):=HB2.out.trans (HC3.out.mono HB2.out.size)
 have HSW:Hid (∀ W,Below w3.heap.size w3 W->W.cell? ⟨w1.heap.size,0,none⟩=some (vI 1)/\W.cell? ⟨w1.heap.size,1,none⟩=some (vS us)/\W.cell? ⟨w1.heap.size,2,none⟩=some (vI un)/\w1.heap.size<W.heap.size):=fun W hb=>⟨(hb.cell (p:=⟨w1.heap.size,0,none⟩) hxl3).trans y0,(hb.cell (p:=⟨w1.heap.size,1,none⟩) hxl3).trans y1,(hb.cell (p:=⟨w1.heap.size,2,none⟩) hxl3).trans y2,Nat.lt_of_lt_of_le hxl3 hb.size⟩
 clear HSS CM HB2 HC3 HXL
 go_wp2_with (first
  | (go_at_call 179;(refine (CB.out _ HB3.out).mono ?_);rintro e w4 ⟨rfl,hb⟩;have HB4:Hid (Below w.heap.size w w4):=(HB3.out.trans (hb.mono HB3.out.size));have HD4:Hid (Below w3.heap.size w3 w4):=hb;clear hb HB3)
  | (go_at_call 81;refine (CS1.out _ HB4.out).mono ?_;rintro e w5 ⟨rfl,hb⟩;have HB5:Hid (Below w.heap.size w w5):=HB4.out.trans (hb.mono HB4.out.size);have HD5:Hid (Below w3.heap.size w3 w5):=HD4.out.trans (hb.mono HD4.out.size);clear hb HB4 HD4)
  | (go_at_call 82;have HNX:=HB5;refine (mark_is _ _).mono ?_;rintro e w6 ⟨rfl,hb⟩;have HB6:Hid (Below w.heap.size w w6):=HB5.out.trans (hb.mono HB5.out.size);have HD6:Hid (Below w3.heap.size w3 w6):=HD5.out.trans (hb.mono HD5.out.size);obtain ⟨z0,z1,z2,z3⟩:=HSW.out _ HD6.out;clear hb HNX HB5 HD5)
  | (go_at_call 178;refine (CK.out _ HB6.out).mono ?_;rintro e w7 ⟨rfl,hb⟩;have HB7:Hid (Below w.heap.size w w7):=HB6.out.trans (hb.mono HB6.out.size);have HD7:Hid (Below w3.heap.size w3 w7):=HD6.out.trans (hb.mono HD6.out.size);clear hb HB6 HD6)
  | (go_at_call 81;refine (CS2.out _ HB7.out).mono ?_;rintro e w8 ⟨rfl,hb⟩;have HB8:Hid (Below w.heap.size w w8):=HB7.out.trans (hb.mono HB7.out.size);have HD8:Hid (Below w3.heap.size w3 w8):=HD7.out.trans (hb.mono HD7.out.size);clear hb HB7 HD7)
  | (go_at_call 82;have HNX:=HB8;refine (mark_is _ _).mono ?_;rintro e w9 ⟨rfl,hb⟩;have HB9:Hid (Below w.heap.size w w9):=HB8.out.trans (hb.mono HB8.out.size);have HD9:Hid (Below w3.heap.size w3 w9):=HD8.out.trans (hb.mono HD8.out.size);clear hb HNX HB8 HD8))
 go_ret
 exact ⟨rfl,by first | exact HB9.out | exact HB9.out.alloc HB9.out.size _⟩
theorem childBegins_any {w:World} {pb b c:Nat} {T:List Tok} {st:Pst} (h:PaS w pb b c T st) (hT:T.length<=200) (hat:st.at'<=300) (hk:KtTab w):Calls Tryz.prog 175 #[vP pb 0] w fun e w'=>e=.returned (.bool (childB (seeM T st 0) (seeM T st 1) (seeM T st 2)))/\Below w.heap.size w w':=by
 obtain ⟨⟨uk,us,un⟩,hu⟩:∃ u,seeM T st 0=u:=⟨_,rfl⟩
 obtain ⟨⟨u1k,u1s,u1n⟩,hu1⟩:∃ u,seeM T st 1=u:=⟨_,rfl⟩
 obtain ⟨⟨u2k,u2s,u2n⟩,hu2⟩:∃ u,seeM T st 2=u:=⟨_,rfl⟩
 cases c0:eqT ⟨uk,us,un⟩ ⟨5,⟨#[42]⟩,0⟩
 case true =>
  have:=childBegins_star h hT hat hu c0
  rwa [show childB (seeM T st 0) (seeM T st 1) (seeM T st 2)=true by rw [hu];simp [childB,c0]]
 by_cases e1:uk=1
 · subst e1
   cases hm:mkBeg (seeM T st 0) (seeM T st 1) (seeM T st 2)
   case true =>
    have:=childBegins_make h hT hat hu c0 hm
    rwa [show childB (seeM T st 0) (seeM T st 1) (seeM T st 2)=false by unfold childB;rw [hm,hu,c0];simp]
   cases c1:eqT ⟨u1k,u1s,u1n⟩ ⟨5,⟨#[40]⟩,0⟩
   · have:=childBegins_plain h hT hat hu c0 hu1 hm c1
     rwa [show childB (seeM T st 0) (seeM T st 1) (seeM T st 2)=true by unfold childB;rw [hm,hu,hu1,c0,c1];simp]
   · cases k0:(ktOf us == 0)
     · have:=childBegins_test h hT hat hu c0 hu1 hu2 hm c1 rfl hk rfl k0
       rwa [show childB (seeM T st 0) (seeM T st 1) (seeM T st 2)=eqT ⟨u2k,u2s,u2n⟩ ⟨5,⟨#[41]⟩,0⟩ by unfold childB;rw [hm,hu,hu1,hu2,c0,c1,k0];simp]
     · have:=childBegins_call h hT hat hu c0 hu1 hm c1 hk rfl k0
       rwa [show childB (seeM T st 0) (seeM T st 1) (seeM T st 2)=false by unfold childB;rw [hm,hu,hu1,c0,c1,k0];simp]
 · have k1:=beq_eq_false_iff_ne.2 e1
   have:=childBegins_kind h hT hat hu c0 k1
   rwa [show childB (seeM T st 0) (seeM T st 1) (seeM T st 2)=false by rw [hu];simp [childB,c0,k1]]
end Go.Proofs.YtmcmbdkpfcibkaaGreatDoor
