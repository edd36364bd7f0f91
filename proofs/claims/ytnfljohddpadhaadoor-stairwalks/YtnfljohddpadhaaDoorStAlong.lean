/-
  CONTRACTS of package axes: along, axis by axis.
-/
import Derived.Test.YtnfljohddpadhaaDoorStMath
import Derived.Test.YtnfljohddpadhaaDoorStFol
import Derived.Test.YtnfljohddpadhaaDoorStSib
import Derived.Deep.QuietTactic
import Derived.BigQuiet
import Derived.WalkLawsBesides
import Derived.Outline
import Derived.Deep.RegionHeld3
import Derived.Deep.RegionLaw
import Derived.Laws.EntriesVeiled
set_option linter.unusedVariables false
namespace Go.Proofs.YtnfljohddpadhaaDoor
set_option maxRecDepth 100000
open Go.RowKit Go.WideShapes

set_option maxHeartbeats 1600000 in
theorem along_1 (la : Option Addr) (lb lo N lcap : Nat) (E : Nat → Nd) (ca : Option Addr) (K ccap M : Nat) (cb co : Nat) (C : Nat → Nat) (w : World) (t : Tr E N) (hcap : K ≤ ccap) (hK : ccap ≤ maxLen) (hw : Wk w la lb lo N lcap E) (hM : lb ≠ M) (hC : CxAt w ca cb co K C) (hcM : cb ≠ M) (hCN : ∀ j, j < K → C j < N) (hasc : ∀ j k, j < k → k < K → C j ≤ C k) (hS : Seen w M (fun _ => False)) (hlb : lb < w.heap.size) (hcb : cb < w.heap.size) :
    Calls Tryd.prog 16 #[.agg #[.slice la N lcap, .slice ca K ccap, .map (some M)], .int .i64 1] w fun e w' => e = .returned (.tuple #[]) ∧ Seen w' M (onJ E N K C 1) ∧ Kept (fun b => b = M) w w' := by
  have hlt := hS.lt
  obtain ⟨W1, hW1⟩ : ∃ W, W = (w.alloc (.cells #[.slice la N lcap, .slice ca K ccap, .map (some M)] 39)) := ⟨_, rfl⟩
  have b1 : Below w.heap.size w W1 := by rw [hW1]; exact (Below.refl _ _).alloc (Nat.le_refl _) _
  have hx1 : BoxAt W1 w.heap.size la N lcap ca K ccap M := by rw [hW1]; exact heap_alloc_new _ _
  have hC1 := hC.keep (Kept.of_below (X := fun _ => False) b1) (fun h => h)
  have hS1 : Seen W1 M (fun _ => False) := Seen.keep hS (b1.block M hlt)
  have q2 := hw.n
  have HB1 := hidS b1
  have HT := hidS t
  have HCN := hidS hCN
  have hz1 : w.heap.size < W1.heap.size := hx1.lt
  have CE : Hid (Calls Tryd.prog 26 #[.agg #[.slice la N lcap, .slice ca K ccap, .map (some M)], .func (.func 27) #[] #[.pointer (some ⟨w.heap.size, 0, none⟩)]] W1 fun e w' => e = .returned (.tuple #[]) ∧ Seen w' M (fun i => False ∨ ∃ j, j < K ∧ (fun c i => i < N ∧ (E i).parent = (c : Int) ∧ (E i).kind ≠ 2) (C j) i) ∧ Kept (fun b => b = M) W1 w') :=
    each_set 27 #[] #[.pointer (some ⟨w.heap.size, 0, none⟩)] (fun c i => i < N ∧ (E i).parent = (c : Int) ∧ (E i).kind ≠ 2) (fun _ => True) (fun V => BoxAt V w.heap.size la N lcap ca K ccap M) la lb lo N lcap E ca K ccap M cb co C (fun i => False) W1 t hcap hK (hw.below b1) hM hC1 hcM hCN (fun args V => by kernel_rfl) hx1 (fun V V' hV hk => hV.keep hk (by omega)) hS1 trivial (fun _ _ _ _ => trivial) (fun V S' c hc hV hZ hs _ => child_is la lb lo N lcap E ca K ccap M w.heap.size c S' V t hV hM hZ (by omega) hc hs)
  clear hw hC hS t hCN hasc b1 hC1 hS1
  obtain ⟨x0, x1, x2⟩ := hx1.cells
  go_enter Tryd.func16, Tryd.ntmps16
  go_upto_region 1 with fail
  rw [← hW1]
  clear hW1
  go_wp2_with (go_at_call 26; refine CE.out.mono ?_; rintro e w2 ⟨rfl, hs2, hk2⟩; have HS2 := hidS hs2; have HK2 := hidS hk2; clear hs2 hk2)
  first | go_end0 | refine bodyPost_ret (results_none rfl _ _ _) rfl ?_
  exact ⟨rfl, Seen.congr HS2.out (fun i => ⟨fun h => h.elim (fun k => k.elim) (fun ⟨j, j1, k1, k2⟩ => ⟨k1, j, j1, (onA_1 E _ i).2 k2⟩), fun ⟨h, j, j1, k⟩ => .inr ⟨j, j1, h, (onA_1 E _ i).1 k⟩⟩), (Kept.of_below HB1.out).trans HK2.out⟩
set_option maxHeartbeats 1600000 in
theorem along_12 (la : Option Addr) (lb lo N lcap : Nat) (E : Nat → Nd) (ca : Option Addr) (K ccap M : Nat) (cb co : Nat) (C : Nat → Nat) (w : World) (t : Tr E N) (hcap : K ≤ ccap) (hK : ccap ≤ maxLen) (hw : Wk w la lb lo N lcap E) (hM : lb ≠ M) (hC : CxAt w ca cb co K C) (hcM : cb ≠ M) (hCN : ∀ j, j < K → C j < N) (hasc : ∀ j k, j < k → k < K → C j ≤ C k) (hS : Seen w M (fun _ => False)) (hlb : lb < w.heap.size) (hcb : cb < w.heap.size) :
    Calls Tryd.prog 16 #[.agg #[.slice la N lcap, .slice ca K ccap, .map (some M)], .int .i64 12] w fun e w' => e = .returned (.tuple #[]) ∧ Seen w' M (onJ E N K C 12) ∧ Kept (fun b => b = M) w w' := by
  have hlt := hS.lt
  obtain ⟨W1, hW1⟩ : ∃ W, W = (w.alloc (.cells #[.slice la N lcap, .slice ca K ccap, .map (some M)] 39)) := ⟨_, rfl⟩
  have b1 : Below w.heap.size w W1 := by rw [hW1]; exact (Below.refl _ _).alloc (Nat.le_refl _) _
  have hx1 : BoxAt W1 w.heap.size la N lcap ca K ccap M := by rw [hW1]; exact heap_alloc_new _ _
  have hC1 := hC.keep (Kept.of_below (X := fun _ => False) b1) (fun h => h)
  have hS1 : Seen W1 M (fun _ => False) := Seen.keep hS (b1.block M hlt)
  have q2 := hw.n
  have HB1 := hidS b1
  have HT := hidS t
  have HCN := hidS hCN
  have hz1 : w.heap.size < W1.heap.size := hx1.lt
  have CE : Hid (Calls Tryd.prog 26 #[.agg #[.slice la N lcap, .slice ca K ccap, .map (some M)], .func (.func 40) #[] #[.pointer (some ⟨w.heap.size, 0, none⟩)]] W1 fun e w' => e = .returned (.tuple #[]) ∧ Seen w' M (fun i => False ∨ ∃ j, j < K ∧ (fun c i => i < N ∧ (E i).parent = (c : Int) ∧ (E i).kind = 2) (C j) i) ∧ Kept (fun b => b = M) W1 w') :=
    each_set 40 #[] #[.pointer (some ⟨w.heap.size, 0, none⟩)] (fun c i => i < N ∧ (E i).parent = (c : Int) ∧ (E i).kind = 2) (fun _ => True) (fun V => BoxAt V w.heap.size la N lcap ca K ccap M) la lb lo N lcap E ca K ccap M cb co C (fun i => False) W1 t hcap hK (hw.below b1) hM hC1 hcM hCN (fun args V => by kernel_rfl) hx1 (fun V V' hV hk => hV.keep hk (by omega)) hS1 trivial (fun _ _ _ _ => trivial) (fun V S' c hc hV hZ hs _ => attr_is la lb lo N lcap E ca K ccap M w.heap.size c S' V t hV hM hZ (by omega) hc hs)
  clear hw hC hS t hCN hasc b1 hC1 hS1
  obtain ⟨x0, x1, x2⟩ := hx1.cells
  go_enter Tryd.func16, Tryd.ntmps16
  go_upto_region 1 with fail
  rw [← hW1]
  clear hW1
  go_wp2_with (go_at_call 26; refine CE.out.mono ?_; rintro e w2 ⟨rfl, hs2, hk2⟩; have HS2 := hidS hs2; have HK2 := hidS hk2; clear hs2 hk2)
  first | go_end0 | refine bodyPost_ret (results_none rfl _ _ _) rfl ?_
  exact ⟨rfl, Seen.congr HS2.out (fun i => ⟨fun h => h.elim (fun k => k.elim) (fun ⟨j, j1, k1, k2⟩ => ⟨k1, j, j1, (onA_12 E _ i).2 k2⟩), fun ⟨h, j, j1, k⟩ => .inr ⟨j, j1, h, (onA_12 E _ i).1 k⟩⟩), (Kept.of_below HB1.out).trans HK2.out⟩
set_option maxHeartbeats 1600000 in
theorem along_4 (la : Option Addr) (lb lo N lcap : Nat) (E : Nat → Nd) (ca : Option Addr) (K ccap M : Nat) (cb co : Nat) (C : Nat → Nat) (w : World) (t : Tr E N) (hcap : K ≤ ccap) (hK : ccap ≤ maxLen) (hw : Wk w la lb lo N lcap E) (hM : lb ≠ M) (hC : CxAt w ca cb co K C) (hcM : cb ≠ M) (hCN : ∀ j, j < K → C j < N) (hasc : ∀ j k, j < k → k < K → C j ≤ C k) (hS : Seen w M (fun _ => False)) (hlb : lb < w.heap.size) (hcb : cb < w.heap.size) :
    Calls Tryd.prog 16 #[.agg #[.slice la N lcap, .slice ca K ccap, .map (some M)], .int .i64 4] w fun e w' => e = .returned (.tuple #[]) ∧ Seen w' M (onJ E N K C 4) ∧ Kept (fun b => b = M) w w' := by
  have hlt := hS.lt
  obtain ⟨W1, hW1⟩ : ∃ W, W = (w.alloc (.cells #[.slice la N lcap, .slice ca K ccap, .map (some M)] 39)) := ⟨_, rfl⟩
  have b1 : Below w.heap.size w W1 := by rw [hW1]; exact (Below.refl _ _).alloc (Nat.le_refl _) _
  have hx1 : BoxAt W1 w.heap.size la N lcap ca K ccap M := by rw [hW1]; exact heap_alloc_new _ _
  have hC1 := hC.keep (Kept.of_below (X := fun _ => False) b1) (fun h => h)
  have hS1 : Seen W1 M (fun _ => False) := Seen.keep hS (b1.block M hlt)
  have q2 := hw.n
  have HB1 := hidS b1
  have HT := hidS t
  have HCN := hidS hCN
  have hz1 : w.heap.size < W1.heap.size := hx1.lt
  have CE : Hid (Calls Tryd.prog 26 #[.agg #[.slice la N lcap, .slice ca K ccap, .map (some M)], .func (.func 32) #[.agg #[.slice la N lcap, .slice ca K ccap, .map (some M)]] #[]] W1 fun e w' => e = .returned (.tuple #[]) ∧ Seen w' M (fun i => False ∨ ∃ j, j < K ∧ (fun c i => i = c) (C j) i) ∧ Kept (fun b => b = M) W1 w') :=
    each_set 32 #[.agg #[.slice la N lcap, .slice ca K ccap, .map (some M)]] #[] (fun c i => i = c) (fun _ => True) (fun V => BoxAt V w.heap.size la N lcap ca K ccap M) la lb lo N lcap E ca K ccap M cb co C (fun i => False) W1 t hcap hK (hw.below b1) hM hC1 hcM hCN (fun args V => by kernel_rfl) hx1 (fun V V' hV hk => hV.keep hk (by omega)) hS1 trivial (fun _ _ _ _ => trivial) (fun V S' c hc hV hZ hs _ => see_is la lb lo N lcap E ca K ccap M c S' V (by omega) hs)
  clear hw hC hS t hCN hasc b1 hC1 hS1
  obtain ⟨x0, x1, x2⟩ := hx1.cells
  go_enter Tryd.func16, Tryd.ntmps16
  go_upto_region 1 with fail
  rw [← hW1]
  clear hW1
  go_wp2_with (go_at_call 26; refine CE.out.mono ?_; rintro e w2 ⟨rfl, hs2, hk2⟩; have HS2 := hidS hs2; have HK2 := hidS hk2; clear hs2 hk2)
  first | go_end0 | refine bodyPost_ret (results_none rfl _ _ _) rfl ?_
  exact ⟨rfl, Seen.congr HS2.out (fun i => ⟨fun h => h.elim (fun k => k.elim) (fun ⟨j, j1, k1⟩ => ⟨by have := HCN.out j j1; omega, j, j1, (onA_4 E _ i).2 k1⟩), fun ⟨h, j, j1, k⟩ => .inr ⟨j, j1, (onA_4 E _ i).1 k⟩⟩), (Kept.of_below HB1.out).trans HK2.out⟩
set_option maxHeartbeats 1600000 in
theorem along_5 (la : Option Addr) (lb lo N lcap : Nat) (E : Nat → Nd) (ca : Option Addr) (K ccap M : Nat) (cb co : Nat) (C : Nat → Nat) (w : World) (t : Tr E N) (hcap : K ≤ ccap) (hK : ccap ≤ maxLen) (hw : Wk w la lb lo N lcap E) (hM : lb ≠ M) (hC : CxAt w ca cb co K C) (hcM : cb ≠ M) (hCN : ∀ j, j < K → C j < N) (hasc : ∀ j k, j < k → k < K → C j ≤ C k) (hS : Seen w M (fun _ => False)) (hlb : lb < w.heap.size) (hcb : cb < w.heap.size) :
    Calls Tryd.prog 16 #[.agg #[.slice la N lcap, .slice ca K ccap, .map (some M)], .int .i64 5] w fun e w' => e = .returned (.tuple #[]) ∧ Seen w' M (onJ E N K C 5) ∧ Kept (fun b => b = M) w w' := by
  have hlt := hS.lt
  obtain ⟨W1, hW1⟩ : ∃ W, W = (w.alloc (.cells #[.slice la N lcap, .slice ca K ccap, .map (some M)] 39)) := ⟨_, rfl⟩
  have b1 : Below w.heap.size w W1 := by rw [hW1]; exact (Below.refl _ _).alloc (Nat.le_refl _) _
  have hx1 : BoxAt W1 w.heap.size la N lcap ca K ccap M := by rw [hW1]; exact heap_alloc_new _ _
  have hC1 := hC.keep (Kept.of_below (X := fun _ => False) b1) (fun h => h)
  have hS1 : Seen W1 M (fun _ => False) := Seen.keep hS (b1.block M hlt)
  have q2 := hw.n
  have HB1 := hidS b1
  have HT := hidS t
  have HCN := hidS hCN
  have hz1 : w.heap.size < W1.heap.size := hx1.lt
  have CE : Hid (Calls Tryd.prog 26 #[.agg #[.slice la N lcap, .slice ca K ccap, .map (some M)], .func (.func 33) #[.agg #[.slice la N lcap, .slice ca K ccap, .map (some M)]] #[]] W1 fun e w' => e = .returned (.tuple #[]) ∧ Seen w' M (fun i => False ∨ ∃ j, j < K ∧ (fun c i => (E c).parent = (i : Int)) (C j) i) ∧ Kept (fun b => b = M) W1 w') :=
    each_set 33 #[.agg #[.slice la N lcap, .slice ca K ccap, .map (some M)]] #[] (fun c i => (E c).parent = (i : Int)) (fun _ => True) (fun V => BoxAt V w.heap.size la N lcap ca K ccap M) la lb lo N lcap E ca K ccap M cb co C (fun i => False) W1 t hcap hK (hw.below b1) hM hC1 hcM hCN (fun args V => by kernel_rfl) hx1 (fun V V' hV hk => hV.keep hk (by omega)) hS1 trivial (fun _ _ _ _ => trivial) (fun V S' c hc hV hZ hs _ => seeParent_is la lb lo N lcap E ca K ccap M c S' V t hV hc hs)
  clear hw hC hS t hCN hasc b1 hC1 hS1
  obtain ⟨x0, x1, x2⟩ := hx1.cells
  go_enter Tryd.func16, Tryd.ntmps16
  go_upto_region 1 with fail
  rw [← hW1]
  clear hW1
  go_wp2_with (go_at_call 26; refine CE.out.mono ?_; rintro e w2 ⟨rfl, hs2, hk2⟩; have HS2 := hidS hs2; have HK2 := hidS hk2; clear hs2 hk2)
  first | go_end0 | refine bodyPost_ret (results_none rfl _ _ _) rfl ?_
  exact ⟨rfl, Seen.congr HS2.out (fun i => ⟨fun h => h.elim (fun k => k.elim) (fun ⟨j, j1, k1⟩ => ⟨by rcases HT.out.up _ (HCN.out j j1) with u | ⟨p, u1, u2, u3⟩ <;> (have := HCN.out j j1; omega), j, j1, (onA_5 E _ i).2 k1⟩), fun ⟨h, j, j1, k⟩ => .inr ⟨j, j1, (onA_5 E _ i).1 k⟩⟩), (Kept.of_below HB1.out).trans HK2.out⟩
set_option maxHeartbeats 1600000 in
theorem along_6 (la : Option Addr) (lb lo N lcap : Nat) (E : Nat → Nd) (ca : Option Addr) (K ccap M : Nat) (cb co : Nat) (C : Nat → Nat) (w : World) (t : Tr E N) (hcap : K ≤ ccap) (hK : ccap ≤ maxLen) (hw : Wk w la lb lo N lcap E) (hM : lb ≠ M) (hC : CxAt w ca cb co K C) (hcM : cb ≠ M) (hCN : ∀ j, j < K → C j < N) (hasc : ∀ j k, j < k → k < K → C j ≤ C k) (hS : Seen w M (fun _ => False)) (hlb : lb < w.heap.size) (hcb : cb < w.heap.size) :
    Calls Tryd.prog 16 #[.agg #[.slice la N lcap, .slice ca K ccap, .map (some M)], .int .i64 6] w fun e w' => e = .returned (.tuple #[]) ∧ Seen w' M (onJ E N K C 6) ∧ Kept (fun b => b = M) w w' := by
  have hlt := hS.lt
  obtain ⟨W1, hW1⟩ : ∃ W, W = (w.alloc (.cells #[.slice la N lcap, .slice ca K ccap, .map (some M)] 39)) := ⟨_, rfl⟩
  have b1 : Below w.heap.size w W1 := by rw [hW1]; exact (Below.refl _ _).alloc (Nat.le_refl _) _
  have hx1 : BoxAt W1 w.heap.size la N lcap ca K ccap M := by rw [hW1]; exact heap_alloc_new _ _
  have hC1 := hC.keep (Kept.of_below (X := fun _ => False) b1) (fun h => h)
  have hS1 : Seen W1 M (fun _ => False) := Seen.keep hS (b1.block M hlt)
  have q2 := hw.n
  have HB1 := hidS b1
  have HT := hidS t
  have HCN := hidS hCN
  have hz1 : w.heap.size < W1.heap.size := hx1.lt
  have CE : Hid (Calls Tryd.prog 26 #[.agg #[.slice la N lcap, .slice ca K ccap, .map (some M)], .func (.func 34) #[] #[.pointer (some ⟨w.heap.size, 0, none⟩)]] W1 fun e w' => e = .returned (.tuple #[]) ∧ Seen w' M (fun i => False ∨ ∃ j, j < K ∧ (fun c i => An E i c ∧ i ≠ c) (C j) i) ∧ Kept (fun b => b = M) W1 w') :=
    each_set 34 #[] #[.pointer (some ⟨w.heap.size, 0, none⟩)] (fun c i => An E i c ∧ i ≠ c) (fun S' => ∀ i a, S' i → An E a i → S' a) (fun V => BoxAt V w.heap.size la N lcap ca K ccap M) la lb lo N lcap E ca K ccap M cb co C (fun i => False) W1 t hcap hK (hw.below b1) hM hC1 hcM hCN (fun args V => by kernel_rfl) hx1 (fun V V' hV hk => hV.keep hk (by omega)) hS1 (fun i a h => h.elim) (fun S' c hc h i a hi ha => hi.elim (fun k => .inl (h i a k ha)) (fun k => .inr ⟨An.trans t (by have := ha.1; have := k.1.1; omega) ha k.1, by have := ha.1; have := k.1.1; omega⟩)) (fun V S' c hc hV hZ hs hp => ancestor_is la lb lo N lcap E ca K ccap M w.heap.size c S' V t hV hM hZ (by omega) hc hs hp)
  clear hw hC hS t hCN hasc b1 hC1 hS1
  obtain ⟨x0, x1, x2⟩ := hx1.cells
  go_enter Tryd.func16, Tryd.ntmps16
  go_upto_region 1 with fail
  rw [← hW1]
  clear hW1
  go_wp2_with (go_at_call 26; refine CE.out.mono ?_; rintro e w2 ⟨rfl, hs2, hk2⟩; have HS2 := hidS hs2; have HK2 := hidS hk2; clear hs2 hk2)
  first | go_end0 | refine bodyPost_ret (results_none rfl _ _ _) rfl ?_
  exact ⟨rfl, Seen.congr HS2.out (fun i => ⟨fun h => h.elim (fun k => k.elim) (fun ⟨j, j1, k1, k2⟩ => ⟨by have := HCN.out j j1; have := k1.1; omega, j, j1, (onA_6 E _ i).2 ⟨by have := k1.1; omega, k1.2⟩⟩), fun ⟨h, j, j1, k⟩ => .inr ⟨j, j1, ⟨by have := ((onA_6 E _ i).1 k).1; omega, ((onA_6 E _ i).1 k).2⟩, by have := ((onA_6 E _ i).1 k).1; omega⟩⟩), (Kept.of_below HB1.out).trans HK2.out⟩
set_option maxHeartbeats 1600000 in
theorem along_7 (la : Option Addr) (lb lo N lcap : Nat) (E : Nat → Nd) (ca : Option Addr) (K ccap M : Nat) (cb co : Nat) (C : Nat → Nat) (w : World) (t : Tr E N) (hcap : K ≤ ccap) (hK : ccap ≤ maxLen) (hw : Wk w la lb lo N lcap E) (hM : lb ≠ M) (hC : CxAt w ca cb co K C) (hcM : cb ≠ M) (hCN : ∀ j, j < K → C j < N) (hasc : ∀ j k, j < k → k < K → C j ≤ C k) (hS : Seen w M (fun _ => False)) (hlb : lb < w.heap.size) (hcb : cb < w.heap.size) :
    Calls Tryd.prog 16 #[.agg #[.slice la N lcap, .slice ca K ccap, .map (some M)], .int .i64 7] w fun e w' => e = .returned (.tuple #[]) ∧ Seen w' M (onJ E N K C 7) ∧ Kept (fun b => b = M) w w' := by
  have hlt := hS.lt
  obtain ⟨W1, hW1⟩ : ∃ W, W = (w.alloc (.cells #[.slice la N lcap, .slice ca K ccap, .map (some M)] 39)) := ⟨_, rfl⟩
  have b1 : Below w.heap.size w W1 := by rw [hW1]; exact (Below.refl _ _).alloc (Nat.le_refl _) _
  have hx1 : BoxAt W1 w.heap.size la N lcap ca K ccap M := by rw [hW1]; exact heap_alloc_new _ _
  have hC1 := hC.keep (Kept.of_below (X := fun _ => False) b1) (fun h => h)
  have hS1 : Seen W1 M (fun _ => False) := Seen.keep hS (b1.block M hlt)
  have q2 := hw.n
  have HB1 := hidS b1
  have HT := hidS t
  have HCN := hidS hCN
  have hz1 : w.heap.size < W1.heap.size := hx1.lt
  have CE : Hid (Calls Tryd.prog 26 #[.agg #[.slice la N lcap, .slice ca K ccap, .map (some M)], .func (.func 35) #[.agg #[.slice la N lcap, .slice ca K ccap, .map (some M)]] #[]] W1 fun e w' => e = .returned (.tuple #[]) ∧ Seen w' M (fun i => False ∨ ∃ j, j < K ∧ (fun c i => An E i c) (C j) i) ∧ Kept (fun b => b = M) W1 w') :=
    each_set 35 #[.agg #[.slice la N lcap, .slice ca K ccap, .map (some M)]] #[] (fun c i => An E i c) (fun S' => ∀ i a, S' i → An E a i → S' a) (fun V => BoxAt V w.heap.size la N lcap ca K ccap M) la lb lo N lcap E ca K ccap M cb co C (fun i => False) W1 t hcap hK (hw.below b1) hM hC1 hcM hCN (fun args V => by kernel_rfl) hx1 (fun V V' hV hk => hV.keep hk (by omega)) hS1 (fun i a h => h.elim) (fun S' c hc h i a hi ha => hi.elim (fun k => .inl (h i a k ha)) (fun k => .inr (An.trans t (by have := ha.1; have := k.1; omega) ha k))) (fun V S' c hc hV hZ hs hp => climb_some la lb lo N lcap E ca K ccap M c S' V t hV hc hs hM hp)
  clear hw hC hS t hCN hasc b1 hC1 hS1
  obtain ⟨x0, x1, x2⟩ := hx1.cells
  go_enter Tryd.func16, Tryd.ntmps16
  go_upto_region 1 with fail
  rw [← hW1]
  clear hW1
  go_wp2_with (go_at_call 26; refine CE.out.mono ?_; rintro e w2 ⟨rfl, hs2, hk2⟩; have HS2 := hidS hs2; have HK2 := hidS hk2; clear hs2 hk2)
  first | go_end0 | refine bodyPost_ret (results_none rfl _ _ _) rfl ?_
  exact ⟨rfl, Seen.congr HS2.out (fun i => ⟨fun h => h.elim (fun k => k.elim) (fun ⟨j, j1, k1⟩ => ⟨by have := HCN.out j j1; have := k1.1; omega, j, j1, (onA_7 E _ i).2 (by have := k1.1; have := k1.2; omega)⟩), fun ⟨h, j, j1, k⟩ => .inr ⟨j, j1, ⟨by have := (onA_7 E _ i).1 k; omega, by have := (onA_7 E _ i).1 k; omega⟩⟩⟩), (Kept.of_below HB1.out).trans HK2.out⟩
set_option maxHeartbeats 1600000 in
theorem along_8 (la : Option Addr) (lb lo N lcap : Nat) (E : Nat → Nd) (ca : Option Addr) (K ccap M : Nat) (cb co : Nat) (C : Nat → Nat) (w : World) (t : Tr E N) (hcap : K ≤ ccap) (hK : ccap ≤ maxLen) (hw : Wk w la lb lo N lcap E) (hM : lb ≠ M) (hC : CxAt w ca cb co K C) (hcM : cb ≠ M) (hCN : ∀ j, j < K → C j < N) (hasc : ∀ j k, j < k → k < K → C j ≤ C k) (hS : Seen w M (fun _ => False)) (hlb : lb < w.heap.size) (hcb : cb < w.heap.size) :
    Calls Tryd.prog 16 #[.agg #[.slice la N lcap, .slice ca K ccap, .map (some M)], .int .i64 8] w fun e w' => e = .returned (.tuple #[]) ∧ Seen w' M (onJ E N K C 8) ∧ Kept (fun b => b = M) w w' := by
  have hlt := hS.lt
  obtain ⟨W1, hW1⟩ : ∃ W, W = (w.alloc (.cells #[.slice la N lcap, .slice ca K ccap, .map (some M)] 39)) := ⟨_, rfl⟩
  have b1 : Below w.heap.size w W1 := by rw [hW1]; exact (Below.refl _ _).alloc (Nat.le_refl _) _
  have hx1 : BoxAt W1 w.heap.size la N lcap ca K ccap M := by rw [hW1]; exact heap_alloc_new _ _
  have hC1 := hC.keep (Kept.of_below (X := fun _ => False) b1) (fun h => h)
  have hS1 : Seen W1 M (fun _ => False) := Seen.keep hS (b1.block M hlt)
  have q2 := hw.n
  have HB1 := hidS b1
  have HT := hidS t
  have HCN := hidS hCN
  have hz1 : w.heap.size < W1.heap.size := hx1.lt
  have CE : Hid (Calls Tryd.prog 36 #[.agg #[.slice la N lcap, .slice ca K ccap, .map (some M)]] W1 fun e w' => e = .returned (.tuple #[]) ∧ Seen w' M (fun i => False ∨ ∃ g c : Nat, bst (fun a b => decide (((a + zN E a : Nat) : Int) < ((b + zN E b : Nat) : Int))) (fun c => (rtN E c : Int)) C K (g : Int) = some c ∧ (c + zN E c < i ∧ i ≤ g + zN E g) ∧ (E i).kind ≠ 2) ∧ Kept (fun b => b = M) W1 w') :=
    following_is la lb lo N lcap E ca K ccap M cb co C (fun _ => False) W1 t hcap hK (hw.below b1) hM hC1 hcM hCN hasc hS1 (by omega) (by omega)
  clear hw hC hS t hCN hasc b1 hC1 hS1
  obtain ⟨x0, x1, x2⟩ := hx1.cells
  go_enter Tryd.func16, Tryd.ntmps16
  go_upto_region 1 with fail
  rw [← hW1]
  clear hW1
  go_wp2_with (go_at_call 36; refine CE.out.mono ?_; rintro e w2 ⟨rfl, hs2, hk2⟩; have HS2 := hidS hs2; have HK2 := hidS hk2; clear hs2 hk2)
  first | go_end0 | refine bodyPost_ret (results_none rfl _ _ _) rfl ?_
  exact ⟨rfl, Seen.congr HS2.out (fun i => ⟨fun h => h.elim (fun k => k.elim) (fun k => (ax_8 HT.out HCN.out i).1 k), fun h => .inr ((ax_8 HT.out HCN.out i).2 h)⟩), (Kept.of_below HB1.out).trans HK2.out⟩
set_option maxHeartbeats 1600000 in
theorem along_9 (la : Option Addr) (lb lo N lcap : Nat) (E : Nat → Nd) (ca : Option Addr) (K ccap M : Nat) (cb co : Nat) (C : Nat → Nat) (w : World) (t : Tr E N) (hcap : K ≤ ccap) (hK : ccap ≤ maxLen) (hw : Wk w la lb lo N lcap E) (hM : lb ≠ M) (hC : CxAt w ca cb co K C) (hcM : cb ≠ M) (hCN : ∀ j, j < K → C j < N) (hasc : ∀ j k, j < k → k < K → C j ≤ C k) (hS : Seen w M (fun _ => False)) (hlb : lb < w.heap.size) (hcb : cb < w.heap.size) :
    Calls Tryd.prog 16 #[.agg #[.slice la N lcap, .slice ca K ccap, .map (some M)], .int .i64 9] w fun e w' => e = .returned (.tuple #[]) ∧ Seen w' M (onJ E N K C 9) ∧ Kept (fun b => b = M) w w' := by
  have hlt := hS.lt
  obtain ⟨W1, hW1⟩ : ∃ W, W = (w.alloc (.cells #[.slice la N lcap, .slice ca K ccap, .map (some M)] 39)) := ⟨_, rfl⟩
  have b1 : Below w.heap.size w W1 := by rw [hW1]; exact (Below.refl _ _).alloc (Nat.le_refl _) _
  have hx1 : BoxAt W1 w.heap.size la N lcap ca K ccap M := by rw [hW1]; exact heap_alloc_new _ _
  have hC1 := hC.keep (Kept.of_below (X := fun _ => False) b1) (fun h => h)
  have hS1 : Seen W1 M (fun _ => False) := Seen.keep hS (b1.block M hlt)
  have q2 := hw.n
  have HB1 := hidS b1
  have HT := hidS t
  have HCN := hidS hCN
  have hz1 : w.heap.size < W1.heap.size := hx1.lt
  have CE : Hid (Calls Tryd.prog 37 #[.agg #[.slice la N lcap, .slice ca K ccap, .map (some M)]] W1 fun e w' => e = .returned (.tuple #[]) ∧ Seen w' M (fun i => False ∨ ∃ g c : Nat, bst (fun a b => decide ((b : Int) < (a : Int))) (fun c => (rtN E c : Int)) C K (g : Int) = some c ∧ ((g ≤ i ∧ i < c) ∧ i + zN E i < c) ∧ (E i).kind ≠ 2) ∧ Kept (fun b => b = M) W1 w') :=
    preceding_is la lb lo N lcap E ca K ccap M cb co C (fun _ => False) W1 t hcap hK (hw.below b1) hM hC1 hcM hCN hasc hS1 (by omega) (by omega)
  clear hw hC hS t hCN hasc b1 hC1 hS1
  obtain ⟨x0, x1, x2⟩ := hx1.cells
  go_enter Tryd.func16, Tryd.ntmps16
  go_upto_region 1 with fail
  rw [← hW1]
  clear hW1
  go_wp2_with (go_at_call 37; refine CE.out.mono ?_; rintro e w2 ⟨rfl, hs2, hk2⟩; have HS2 := hidS hs2; have HK2 := hidS hk2; clear hs2 hk2)
  first | go_end0 | refine bodyPost_ret (results_none rfl _ _ _) rfl ?_
  exact ⟨rfl, Seen.congr HS2.out (fun i => ⟨fun h => h.elim (fun k => k.elim) (fun k => (ax_9 HT.out HCN.out i).1 k), fun h => .inr ((ax_9 HT.out HCN.out i).2 h)⟩), (Kept.of_below HB1.out).trans HK2.out⟩
set_option maxHeartbeats 1600000 in
theorem along_10 (la : Option Addr) (lb lo N lcap : Nat) (E : Nat → Nd) (ca : Option Addr) (K ccap M : Nat) (cb co : Nat) (C : Nat → Nat) (w : World) (t : Tr E N) (hcap : K ≤ ccap) (hK : ccap ≤ maxLen) (hw : Wk w la lb lo N lcap E) (hM : lb ≠ M) (hC : CxAt w ca cb co K C) (hcM : cb ≠ M) (hCN : ∀ j, j < K → C j < N) (hasc : ∀ j k, j < k → k < K → C j ≤ C k) (hS : Seen w M (fun _ => False)) (hlb : lb < w.heap.size) (hcb : cb < w.heap.size) :
    Calls Tryd.prog 16 #[.agg #[.slice la N lcap, .slice ca K ccap, .map (some M)], .int .i64 10] w fun e w' => e = .returned (.tuple #[]) ∧ Seen w' M (onJ E N K C 10) ∧ Kept (fun b => b = M) w w' := by
  have hlt := hS.lt
  obtain ⟨W1, hW1⟩ : ∃ W, W = (w.alloc (.cells #[.slice la N lcap, .slice ca K ccap, .map (some M)] 39)) := ⟨_, rfl⟩
  have b1 : Below w.heap.size w W1 := by rw [hW1]; exact (Below.refl _ _).alloc (Nat.le_refl _) _
  have hx1 : BoxAt W1 w.heap.size la N lcap ca K ccap M := by rw [hW1]; exact heap_alloc_new _ _
  have hC1 := hC.keep (Kept.of_below (X := fun _ => False) b1) (fun h => h)
  have hS1 : Seen W1 M (fun _ => False) := Seen.keep hS (b1.block M hlt)
  have q2 := hw.n
  have HB1 := hidS b1
  have HT := hidS t
  have HCN := hidS hCN
  have hz1 : w.heap.size < W1.heap.size := hx1.lt
  have CE : Hid (Calls Tryd.prog 38 #[.agg #[.slice la N lcap, .slice ca K ccap, .map (some M)]] W1 fun e w' => e = .returned (.tuple #[]) ∧ Seen w' M (fun i => False ∨ ∃ g c : Nat, bst (fun a b => decide ((a : Int) < (b : Int))) (fun c => rowP (E c)) C K (g : Int) = some c ∧ (c + zN E c + 1 ≤ i ∧ i ≤ g + zN E g) ∧ (E i).parent = (g : Int) ∧ (E i).kind ≠ 2) ∧ Kept (fun b => b = M) W1 w') :=
    followingSiblings_is la lb lo N lcap E ca K ccap M cb co C (fun _ => False) W1 t hcap hK (hw.below b1) hM hC1 hcM hCN hS1 (by omega) (by omega)
  clear hw hC hS t hCN hasc b1 hC1 hS1
  obtain ⟨x0, x1, x2⟩ := hx1.cells
  go_enter Tryd.func16, Tryd.ntmps16
  go_upto_region 1 with fail
  rw [← hW1]
  clear hW1
  go_wp2_with (go_at_call 38; refine CE.out.mono ?_; rintro e w2 ⟨rfl, hs2, hk2⟩; have HS2 := hidS hs2; have HK2 := hidS hk2; clear hs2 hk2)
  first | go_end0 | refine bodyPost_ret (results_none rfl _ _ _) rfl ?_
  exact ⟨rfl, Seen.congr HS2.out (fun i => ⟨fun h => h.elim (fun k => k.elim) (fun k => (ax_10 HT.out HCN.out i).1 k), fun h => .inr ((ax_10 HT.out HCN.out i).2 h)⟩), (Kept.of_below HB1.out).trans HK2.out⟩
set_option maxHeartbeats 1600000 in
theorem along_11 (la : Option Addr) (lb lo N lcap : Nat) (E : Nat → Nd) (ca : Option Addr) (K ccap M : Nat) (cb co : Nat) (C : Nat → Nat) (w : World) (t : Tr E N) (hcap : K ≤ ccap) (hK : ccap ≤ maxLen) (hw : Wk w la lb lo N lcap E) (hM : lb ≠ M) (hC : CxAt w ca cb co K C) (hcM : cb ≠ M) (hCN : ∀ j, j < K → C j < N) (hasc : ∀ j k, j < k → k < K → C j ≤ C k) (hS : Seen w M (fun _ => False)) (hlb : lb < w.heap.size) (hcb : cb < w.heap.size) :
    Calls Tryd.prog 16 #[.agg #[.slice la N lcap, .slice ca K ccap, .map (some M)], .int .i64 11] w fun e w' => e = .returned (.tuple #[]) ∧ Seen w' M (onJ E N K C 11) ∧ Kept (fun b => b = M) w w' := by
  have hlt := hS.lt
  obtain ⟨W1, hW1⟩ : ∃ W, W = (w.alloc (.cells #[.slice la N lcap, .slice ca K ccap, .map (some M)] 39)) := ⟨_, rfl⟩
  have b1 : Below w.heap.size w W1 := by rw [hW1]; exact (Below.refl _ _).alloc (Nat.le_refl _) _
  have hx1 : BoxAt W1 w.heap.size la N lcap ca K ccap M := by rw [hW1]; exact heap_alloc_new _ _
  have hC1 := hC.keep (Kept.of_below (X := fun _ => False) b1) (fun h => h)
  have hS1 : Seen W1 M (fun _ => False) := Seen.keep hS (b1.block M hlt)
  have q2 := hw.n
  have HB1 := hidS b1
  have HT := hidS t
  have HCN := hidS hCN
  have hz1 : w.heap.size < W1.heap.size := hx1.lt
  have CE : Hid (Calls Tryd.prog 39 #[.agg #[.slice la N lcap, .slice ca K ccap, .map (some M)]] W1 fun e w' => e = .returned (.tuple #[]) ∧ Seen w' M (fun i => False ∨ ∃ g c : Nat, bst (fun a b => decide ((b : Int) < (a : Int))) (fun c => rowP (E c)) C K (g : Int) = some c ∧ (g + 1 ≤ i ∧ i ≤ c - 1) ∧ (E i).parent = (g : Int) ∧ (E i).kind ≠ 2) ∧ Kept (fun b => b = M) W1 w') :=
    precedingSiblings_is la lb lo N lcap E ca K ccap M cb co C (fun _ => False) W1 t hcap hK (hw.below b1) hM hC1 hcM hCN hS1 (by omega) (by omega)
  clear hw hC hS t hCN hasc b1 hC1 hS1
  obtain ⟨x0, x1, x2⟩ := hx1.cells
  go_enter Tryd.func16, Tryd.ntmps16
  go_upto_region 1 with fail
  rw [← hW1]
  clear hW1
  go_wp2_with (go_at_call 39; refine CE.out.mono ?_; rintro e w2 ⟨rfl, hs2, hk2⟩; have HS2 := hidS hs2; have HK2 := hidS hk2; clear hs2 hk2)
  first | go_end0 | refine bodyPost_ret (results_none rfl _ _ _) rfl ?_
  exact ⟨rfl, Seen.congr HS2.out (fun i => ⟨fun h => h.elim (fun k => k.elim) (fun k => (ax_11 HT.out HCN.out i).1 k), fun h => .inr ((ax_11 HT.out HCN.out i).2 h)⟩), (Kept.of_below HB1.out).trans HK2.out⟩
end Go.Proofs.YtnfljohddpadhaaDoor
