import Derived.Test.YtmcmbdkpfcibkaaGreatDoorQoTok
import Derived.Test.YtmcmbdkpfcibkaaGreatDoorRlItemC
set_option linter.unusedVariables false
namespace Go.Proofs.YtmcmbdkpfcibkaaGreatDoor
set_option maxRecDepth 100000
open Go.RowKit
theorem k_no_filter {s:ByteArray} {Ks:List Tok} {u:ByteArray} {Ku:List Tok} (ms:MdK s.data.toList Ks) (mu:MdK u.data.toList Ku):MdK (⟨#[40]⟩ ++ s ++ ⟨#[41,91]⟩ ++ u ++ ⟨#[93]⟩:ByteArray).data.toList ((([⟨5,⟨#[40]⟩,0⟩] ++ (Ks ++ [⟨5,⟨#[41]⟩,0⟩,⟨5,⟨#[91]⟩,0⟩])) ++ (Ku ++ [⟨5,⟨#[93]⟩,0⟩]))):=by
 have hm:MdK ((([40] ++ (s.data.toList ++ [41,91])) ++ (u.data.toList ++ [93]))) ((([⟨5,⟨#[40]⟩,0⟩] ++ (Ks ++ [⟨5,⟨#[41]⟩,0⟩,⟨5,⟨#[91]⟩,0⟩])) ++ (Ku ++ [⟨5,⟨#[93]⟩,0⟩]))):=((pk10.app (ms.app bg55 pk55)).app (mu.app bg56 pk56)).mid
 rw [data_appQ,data_appQ,data_appQ,data_appQ]
 simpa using hm
theorem k_no_op0 {s:ByteArray} {Ks:List Tok} (ms:MdK s.data.toList Ks):MdK (⟨#[40]⟩ ++ s ++ ⟨#[32,117,110,105,111,110,32]⟩ ++ ⟨#[47,47,42,41]⟩:ByteArray).data.toList (([⟨5,⟨#[40]⟩,0⟩] ++ (Ks ++ [⟨1,⟨#[117,110,105,111,110]⟩,0⟩,⟨5,⟨#[47,47]⟩,0⟩,⟨5,⟨#[42]⟩,0⟩,⟨5,⟨#[41]⟩,0⟩]))):=by
 have hm:MdK (([40] ++ (s.data.toList ++ [32,117,110,105,111,110,32,47,47,42,41]))) (([⟨5,⟨#[40]⟩,0⟩] ++ (Ks ++ [⟨1,⟨#[117,110,105,111,110]⟩,0⟩,⟨5,⟨#[47,47]⟩,0⟩,⟨5,⟨#[42]⟩,0⟩,⟨5,⟨#[41]⟩,0⟩]))):=(pk10.app (ms.app bg57 pk57)).mid
 rw [data_appQ,data_appQ,data_appQ]
 simpa using hm
theorem k_no_op1 {s:ByteArray} {Ks:List Tok} (ms:MdK s.data.toList Ks):MdK (⟨#[40]⟩ ++ s ++ ⟨#[32,105,110,116,101,114,115,101,99,116,32]⟩ ++ ⟨#[47,47,42,41]⟩:ByteArray).data.toList (([⟨5,⟨#[40]⟩,0⟩] ++ (Ks ++ [⟨1,⟨#[105,110,116,101,114,115,101,99,116]⟩,0⟩,⟨5,⟨#[47,47]⟩,0⟩,⟨5,⟨#[42]⟩,0⟩,⟨5,⟨#[41]⟩,0⟩]))):=by
 have hm:MdK (([40] ++ (s.data.toList ++ [32,105,110,116,101,114,115,101,99,116,32,47,47,42,41]))) (([⟨5,⟨#[40]⟩,0⟩] ++ (Ks ++ [⟨1,⟨#[105,110,116,101,114,115,101,99,116]⟩,0⟩,⟨5,⟨#[47,47]⟩,0⟩,⟨5,⟨#[42]⟩,0⟩,⟨5,⟨#[41]⟩,0⟩]))):=(pk10.app (ms.app bg58 pk58)).mid
 rw [data_appQ,data_appQ,data_appQ]
 simpa using hm
theorem k_no_op2 {s:ByteArray} {Ks:List Tok} (ms:MdK s.data.toList Ks):MdK (⟨#[40]⟩ ++ s ++ ⟨#[32,101,120,99,101,112,116,32]⟩ ++ ⟨#[47,47,42,41]⟩:ByteArray).data.toList (([⟨5,⟨#[40]⟩,0⟩] ++ (Ks ++ [⟨1,⟨#[101,120,99,101,112,116]⟩,0⟩,⟨5,⟨#[47,47]⟩,0⟩,⟨5,⟨#[42]⟩,0⟩,⟨5,⟨#[41]⟩,0⟩]))):=by
 have hm:MdK (([40] ++ (s.data.toList ++ [32,101,120,99,101,112,116,32,47,47,42,41]))) (([⟨5,⟨#[40]⟩,0⟩] ++ (Ks ++ [⟨1,⟨#[101,120,99,101,112,116]⟩,0⟩,⟨5,⟨#[47,47]⟩,0⟩,⟨5,⟨#[42]⟩,0⟩,⟨5,⟨#[41]⟩,0⟩]))):=(pk10.app (ms.app bg59 pk59)).mid
 rw [data_appQ,data_appQ,data_appQ]
 simpa using hm
end Go.Proofs.YtmcmbdkpfcibkaaGreatDoor
