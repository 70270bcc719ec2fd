/-
  The law's 'awake': the document's examples.
-/
import Derived.Test.YtdfmapcnfficlaaGreatDoorApart
import Derived.Test.YtdfmapcnfficlaaGreatDoorHeld
set_option linter.unusedSimpArgs false
set_option linter.unusedVariables false
namespace Go.Proofs.YtdfmapcnfficlaaGreatDoor
open Go Go.RowKit

def ex1 : List Tok := [{ kind := 1, name := [112], attrs := [[99, 108, 97, 115, 115], [97], [98], [99]] }, { kind := 5, name := [115, 101, 109, 105, 99, 111, 108, 111, 110], place := 22 }, { kind := 0, text := [120, 32, 60, 32, 121] }, { kind := 2, name := [112] }, { kind := 6 }]
def ex2 : List Tok := [{ kind := 1, name := [116, 105, 116, 108, 101] }, { kind := 0, text := [60, 98, 62, 38] }, { kind := 2, name := [116, 105, 116, 108, 101] }, { kind := 6 }]
def ex3 : List Tok := [{ kind := 4, name := [104, 116, 109, 108] }, { kind := 3, text := [97, 45, 45, 98] }, { kind := 6 }]
def ex4 : List Tok := [{ kind := 5, name := [97, 98, 114, 117, 112, 116], place := 4 }, { kind := 3 }, { kind := 6 }]
def ex5 : List Tok := [{ kind := 5, name := [101, 110, 100, 45, 105, 110, 45, 116, 97, 103], place := 2 }, { kind := 0, text := [97, 60] }, { kind := 6 }]
def in1 : Str := [60, 80, 32, 67, 108, 97, 115, 115, 61, 97, 32, 98, 61, 39, 99, 39, 62, 120, 32, 38, 108, 116, 32, 121, 60, 47, 112, 62]
def in2 : Str := [60, 116, 105, 116, 108, 101, 62, 60, 98, 62, 38, 97, 109, 112, 59, 60, 47, 84, 73, 84, 76, 69, 32, 62]
def in3 : Str := [60, 33, 100, 111, 99, 116, 121, 112, 101, 32, 72, 84, 77, 76, 62, 60, 33, 45, 45, 97, 45, 45, 98, 45, 45, 62]
def in4 : Str := [60, 33, 45, 45, 62]
def in5 : Str := [97, 60]

theorem toks4 : toks in4 = ex4 := by kernel_rfl
theorem toks3 : toks in3 = ex3 := by kernel_rfl
theorem toks2 : toks in2 = ex2 := by kernel_rfl
theorem toks1 : toks in1 = ex1 := by kernel_rfl
theorem toks5 : (closeT (take (put { limit := 10 } in5))).told = ex5 := by kernel_rfl
theorem toks5a : (put { limit := 10 } in5).told = [] := by kernel_rfl
theorem toks5b : (put { limit := 10 } in5).text = [97] := by kernel_rfl
theorem toks5c : runeCount [97] = 1 := by kernel_rfl
end Go.Proofs.YtdfmapcnfficlaaGreatDoor
