import Derived.Test.YtmgpmdfmkdhfgaaGreatDoorBaseQ
import Derived.Test.YtmgpmdfmkdhfgaaGreatDoorTreeY
namespace Go.Proofs.YtmgpmdfmkdhfgaaGreatDoor
set_option linter.unusedVariables false
set_option linter.unusedSimpArgs false
set_option maxRecDepth 100000
def live19:List UInt8:=[60,102,111,110,116,62,60,98,32,111,110,99,108,105,99,107,61,120,62,121,60,47,98,62,60,47,102,111,110,116,62,60,115,99,114,105,112,116,62,122,60,47,115,99,114,105,112,116,62,97,60,105,62,60,47,105,62,60,97,32,104,114,101,102,61,39,104,116,116,112,58,47,47,104,39,62,60,97,62,98,60,105,109,103,32,115,114,99,61,104,116,116,112,58,47,47,112,32,97,108,116,61,113,62,60,105,109,103,32,119,105,100,116,104,61,49,32,115,114,99,61,104,116,116,112,58,47,47,112,62]
def t19:Tr:=.cons ⟨[98],[],[]⟩ (.cons ⟨[],[],[121]⟩ .nil .nil) (.cons ⟨[],[],[97]⟩ .nil (.cons ⟨[105],[],[]⟩ .nil (.cons ⟨[97],[([104,114,101,102],[104,116,116,112,58,47,47,104]),([114,101,108],[110,111,111,112,101,110,101,114,32,110,111,114,101,102,101,114,114,101,114])],[]⟩ .nil (.cons ⟨[97],[],[]⟩ (.cons ⟨[],[],[98,91,113,93]⟩ .nil .nil) .nil))))
theorem w19:washT voidW false false [] (buildP (scanL decE [] [] live19)) = t19:=by decide +kernel
theorem k19:blkT false (buildP (scanL decE [] [] live19)) = 1:=by decide +kernel
theorem o19:(buildP (scanL decE [] [] live19)).all okW = true:=by decide +kernel
theorem n19:(buildP (scanL decE [] [] live19)).count <= 100000:=by decide +kernel
end Go.Proofs.YtmgpmdfmkdhfgaaGreatDoor
