/-
  Parts of a proof, joined.
-/
import Derived.Test.YthghjlinhokimaaGreatDoorZcA
import Derived.Lib.Fields
import Derived.Lib.ParseIntB
set_option linter.all false
set_option maxRecDepth 100000
namespace Go.Proofs.YthghjlinhokimaaGreatDoor.K
def rows:List (List UInt8 × List UInt8 × List UInt8 × Int):=[
 ([110,111,112],[],[49],1),
 ([109,111,118],[100,115],[49],1),
 ([108,100,105],[100,119],[50],2),
 ([108,100],[100,115,110],[51],3),
 ([115,116],[100,115,110],[51],3),
 ([108,100,98],[100,115,110],[50],2),
 ([115,116,98],[100,115,110],[50],2),
 ([97,100,100],[100,115],[49],1),
 ([115,117,98],[100,115],[49],1),
 ([97,110,100],[100,115],[49],1),
 ([111,114],[100,115],[49],1),
 ([120,111,114],[100,115],[49],1),
 ([115,104,108],[100,110],[49],1),
 ([115,104,114],[100,110],[49],1),
 ([99,109,112],[100,115],[49],1),
 ([97,100,100,105],[100,110],[49],1),
 ([106,109,112],[119],[50],2),
 ([106,122],[119],[50],2),
 ([106,110],[119],[50],2),
 ([106,99],[119],[50],2),
 ([99,97,108,108],[119],[52],4),
 ([114,101,116],[],[52],4),
 ([112,117,115,104],[115],[51],3),
 ([112,111,112],[100],[51],3),
 ([101,105],[],[49],1),
 ([100,105],[],[49],1),
 ([114,116,105],[],[53],5),
 ([104,108,116],[],[49],1),
 ([109,117,108],[100,115],[54],6),
 ([106,110,122],[119],[50],2),
 ([45],[],[48],0),
 ([116,114,97,112],[],[53],5)]
def row(k:Nat):List UInt8 × List UInt8 × List UInt8 × Int:=rows.getD k ([],[],[],0)
def name(k:Nat):ByteArray:=⟨(row k).1.toArray⟩
def has(k:Nat):ByteArray:=⟨(row k).2.1.toArray⟩
def num(k:Nat):ByteArray:=⟨(row k).2.2.1.toArray⟩
def cyc(k:Nat):Int:=(row k).2.2.2
def text(k:Nat):ByteArray:=⟨((row k).1++58::((row k).2.1++58::(row k).2.2.1)).toArray⟩
def table:ByteArray:=⟨#[110,111,112,58,58,49,32,109,111,118,58,100,115,58,49,32,108,100,105,58,100,119,58,50,32,108,100,58,100,115,110,58,51,32,115,116,58,100,115,110,58,51,32,108,100,98,58,100,115,110,58,50,32,115,116,98,58,100,115,110,58,50,32,97,100,100,58,100,115,58,49,32,115,117,98,58,100,115,58,49,32,97,110,100,58,100,115,58,49,32,111,114,58,100,115,58,49,32,120,111,114,58,100,115,58,49,32,115,104,108,58,100,110,58,49,32,115,104,114,58,100,110,58,49,32,99,109,112,58,100,115,58,49,32,97,100,100,105,58,100,110,58,49,32,106,109,112,58,119,58,50,32,106,122,58,119,58,50,32,106,110,58,119,58,50,32,106,99,58,119,58,50,32,99,97,108,108,58,119,58,52,32,114,101,116,58,58,52,32,112,117,115,104,58,115,58,51,32,112,111,112,58,100,58,51,32,101,105,58,58,49,32,100,105,58,58,49,32,114,116,105,58,58,53,32,104,108,116,58,58,49,32,109,117,108,58,100,115,58,54,32,106,110,122,58,119,58,50,32,45,58,58,48,32,116,114,97,112,58,58,53]⟩
def colon:ByteArray:=⟨#[58]⟩
def cells:Nat->List Value
 | 0=>[]
 | k+1=>cells k++[.string (name k),.string (has k),.int .i64 (cyc k)]
theorem cells_length(k:Nat):(cells k).length=k*3:=by
 induction k with
 | zero=>rfl
 | succ k a=>simp[cells,a];omega
theorem cells_at(n k:Nat)(c:k<n):(cells n)[k*3]?=some (.string (name k))/\(cells n)[k*3+1]?=some (.string (has k))/\(cells n)[k*3+2]?=some (.int .i64 (cyc k)):=by
 induction n with
 | zero=>omega
 | succ n a =>
  have b:=cells_length n;simp only[cells];by_cases h:k<n
  ·obtain⟨h1,h2,h3⟩:=a h
   rw[aR (by omega),aR (by omega),aR (by omega)];exact⟨h1,h2,h3⟩
  ·have e:k=n:=by omega
   subst e;rw[aO (by omega),aO (by omega),aO (by omega),b];refine⟨?_,?_,?_⟩
   ·rw[Nat.sub_self];rfl
   ·rw[show k*3+1-k*3=1 from by omega];rfl
   ·rw[show k*3+2-k*3=2 from by omega];rfl
theorem fields_table:Lib.fields table.data.toList=(List.range 32).map (λk=>(text k).data.toList):=by decide +kernel
theorem ascii_table:∀(j:Nat) (b:UInt8),table.data.toList[j]?=some b->b.toNat<128:=by
 have h:table.data.toList.all (λb=>decide (b.toNat<128))=true:=by decide +kernel
 intro j b hb;have:=bW.1 h b (bh hb)
 simpa using this
theorem size_table:table.size=261:=by decide +kernel
theorem split_text:∀ k,k<32->Lib.countB (text k) colon=2/\Lib.splitB colon 0 2 (text k)=[name k,has k,num k]:=by decide +kernel
theorem parse_num:∀ k,k<32->Lib.parseIntB 64 (num k).data.toList=.ok (cyc k):=by
 have h:(List.range 32).all (λk=>match Lib.parseIntB 64 (num k).data.toList with | .ok v=>decide (v=cyc k)|_=>false)=true:=by decide +kernel
 intro k a;have:=bW.1 h k (du.2 a);split at this
 ·rename_i v b
  rw[b,cF this]
 ·cases this
theorem sizes:∀ k,k<32->(text k).size<=20/\(num k).size<=20:=by decide +kernel
end Go.Proofs.YthghjlinhokimaaGreatDoor.K
