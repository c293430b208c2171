/- Lemmas that the proofs of the statements on dumps rest on. Conditions stand in each theorem. -/
import Derived.Test.YteggjjhjmhccjaaGreatDoorV03
import Derived.Laws.BytesArg
import Derived.Laws.IdiomStrings
set_option linter.unusedVariables false
set_option linter.unusedSimpArgs false
set_option maxRecDepth 100000
set_option maxHeartbeats 8000000
namespace Go.Proofs.YteggjjhjmhccjaaGreatDoor
open Go.ChangeShapes Go.WideShapes Go.ChangeAt Go.RowKit
section
theorem S.fmt_low:∀d:List S.Pn,9 * d.length≤(S.fmt28 d).length
 |[]=>by simp [S.fmt28]
 |p::d=>by
  have ih:=S.fmt_low d
  have hr:8≤(S.rec28 p).length:=by
   unfold S.rec28
   rw [S.hxs4,S.hxs2]
   simp only [List.length_append,List.length_cons,List.length_nil]
   omega
  simp only [S.fmt28,List.length_append,List.length_cons]
  omega
theorem S.lns_okl:∀(ls:List S.Bs) (n:Nat) (acc:List S.Pn),(∀p∈acc,p.okl)→∀p∈(S.lns n acc ls).1,p.okl
 |[],n,acc,h=>by simpa [S.lns] using h
 |[x],n,acc,h=>by
  unfold S.lns
  split
  ·exact h
  ·intro p hp;cases hp
 |x::y::r,n,acc,h=>by
  unfold S.lns
  split
  ·rename_i q hq
   refine S.lns_okl (y::r) (n+1) (acc++[q]) fun p hp=> ?_
   rcases List.mem_append.1 hp with hp|hp
   ·exact h p hp
   ·obtain rfl:=List.mem_singleton.1 hp
    exact (S.prs_inv hq).2
  ·intro p hp;cases hp
theorem S.par_okl (s:S.Bs):∀p∈(S.par28 s).1,p.okl:=S.lns_okl _ 1 [] (fun p hp=>by cases hp)
theorem S.okl_bd {p:S.Pn} (h:p.okl):p.bd:=⟨h.2.1,h.2.2⟩
theorem conv1_28 (c:UInt8) (W:World) (b:Nat) (h:W.cell? ⟨b,0,none⟩=some (.int .u8 c.toNat)):(convert 30 9 (.slice (some ⟨b,0,none⟩) 1 1)).run Tryz.prog W=.ok (.string ⟨[c].toArray⟩) W:=
 run_convert_bytes_back W 30 9 5 ⟨b,0,none⟩ 1 [c] Tryz.underlying30 Tryz.underlying5 Tryz.underlying9 fun j hj=>by
  obtain rfl:j=0:=by simpa using hj
  simpa [Addr.add] using h
theorem byte28 {n:Int} (h:(Lit.int .u8 n).wf=true):∃c:UInt8,n=(c.toNat:Int):=by
 obtain ⟨h1,h2⟩:=u8_of h
 exact ⟨UInt8.ofNat n.toNat,by simp;omega⟩
end
end Go.Proofs.YteggjjhjmhccjaaGreatDoor
