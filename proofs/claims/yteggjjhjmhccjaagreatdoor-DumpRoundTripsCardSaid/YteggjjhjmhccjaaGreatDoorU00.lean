/- Lemmas that the proofs of the statements on dumps rest on. Conditions stand in each theorem. -/
import Derived.Test.YteggjjhjmhccjaaGreatDoorW03
set_option linter.unusedVariables false
set_option linter.unusedSimpArgs false
set_option maxRecDepth 100000
set_option maxHeartbeats 8000000
namespace Go.Proofs.YteggjjhjmhccjaaGreatDoor
open Go.ChangeShapes Go.WideShapes Go.ChangeAt Go.RowKit
section
section
variable {α:Type} {cs:α→List Value} {sz:Nat} {E:TypeId}
theorem Fl_set1 (hs:∀a,(cs a).length=sz) {k:Nat} {u:Value} (hk:k < sz):∀(d:List α) (i:Nat) (a a':α),d[i]? =some a→cs a'=(cs a).set k u→(Fl cs d).set (i * sz+k) u=Fl cs (d.set i a')
 |[],i,a,a',h,e=>by simp at h
 |c::d,0,a,a',h,e=>by
  obtain rfl:=Option.some.inj h
  rw [Fl_cons,Nat.zero_mul,Nat.zero_add,List.set_append_left _ _ (by rw [hs];exact hk),←e]
  rfl
 |c::d,i+1,a,a',h,e=>by
  have ih:=Fl_set1 hs hk d i a a' (by simpa using h) e
  have hz:(i+1) * sz+k=sz+(i * sz+k):=by rw [Nat.succ_mul];omega
  rw [Fl_cons,hz,List.set_append_right _ _ (by rw [hs];omega),hs,show sz+(i * sz+k) - sz=i * sz+k by omega,ih]
  rfl
theorem OwnsG.cell28 (hs:∀a,(cs a).length=sz) {w:World} {base g n cap:Nat} {d:List α} (h:OwnsG cs sz E w base (.slice (some ⟨g,0,none⟩) n cap) d) {i k:Nat} {a a':α} {u:Value} (ha:d[i]? =some a) (hk:k < sz) (e:cs a'=(cs a).set k u):OwnsG cs sz E (w.setCell ⟨g,i * sz+k,none⟩ u) base (.slice (some ⟨g,0,none⟩) n cap) (d.set i a'):=by
 obtain ⟨cur,hg,hb,hdn,hnc,hcm,hcs,ht⟩:=h.elim
 subst hdn
 refine ⟨by rw [List.length_set];exact Fl_len hs (d.set i a')▸by rw [List.length_set],.inr ⟨g,cap,cur.setIfInBounds (i * sz+k) u,by rw [List.length_set],hb,?_,by rw [List.length_set];exact hnc,hcm,by simpa using hcs,?_⟩⟩
 ·show (w.setCell ⟨g,i * sz+k,none⟩ u).heap[g]? =_
  simp only [World.setCell,Array.getElem?_modify,if_true,hg,Option.map_some]
  rfl
 ·rw [List.length_set,←Fl_set1 hs hk d i a a' ha e,←ht,Array.toList_setIfInBounds]
  first|exact List.take_set|exact List.take_set ..|exact (List.set_take ..).symm|(apply List.ext_getElem?;intro j;simp only [List.getElem?_take,List.getElem?_set,List.length_take];split<;>split<;>first|rfl|(split<;>first|rfl|omega)|omega)
end
end
end Go.Proofs.YteggjjhjmhccjaaGreatDoor
