/- Texts that the proofs of GrammarTraces and GrammarCounts rest on, joined. Conditions stand in each theorem. -/
import Derived.Test.YteggjjhjmhccjaaGreatQ05
import Derived.Test.YteggjjhjmhccjaaGreatQ00
set_option linter.unusedVariables false
set_option linter.unusedSimpArgs false
set_option maxRecDepth 100000
set_option maxHeartbeats 8000000
namespace Go.Proofs.YteggjjhjmhccjaaGreat
open Go.ChangeShapes Go.WideShapes Go.ChangeAt Go.RowKit
section
theorem pinsOf_1 (ch:Int) (x:S.It) (hk:x.k=1) (w:World):Calls Tryz.prog 48 #[.int .i64 ch,.agg #[.int .i64 x.k,.int .i64 x.c,.int .u16 x.a,.int .u8 x.d,.int .i64 x.s,.int .i64 x.w,.int .i64 x.n,.bool x.e,.bool x.o],.int .i64 1] w fun e w'=>e=.returned (.agg (S.pn (ch==2) x 1).cs)∧Adds w w':=by
 have H5:=Lib.hid (pins85_1 x hk)
 have H0:=Lib.hid (pins80_1 x hk)
 obtain ⟨k,c,a,d,s,ww,n,e,o⟩:=x
 obtain rfl:k=1:=hk
 simp only [] at H5 H0⊢
 by_cases h2:ch=2
 ·subst h2
  rw [show ((2:Int)==2)=true from rfl]
  go_enter Tryz.func48,Tryz.ntmps48
  go_wp2_with fail
  try go_region_with (go_at_call 79;refine ad (transferred_1 c a d s) fun n1 os1=> ?_)
  all_goals
   go_wp2_with (go_at_call 80;refine (H5.out _).mono ?_;rintro e w' ⟨rfl,⟨⟨n2,os2⟩,rfl⟩⟩;simp only [S.Pn.cs])
   exact bodyPost_ret (ret_Pins Tryz.results48 rfl (by simp [go_sem,S.Pn.cs]) rfl) rfl ⟨rfl,aD⟩
 ·have g2:(ch==2)=false:=by simpa using h2
  clear h2
  rw [g2]
  go_enter Tryz.func48,Tryz.ntmps48
  go_wp2_with fail
  try go_region_with (go_at_call 79;refine ad (transferred_1 c a d s) fun n1 os1=> ?_)
  all_goals
   go_wp2_with (go_at_call 81;refine (H0.out _).mono ?_;rintro e w' ⟨rfl,⟨⟨n2,os2⟩,rfl⟩⟩;simp only [S.Pn.cs])
   exact bodyPost_ret (ret_Pins Tryz.results48 rfl (by simp [go_sem,S.Pn.cs]) rfl) rfl ⟨rfl,aD⟩
theorem pinsOf_2 (ch:Int) (x:S.It) (hk:x.k=1) (w:World):Calls Tryz.prog 48 #[.int .i64 ch,.agg #[.int .i64 x.k,.int .i64 x.c,.int .u16 x.a,.int .u8 x.d,.int .i64 x.s,.int .i64 x.w,.int .i64 x.n,.bool x.e,.bool x.o],.int .i64 2] w fun e w'=>e=.returned (.agg (S.pn (ch==2) x 2).cs)∧Adds w w':=by
 have H5:=Lib.hid (pins85_2 x hk)
 have H0:=Lib.hid (pins80_2 x hk)
 obtain ⟨k,c,a,d,s,ww,n,e,o⟩:=x
 obtain rfl:k=1:=hk
 simp only [] at H5 H0⊢
 by_cases h2:ch=2
 ·subst h2
  rw [show ((2:Int)==2)=true from rfl]
  go_enter Tryz.func48,Tryz.ntmps48
  go_wp2_with fail
  try go_region_with (go_at_call 79;refine ad (transferred_2 c a d s) fun n1 os1=> ?_)
  all_goals
   go_wp2_with (go_at_call 80;refine (H5.out _).mono ?_;rintro e w' ⟨rfl,⟨⟨n2,os2⟩,rfl⟩⟩;simp only [S.Pn.cs])
   exact bodyPost_ret (ret_Pins Tryz.results48 rfl (by simp [go_sem,S.Pn.cs]) rfl) rfl ⟨rfl,aD⟩
 ·have g2:(ch==2)=false:=by simpa using h2
  clear h2
  rw [g2]
  go_enter Tryz.func48,Tryz.ntmps48
  go_wp2_with fail
  try go_region_with (go_at_call 79;refine ad (transferred_2 c a d s) fun n1 os1=> ?_)
  all_goals
   go_wp2_with (go_at_call 81;refine (H0.out _).mono ?_;rintro e w' ⟨rfl,⟨⟨n2,os2⟩,rfl⟩⟩;simp only [S.Pn.cs])
   exact bodyPost_ret (ret_Pins Tryz.results48 rfl (by simp [go_sem,S.Pn.cs]) rfl) rfl ⟨rfl,aD⟩
theorem pinsOf_3 (ch:Int) (x:S.It) (hk:x.k=1) (w:World):Calls Tryz.prog 48 #[.int .i64 ch,.agg #[.int .i64 x.k,.int .i64 x.c,.int .u16 x.a,.int .u8 x.d,.int .i64 x.s,.int .i64 x.w,.int .i64 x.n,.bool x.e,.bool x.o],.int .i64 3] w fun e w'=>e=.returned (.agg (S.pn (ch==2) x 3).cs)∧Adds w w':=by
 have H5:=Lib.hid (pins85_3 x hk)
 have H0:=Lib.hid (pins80_3 x hk)
 obtain ⟨k,c,a,d,s,ww,n,e,o⟩:=x
 obtain rfl:k=1:=hk
 simp only [] at H5 H0⊢
 by_cases h2:ch=2
 ·subst h2
  rw [show ((2:Int)==2)=true from rfl]
  go_enter Tryz.func48,Tryz.ntmps48
  go_wp2_with fail
  try go_region_with (go_at_call 79;refine ad (transferred_3 c a d s) fun n1 os1=> ?_)
  all_goals
   go_wp2_with (go_at_call 80;refine (H5.out _).mono ?_;rintro e w' ⟨rfl,⟨⟨n2,os2⟩,rfl⟩⟩;simp only [S.Pn.cs])
   exact bodyPost_ret (ret_Pins Tryz.results48 rfl (by simp [go_sem,S.Pn.cs]) rfl) rfl ⟨rfl,aD⟩
 ·have g2:(ch==2)=false:=by simpa using h2
  clear h2
  rw [g2]
  go_enter Tryz.func48,Tryz.ntmps48
  go_wp2_with fail
  try go_region_with (go_at_call 79;refine ad (transferred_3 c a d s) fun n1 os1=> ?_)
  all_goals
   go_wp2_with (go_at_call 81;refine (H0.out _).mono ?_;rintro e w' ⟨rfl,⟨⟨n2,os2⟩,rfl⟩⟩;simp only [S.Pn.cs])
   exact bodyPost_ret (ret_Pins Tryz.results48 rfl (by simp [go_sem,S.Pn.cs]) rfl) rfl ⟨rfl,aD⟩
theorem pinsOf_4 (ch:Int) (x:S.It) (hk:x.k=1) (w:World):Calls Tryz.prog 48 #[.int .i64 ch,.agg #[.int .i64 x.k,.int .i64 x.c,.int .u16 x.a,.int .u8 x.d,.int .i64 x.s,.int .i64 x.w,.int .i64 x.n,.bool x.e,.bool x.o],.int .i64 4] w fun e w'=>e=.returned (.agg (S.pn (ch==2) x 4).cs)∧Adds w w':=by
 have H5:=Lib.hid (pins85_4 x hk)
 have H0:=Lib.hid (pins80_4 x hk)
 obtain ⟨k,c,a,d,s,ww,n,e,o⟩:=x
 obtain rfl:k=1:=hk
 simp only [] at H5 H0⊢
 by_cases h2:ch=2
 ·subst h2
  rw [show ((2:Int)==2)=true from rfl]
  go_enter Tryz.func48,Tryz.ntmps48
  go_wp2_with fail
  try go_region_with (go_at_call 79;refine ad (transferred_4 c a d s) fun n1 os1=> ?_)
  all_goals
   go_wp2_with (go_at_call 80;refine (H5.out _).mono ?_;rintro e w' ⟨rfl,⟨⟨n2,os2⟩,rfl⟩⟩;simp only [S.Pn.cs])
   exact bodyPost_ret (ret_Pins Tryz.results48 rfl (by simp [go_sem,S.Pn.cs]) rfl) rfl ⟨rfl,aD⟩
 ·have g2:(ch==2)=false:=by simpa using h2
  clear h2
  rw [g2]
  go_enter Tryz.func48,Tryz.ntmps48
  go_wp2_with fail
  try go_region_with (go_at_call 79;refine ad (transferred_4 c a d s) fun n1 os1=> ?_)
  all_goals
   go_wp2_with (go_at_call 81;refine (H0.out _).mono ?_;rintro e w' ⟨rfl,⟨⟨n2,os2⟩,rfl⟩⟩;simp only [S.Pn.cs])
   exact bodyPost_ret (ret_Pins Tryz.results48 rfl (by simp [go_sem,S.Pn.cs]) rfl) rfl ⟨rfl,aD⟩
theorem pinsOf_5 (ch:Int) (x:S.It) (hk:x.k=1) (w:World):Calls Tryz.prog 48 #[.int .i64 ch,.agg #[.int .i64 x.k,.int .i64 x.c,.int .u16 x.a,.int .u8 x.d,.int .i64 x.s,.int .i64 x.w,.int .i64 x.n,.bool x.e,.bool x.o],.int .i64 5] w fun e w'=>e=.returned (.agg (S.pn (ch==2) x 5).cs)∧Adds w w':=by
 have H5:=Lib.hid (pins85_5 x hk)
 have H0:=Lib.hid (pins80_5 x hk)
 obtain ⟨k,c,a,d,s,ww,n,e,o⟩:=x
 obtain rfl:k=1:=hk
 simp only [] at H5 H0⊢
 by_cases h2:ch=2
 ·subst h2
  rw [show ((2:Int)==2)=true from rfl]
  go_enter Tryz.func48,Tryz.ntmps48
  go_wp2_with fail
  try go_region_with (go_at_call 79;refine ad (transferred_5 c a d s) fun n1 os1=> ?_)
  all_goals
   go_wp2_with (go_at_call 80;refine (H5.out _).mono ?_;rintro e w' ⟨rfl,⟨⟨n2,os2⟩,rfl⟩⟩;simp only [S.Pn.cs])
   exact bodyPost_ret (ret_Pins Tryz.results48 rfl (by simp [go_sem,S.Pn.cs]) rfl) rfl ⟨rfl,aD⟩
 ·have g2:(ch==2)=false:=by simpa using h2
  clear h2
  rw [g2]
  go_enter Tryz.func48,Tryz.ntmps48
  go_wp2_with fail
  try go_region_with (go_at_call 79;refine ad (transferred_5 c a d s) fun n1 os1=> ?_)
  all_goals
   go_wp2_with (go_at_call 81;refine (H0.out _).mono ?_;rintro e w' ⟨rfl,⟨⟨n2,os2⟩,rfl⟩⟩;simp only [S.Pn.cs])
   exact bodyPost_ret (ret_Pins Tryz.results48 rfl (by simp [go_sem,S.Pn.cs]) rfl) rfl ⟨rfl,aD⟩
theorem pinsOf_6 (ch:Int) (x:S.It) (hk:x.k=1) (w:World):Calls Tryz.prog 48 #[.int .i64 ch,.agg #[.int .i64 x.k,.int .i64 x.c,.int .u16 x.a,.int .u8 x.d,.int .i64 x.s,.int .i64 x.w,.int .i64 x.n,.bool x.e,.bool x.o],.int .i64 6] w fun e w'=>e=.returned (.agg (S.pn (ch==2) x 6).cs)∧Adds w w':=by
 have H5:=Lib.hid (pins85_6 x hk)
 have H0:=Lib.hid (pins80_6 x hk)
 obtain ⟨k,c,a,d,s,ww,n,e,o⟩:=x
 obtain rfl:k=1:=hk
 simp only [] at H5 H0⊢
 by_cases h2:ch=2
 ·subst h2
  rw [show ((2:Int)==2)=true from rfl]
  go_enter Tryz.func48,Tryz.ntmps48
  go_wp2_with fail
  try go_region_with (go_at_call 79;refine ad (transferred_6 c a d s) fun n1 os1=> ?_)
  all_goals
   go_wp2_with (go_at_call 80;refine (H5.out _).mono ?_;rintro e w' ⟨rfl,⟨⟨n2,os2⟩,rfl⟩⟩;simp only [S.Pn.cs])
   exact bodyPost_ret (ret_Pins Tryz.results48 rfl (by simp [go_sem,S.Pn.cs]) rfl) rfl ⟨rfl,aD⟩
 ·have g2:(ch==2)=false:=by simpa using h2
  clear h2
  rw [g2]
  go_enter Tryz.func48,Tryz.ntmps48
  go_wp2_with fail
  try go_region_with (go_at_call 79;refine ad (transferred_6 c a d s) fun n1 os1=> ?_)
  all_goals
   go_wp2_with (go_at_call 81;refine (H0.out _).mono ?_;rintro e w' ⟨rfl,⟨⟨n2,os2⟩,rfl⟩⟩;simp only [S.Pn.cs])
   exact bodyPost_ret (ret_Pins Tryz.results48 rfl (by simp [go_sem,S.Pn.cs]) rfl) rfl ⟨rfl,aD⟩
theorem pinsOf_7 (ch:Int) (x:S.It) (hk:x.k=1) (w:World):Calls Tryz.prog 48 #[.int .i64 ch,.agg #[.int .i64 x.k,.int .i64 x.c,.int .u16 x.a,.int .u8 x.d,.int .i64 x.s,.int .i64 x.w,.int .i64 x.n,.bool x.e,.bool x.o],.int .i64 7] w fun e w'=>e=.returned (.agg (S.pn (ch==2) x 7).cs)∧Adds w w':=by
 have H5:=Lib.hid (pins85_7 x hk)
 have H0:=Lib.hid (pins80_7 x hk)
 obtain ⟨k,c,a,d,s,ww,n,e,o⟩:=x
 obtain rfl:k=1:=hk
 simp only [] at H5 H0⊢
 by_cases h2:ch=2
 ·subst h2
  rw [show ((2:Int)==2)=true from rfl]
  go_enter Tryz.func48,Tryz.ntmps48
  go_wp2_with fail
  try go_region_with (go_at_call 79;refine ad (transferred_7 c a d s) fun n1 os1=> ?_)
  all_goals
   go_wp2_with (go_at_call 80;refine (H5.out _).mono ?_;rintro e w' ⟨rfl,⟨⟨n2,os2⟩,rfl⟩⟩;simp only [S.Pn.cs])
   exact bodyPost_ret (ret_Pins Tryz.results48 rfl (by simp [go_sem,S.Pn.cs]) rfl) rfl ⟨rfl,aD⟩
 ·have g2:(ch==2)=false:=by simpa using h2
  clear h2
  rw [g2]
  go_enter Tryz.func48,Tryz.ntmps48
  go_wp2_with fail
  try go_region_with (go_at_call 79;refine ad (transferred_7 c a d s) fun n1 os1=> ?_)
  all_goals
   go_wp2_with (go_at_call 81;refine (H0.out _).mono ?_;rintro e w' ⟨rfl,⟨⟨n2,os2⟩,rfl⟩⟩;simp only [S.Pn.cs])
   exact bodyPost_ret (ret_Pins Tryz.results48 rfl (by simp [go_sem,S.Pn.cs]) rfl) rfl ⟨rfl,aD⟩
theorem pinsOf_8 (ch:Int) (x:S.It) (hk:x.k=2) (w:World):Calls Tryz.prog 48 #[.int .i64 ch,.agg #[.int .i64 x.k,.int .i64 x.c,.int .u16 x.a,.int .u8 x.d,.int .i64 x.s,.int .i64 x.w,.int .i64 x.n,.bool x.e,.bool x.o],.int .i64 8] w fun e w'=>e=.returned (.agg (S.pn (ch==2) x 8).cs)∧Adds w w':=by
 have H5:=Lib.hid (pins85_8 x hk)
 have H0:=Lib.hid (pins80_8 x hk)
 obtain ⟨k,c,a,d,s,ww,n,e,o⟩:=x
 obtain rfl:k=2:=hk
 simp only [] at H5 H0⊢
 by_cases h2:ch=2
 ·subst h2
  rw [show ((2:Int)==2)=true from rfl]
  go_enter Tryz.func48,Tryz.ntmps48
  go_wp2_with fail
  try go_region_with (go_at_call 79;refine ad (transferred_8 c a d s) fun n1 os1=> ?_)
  all_goals
   go_wp2_with (go_at_call 80;refine (H5.out _).mono ?_;rintro e w' ⟨rfl,⟨⟨n2,os2⟩,rfl⟩⟩;simp only [S.Pn.cs])
   exact bodyPost_ret (ret_Pins Tryz.results48 rfl (by simp [go_sem,S.Pn.cs]) rfl) rfl ⟨rfl,aD⟩
 ·have g2:(ch==2)=false:=by simpa using h2
  clear h2
  rw [g2]
  go_enter Tryz.func48,Tryz.ntmps48
  go_wp2_with fail
  try go_region_with (go_at_call 79;refine ad (transferred_8 c a d s) fun n1 os1=> ?_)
  all_goals
   go_wp2_with (go_at_call 81;refine (H0.out _).mono ?_;rintro e w' ⟨rfl,⟨⟨n2,os2⟩,rfl⟩⟩;simp only [S.Pn.cs])
   exact bodyPost_ret (ret_Pins Tryz.results48 rfl (by simp [go_sem,S.Pn.cs]) rfl) rfl ⟨rfl,aD⟩
theorem pinsOf_9 (ch:Int) (x:S.It) (hk:x.k=3) (w:World):Calls Tryz.prog 48 #[.int .i64 ch,.agg #[.int .i64 x.k,.int .i64 x.c,.int .u16 x.a,.int .u8 x.d,.int .i64 x.s,.int .i64 x.w,.int .i64 x.n,.bool x.e,.bool x.o],.int .i64 9] w fun e w'=>e=.returned (.agg (S.pn (ch==2) x 9).cs)∧Adds w w':=by
 have H5:=Lib.hid (pins85_9 x hk)
 have H0:=Lib.hid (pins80_9 x hk)
 obtain ⟨k,c,a,d,s,ww,n,e,o⟩:=x
 obtain rfl:k=3:=hk
 simp only [] at H5 H0⊢
 by_cases h2:ch=2
 ·subst h2
  rw [show ((2:Int)==2)=true from rfl]
  go_enter Tryz.func48,Tryz.ntmps48
  go_wp2_with fail
  try go_region_with (go_at_call 79;refine ad (transferred_9 c a d s) fun n1 os1=> ?_)
  all_goals
   go_wp2_with (go_at_call 80;refine (H5.out _).mono ?_;rintro e w' ⟨rfl,⟨⟨n2,os2⟩,rfl⟩⟩;simp only [S.Pn.cs])
   exact bodyPost_ret (ret_Pins Tryz.results48 rfl (by simp [go_sem,S.Pn.cs]) rfl) rfl ⟨rfl,aD⟩
 ·have g2:(ch==2)=false:=by simpa using h2
  clear h2
  rw [g2]
  go_enter Tryz.func48,Tryz.ntmps48
  go_wp2_with fail
  try go_region_with (go_at_call 79;refine ad (transferred_9 c a d s) fun n1 os1=> ?_)
  all_goals
   go_wp2_with (go_at_call 81;refine (H0.out _).mono ?_;rintro e w' ⟨rfl,⟨⟨n2,os2⟩,rfl⟩⟩;simp only [S.Pn.cs])
   exact bodyPost_ret (ret_Pins Tryz.results48 rfl (by simp [go_sem,S.Pn.cs]) rfl) rfl ⟨rfl,aD⟩
theorem pinsOf_10 (ch:Int) (x:S.It) (hk:x.k=4) (w:World):Calls Tryz.prog 48 #[.int .i64 ch,.agg #[.int .i64 x.k,.int .i64 x.c,.int .u16 x.a,.int .u8 x.d,.int .i64 x.s,.int .i64 x.w,.int .i64 x.n,.bool x.e,.bool x.o],.int .i64 10] w fun e w'=>e=.returned (.agg (S.pn (ch==2) x 10).cs)∧Adds w w':=by
 have H5:=Lib.hid (pins85_10 x hk)
 have H0:=Lib.hid (pins80_10 x hk)
 obtain ⟨k,c,a,d,s,ww,n,e,o⟩:=x
 obtain rfl:k=4:=hk
 simp only [] at H5 H0⊢
 by_cases h2:ch=2
 ·subst h2
  rw [show ((2:Int)==2)=true from rfl]
  go_enter Tryz.func48,Tryz.ntmps48
  go_wp2_with fail
  try go_region_with (go_at_call 79;refine ad (transferred_10 c a d s) fun n1 os1=> ?_)
  all_goals
   go_wp2_with (go_at_call 80;refine (H5.out _).mono ?_;rintro e w' ⟨rfl,⟨⟨n2,os2⟩,rfl⟩⟩;simp only [S.Pn.cs])
   exact bodyPost_ret (ret_Pins Tryz.results48 rfl (by simp [go_sem,S.Pn.cs]) rfl) rfl ⟨rfl,aD⟩
 ·have g2:(ch==2)=false:=by simpa using h2
  clear h2
  rw [g2]
  go_enter Tryz.func48,Tryz.ntmps48
  go_wp2_with fail
  try go_region_with (go_at_call 79;refine ad (transferred_10 c a d s) fun n1 os1=> ?_)
  all_goals
   go_wp2_with (go_at_call 81;refine (H0.out _).mono ?_;rintro e w' ⟨rfl,⟨⟨n2,os2⟩,rfl⟩⟩;simp only [S.Pn.cs])
   exact bodyPost_ret (ret_Pins Tryz.results48 rfl (by simp [go_sem,S.Pn.cs]) rfl) rfl ⟨rfl,aD⟩
theorem pinsOf_any (ch:Int) (x:S.It) (s:Int) (hf:S.fit x.k s) {w:World}:Calls Tryz.prog 48 #[.int .i64 ch,.agg #[.int .i64 x.k,.int .i64 x.c,.int .u16 x.a,.int .u8 x.d,.int .i64 x.s,.int .i64 x.w,.int .i64 x.n,.bool x.e,.bool x.o],.int .i64 s] w fun e w'=>e=.returned (.agg (S.pn (ch==2) x s).cs)∧Adds w w':=by
 rcases hf with ⟨hk,h1,h7⟩|⟨hk,rfl⟩|⟨hk,rfl⟩|⟨hk,rfl⟩
 ·rcases (by omega:s=1∨s=2∨s=3∨s=4∨s=5∨s=6∨s=7) with rfl|rfl|rfl|rfl|rfl|rfl|rfl
  ·exact pinsOf_1 ch x hk w
  ·exact pinsOf_2 ch x hk w
  ·exact pinsOf_3 ch x hk w
  ·exact pinsOf_4 ch x hk w
  ·exact pinsOf_5 ch x hk w
  ·exact pinsOf_6 ch x hk w
  ·exact pinsOf_7 ch x hk w
 ·exact pinsOf_8 ch x hk w
 ·exact pinsOf_9 ch x hk w
 ·exact pinsOf_10 ch x hk w
end
end Go.Proofs.YteggjjhjmhccjaaGreat
