/- Words and walks: McNw. -/
import Derived.Test.YtcpggonengkgiaaGreatDoorG44
namespace Go.Proofs.YtcpggonengkgiaaGreatDoor
open Go Go.RowKit Go.Deep
set_option maxRecDepth 8000
theorem refMay_ok (w:World) (p c:Int) (h1:1<=p) (h2:p<=5) (h3:1<=c) (h4:c<=1048576) :
  Calls Tryz.prog 23 #[.int .i64 p,.int .i64 c] w fun e w'=>e = .returned (.int .i64 0)/\w=w':=by
 go_enter Tryz.func23,Tryz.ntmps23
 go_wp2
 go_ret
 exact ⟨rfl,rfl⟩
theorem refMay_capacity (w:World) (p c:Int) (h1:1<=p) (h2:p<=5) (h:c < 1∨1048576 < c) :
  Calls Tryz.prog 23 #[.int .i64 p,.int .i64 c] w fun e w'=>e = .returned (.int .i64 2)/\w=w':=by
 by_cases h3:c < 1
 ·go_enter Tryz.func23,Tryz.ntmps23
  go_wp2
  go_ret
  exact ⟨rfl,rfl⟩
 ·have h4:1048576 < c:=by omega
  go_enter Tryz.func23,Tryz.ntmps23
  go_wp2
  go_ret
  exact ⟨rfl,rfl⟩
end Go.Proofs.YtcpggonengkgiaaGreatDoor
