/- Part 14. -/
import Derived.Test.YtoenclhimbpfeaaGreatDoorC13
namespace Go.Proofs.YtoenclhimbpfeaaGreatDoor
set_option linter.all false
set_option maxHeartbeats 16000000
set_option maxRecDepth 100000
section
open Go.Maps Go.RowKit
def zAn:Nat->Value:=fun i=>match i with|0=>.int .i64 0|1=>.int .u32 0|_=>.int .u64 0
theorem blkAn(w:World)(x y z:Value){t:TypeId}:Blk (w.alloc (.cells #[x,y,z] t)) w.heap.size 3 (fun i=>match i with|0=>x|1=>y|_=>z):=Blk.new _ _ _ 3 _ _ rfl rfl (fun i hi=>by
 match i,hi with
 |0,_|1,_|2,_=>rfl)
section
variable{p:PP}{q:Bool}{M:AM}{m:Nat}{w:World}{F:Nat->Prop}{o:OpF}
theorem call_cells{w:World}{x y:Nat}(a:Blk w x 3 zAn)(b:Blk w y 3 zAn):
  w.cell? ⟨x,0,none⟩=some (.int .i64 0)∧w.cell? ⟨x,1,none⟩=some (.int .u32 0)∧w.cell? ⟨x,2,none⟩=some (.int .u64 0)∧w.cell? ⟨y,0,none⟩=some (.int .i64 0)∧w.cell? ⟨y,1,none⟩=some (.int .u32 0)∧w.cell? ⟨y,2,none⟩=some (.int .u64 0)∧w.frozen? ⟨x,0,none⟩=false∧w.frozen? ⟨x,1,none⟩=false∧w.frozen? ⟨x,2,none⟩=false∧w.frozen? ⟨y,0,none⟩=false∧w.frozen? ⟨y,1,none⟩=false∧w.frozen? ⟨y,2,none⟩=false∧x<w.heap.size∧y<w.heap.size:=
 ⟨a.cell (by omega),a.cell (by omega),a.cell (by omega),b.cell (by omega),b.cell (by omega),b.cell (by omega),a.frozen _,a.frozen _,a.frozen _,b.frozen _,b.frozen _,b.frozen _,a.lt,b.lt⟩
end
end
end Go.Proofs.YtoenclhimbpfeaaGreatDoor
