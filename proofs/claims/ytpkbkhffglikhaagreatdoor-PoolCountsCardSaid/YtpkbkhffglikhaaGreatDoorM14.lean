/- Part 14. -/
import Derived.Test.YtpkbkhffglikhaaGreatDoorM13
namespace Go.Proofs.YtpkbkhffglikhaaGreatDoor
set_option linter.all false
set_option maxHeartbeats 16000000
set_option maxRecDepth 100000
section
open Go.Proofs.Tryz Go.RowKit
def repV4(b:Nat):Value:=.iface 83 (.pointer (some ⟨b,0,none⟩))
theorem fv4_p1{R:World->Prop}{w:World}{b id c2:Nat}(hc:Calls prog 135 #[.pointer (some ⟨b,0,none⟩),.int .u32 id] w (λe w'=>e=.returned (.tuple #[])/\R w'))(q2:w.cell? ⟨c2,0,none⟩=some (.int .u32 id))(q4:c2<w.heap.size):Calls prog 67 #[repV4 b,.pointer (some ⟨c2,0,none⟩)] w λe w'=>e=.returned (.tuple #[])/\R w':=by
 have HM:=Hd hc;unfold repV4;clear hc;go_enter func67,ntmps67
 go_wp2_with fail
 refine HM.out.mono ?_;clear HM;rintro e w1⟨rfl,h1⟩;have H1:=Hd h1;clear h1;go_wp2;go_returns;exact⟨rfl,H1.out⟩
theorem fv4_p2{R:World->Prop}{w:World}{b k id c1 c2:Nat}(hc:Calls prog 133 #[.pointer (some ⟨b,0,none⟩),.int .i64 k,.int .u32 id] w (λe w'=>e=.returned (.tuple #[])/\R w'))(q1:w.cell? ⟨c1,0,none⟩=some (.int .i64 k))(q3:c1<w.heap.size)(q2:w.cell? ⟨c2,0,none⟩=some (.int .u32 id))(q4:c2<w.heap.size):Calls prog 70 #[repV4 b,.pointer (some ⟨c1,0,none⟩),.pointer (some ⟨c2,0,none⟩)] w λe w'=>e=.returned (.tuple #[])/\R w':=by
 have HM:=Hd hc;unfold repV4;clear hc;go_enter func70,ntmps70
 go_wp2_with fail
 refine HM.out.mono ?_;clear HM;rintro e w1⟨rfl,h1⟩;have H1:=Hd h1;clear h1;go_wp2;go_returns;exact⟨rfl,H1.out⟩
theorem fv4_e1{R:World->Prop}{w:World}{b k id c1 c2:Nat}(hc:Calls prog 133 #[.pointer (some ⟨b,0,none⟩),.int .i64 k,.int .u32 id] w (λe w'=>e=.returned (.tuple #[])/\R w'))(q1:w.cell? ⟨c1,0,none⟩=some (.int .i64 k))(q3:c1<w.heap.size)(q2:w.cell? ⟨c2,0,none⟩=some (.int .u32 id))(q4:c2<w.heap.size):Calls prog 75 #[repV4 b,.pointer (some ⟨c1,0,none⟩),.pointer (some ⟨c2,0,none⟩)] w λe w'=>e=.returned (.tuple #[])/\R w':=by
 have HM:=Hd hc;unfold repV4;clear hc;go_enter func75,ntmps75
 go_wp2_with fail
 refine HM.out.mono ?_;clear HM;rintro e w1⟨rfl,h1⟩;have H1:=Hd h1;clear h1;go_wp2;go_returns;exact⟨rfl,H1.out⟩
theorem fv4_t1{R:World->Prop}{w:World}{b k id c1 c2:Nat}(hc:Calls prog 133 #[.pointer (some ⟨b,0,none⟩),.int .i64 k,.int .u32 id] w (λe w'=>e=.returned (.tuple #[])/\R w'))(q1:w.cell? ⟨c1,0,none⟩=some (.int .i64 k))(q3:c1<w.heap.size)(q2:w.cell? ⟨c2,0,none⟩=some (.int .u32 id))(q4:c2<w.heap.size):Calls prog 78 #[repV4 b,.pointer (some ⟨c1,0,none⟩),.pointer (some ⟨c2,0,none⟩)] w λe w'=>e=.returned (.tuple #[])/\R w':=by
 have HM:=Hd hc;unfold repV4;clear hc;go_enter func78,ntmps78
 go_wp2_with fail
 refine HM.out.mono ?_;clear HM;rintro e w1⟨rfl,h1⟩;have H1:=Hd h1;clear h1;go_wp2;go_returns;exact⟨rfl,H1.out⟩
theorem fv4_p3{R:World->Prop}{w:World}{b k c1:Nat}(hc:Calls prog 137 #[.pointer (some ⟨b,0,none⟩),.int .i64 k,.bool true] w (λe w'=>e=.returned (.tuple #[])/\R w'))(q1:w.cell? ⟨c1,0,none⟩=some (.int .i64 k))(q3:c1<w.heap.size):Calls prog 71 #[repV4 b,.pointer (some ⟨c1,0,none⟩)] w λe w'=>e=.returned (.tuple #[])/\R w':=by
 have HM:=Hd hc;unfold repV4;clear hc;go_enter func71,ntmps71
 go_wp2_with fail
 refine HM.out.mono ?_;clear HM;rintro e w1⟨rfl,h1⟩;have H1:=Hd h1;clear h1;go_wp2;go_returns;exact⟨rfl,H1.out⟩
theorem fv4_u1{R:World->Prop}{w:World}{b k c1:Nat}(hc:Calls prog 137 #[.pointer (some ⟨b,0,none⟩),.int .i64 k,.bool true] w (λe w'=>e=.returned (.tuple #[])/\R w'))(q1:w.cell? ⟨c1,0,none⟩=some (.int .i64 k))(q3:c1<w.heap.size):Calls prog 49 #[repV4 b,.pointer (some ⟨c1,0,none⟩)] w λe w'=>e=.returned (.tuple #[])/\R w':=by
 have HM:=Hd hc;unfold repV4;clear hc;go_enter func49,ntmps49
 go_wp2_with fail
 refine HM.out.mono ?_;clear HM;rintro e w1⟨rfl,h1⟩;have H1:=Hd h1;clear h1;go_wp2;go_returns;exact⟨rfl,H1.out⟩
theorem fv4_t2{R:World->Prop}{w:World}{b k c1:Nat}(hc:Calls prog 137 #[.pointer (some ⟨b,0,none⟩),.int .i64 k,.bool false] w (λe w'=>e=.returned (.tuple #[])/\R w'))(q1:w.cell? ⟨c1,0,none⟩=some (.int .i64 k))(q3:c1<w.heap.size):Calls prog 79 #[repV4 b,.pointer (some ⟨c1,0,none⟩)] w λe w'=>e=.returned (.tuple #[])/\R w':=by
 have HM:=Hd hc;unfold repV4;clear hc;go_enter func79,ntmps79
 go_wp2_with fail
 refine HM.out.mono ?_;clear HM;rintro e w1⟨rfl,h1⟩;have H1:=Hd h1;clear h1;go_wp2;go_returns;exact⟨rfl,H1.out⟩
theorem fv4_v1{R:World->Prop}{w:World}{b k c1:Nat}(hc:Calls prog 136 #[.pointer (some ⟨b,0,none⟩),.int .i64 k] w (λe w'=>e=.returned (.tuple #[])/\R w'))(q1:w.cell? ⟨c1,0,none⟩=some (.int .i64 k))(q3:c1<w.heap.size):Calls prog 89 #[repV4 b,.pointer (some ⟨c1,0,none⟩)] w λe w'=>e=.returned (.tuple #[])/\R w':=by
 have HM:=Hd hc;unfold repV4;clear hc;go_enter func89,ntmps89
 go_wp2_with fail
 refine HM.out.mono ?_;clear HM;rintro e w1⟨rfl,h1⟩;have H1:=Hd h1;clear h1;go_wp2;go_returns;exact⟨rfl,H1.out⟩
theorem fv4_r1{R:World->Prop}{w:World}{b k c1:Nat}(hc:Calls prog 136 #[.pointer (some ⟨b,0,none⟩),.int .i64 k] w (λe w'=>e=.returned (.tuple #[])/\R w'))(q1:w.cell? ⟨c1,0,none⟩=some (.int .i64 k))(q3:c1<w.heap.size):Calls prog 80 #[repV4 b,.pointer (some ⟨c1,0,none⟩)] w λe w'=>e=.returned (.tuple #[])/\R w':=by
 have HM:=Hd hc;unfold repV4;clear hc;go_enter func80,ntmps80
 go_wp2_with fail
 refine HM.out.mono ?_;clear HM;rintro e w1⟨rfl,h1⟩;have H1:=Hd h1;clear h1;go_wp2;go_returns;exact⟨rfl,H1.out⟩
theorem fv4_ask{R:World->Prop}{w:World}{b pb id:Nat}{x:Int}{q:Bool}(hc:Calls prog 139 #[.pointer (some ⟨b,0,none⟩),.int .u32 id] w (λe w'=>e=.returned (.tuple #[.int .i64 x,.bool q])/\R w'))(q1:w.cell? ⟨pb,1,none⟩=some (repV4 b))(q2:pb<w.heap.size):
  Calls prog 88 #[.pointer (some ⟨pb,0,none⟩),.int .u32 id] w λe w'=>e=.returned (.tuple #[.int .i64 x,.bool q])/\R w':=by
 have HV:=Hd hc;unfold repV4 at q1;clear hc
 go_enter_defers func88,ntmps88
 go_wp2_with fail
 refine HV.out.mono ?_;clear HV;rintro e w1⟨rfl,h1⟩;have H1:=Hd h1;clear h1;go_wp2;refine leaves_cons (f:=105) (args:=#[]) (by simp) (by simp[go_sem]) ?_;refine(ask_idle _).mono ?_;rintro e u' w''⟨rfl,rfl,rfl⟩;simp[Leaves,settle,results,Tryz.results88,go_sem];exact H1.out
theorem clo4(b:Nat):Clo (repV4 b) b 135 133 137 139 136 where
 p1:=λh q2 q4=>fv4_p1 h q2 q4
 acc:=λh q1 q2 q3 q4 hg=>by
  rcases hg with rfl|rfl|rfl
  .exact fv4_p2 h q1 q3 q2 q4
  .exact fv4_e1 h q1 q3 q2 q4
  .exact fv4_t1 h q1 q3 q2 q4
 setT:=λh q1 q3 hg=>by
  rcases hg with rfl|rfl
  .exact fv4_p3 h q1 q3
  .exact fv4_u1 h q1 q3
 setF:=λh q1 q3=>fv4_t2 h q1 q3
 rem:=λh q1 q3 hg=>by
  rcases hg with rfl|rfl
  .exact fv4_v1 h q1 q3
  .exact fv4_r1 h q1 q3
 ask:=λh q1 q2=>fv4_ask h q1 q2
def repV6(b:Nat):Value:=.iface 89 (.pointer (some ⟨b,0,none⟩))
theorem fv6_p1{R:World->Prop}{w:World}{b id c2:Nat}(hc:Calls prog 174 #[.pointer (some ⟨b,0,none⟩),.int .u32 id] w (λe w'=>e=.returned (.tuple #[])/\R w'))(q2:w.cell? ⟨c2,0,none⟩=some (.int .u32 id))(q4:c2<w.heap.size):Calls prog 67 #[repV6 b,.pointer (some ⟨c2,0,none⟩)] w λe w'=>e=.returned (.tuple #[])/\R w':=by
 have HM:=Hd hc;unfold repV6;clear hc;go_enter func67,ntmps67
 go_wp2_with fail
 refine HM.out.mono ?_;clear HM;rintro e w1⟨rfl,h1⟩;have H1:=Hd h1;clear h1;go_wp2;go_returns;exact⟨rfl,H1.out⟩
theorem fv6_p2{R:World->Prop}{w:World}{b k id c1 c2:Nat}(hc:Calls prog 172 #[.pointer (some ⟨b,0,none⟩),.int .i64 k,.int .u32 id] w (λe w'=>e=.returned (.tuple #[])/\R w'))(q1:w.cell? ⟨c1,0,none⟩=some (.int .i64 k))(q3:c1<w.heap.size)(q2:w.cell? ⟨c2,0,none⟩=some (.int .u32 id))(q4:c2<w.heap.size):Calls prog 70 #[repV6 b,.pointer (some ⟨c1,0,none⟩),.pointer (some ⟨c2,0,none⟩)] w λe w'=>e=.returned (.tuple #[])/\R w':=by
 have HM:=Hd hc;unfold repV6;clear hc;go_enter func70,ntmps70
 go_wp2_with fail
 refine HM.out.mono ?_;clear HM;rintro e w1⟨rfl,h1⟩;have H1:=Hd h1;clear h1;go_wp2;go_returns;exact⟨rfl,H1.out⟩
theorem fv6_e1{R:World->Prop}{w:World}{b k id c1 c2:Nat}(hc:Calls prog 172 #[.pointer (some ⟨b,0,none⟩),.int .i64 k,.int .u32 id] w (λe w'=>e=.returned (.tuple #[])/\R w'))(q1:w.cell? ⟨c1,0,none⟩=some (.int .i64 k))(q3:c1<w.heap.size)(q2:w.cell? ⟨c2,0,none⟩=some (.int .u32 id))(q4:c2<w.heap.size):Calls prog 75 #[repV6 b,.pointer (some ⟨c1,0,none⟩),.pointer (some ⟨c2,0,none⟩)] w λe w'=>e=.returned (.tuple #[])/\R w':=by
 have HM:=Hd hc;unfold repV6;clear hc;go_enter func75,ntmps75
 go_wp2_with fail
 refine HM.out.mono ?_;clear HM;rintro e w1⟨rfl,h1⟩;have H1:=Hd h1;clear h1;go_wp2;go_returns;exact⟨rfl,H1.out⟩
theorem fv6_t1{R:World->Prop}{w:World}{b k id c1 c2:Nat}(hc:Calls prog 172 #[.pointer (some ⟨b,0,none⟩),.int .i64 k,.int .u32 id] w (λe w'=>e=.returned (.tuple #[])/\R w'))(q1:w.cell? ⟨c1,0,none⟩=some (.int .i64 k))(q3:c1<w.heap.size)(q2:w.cell? ⟨c2,0,none⟩=some (.int .u32 id))(q4:c2<w.heap.size):Calls prog 78 #[repV6 b,.pointer (some ⟨c1,0,none⟩),.pointer (some ⟨c2,0,none⟩)] w λe w'=>e=.returned (.tuple #[])/\R w':=by
 have HM:=Hd hc;unfold repV6;clear hc;go_enter func78,ntmps78
 go_wp2_with fail
 refine HM.out.mono ?_;clear HM;rintro e w1⟨rfl,h1⟩;have H1:=Hd h1;clear h1;go_wp2;go_returns;exact⟨rfl,H1.out⟩
theorem fv6_p3{R:World->Prop}{w:World}{b k c1:Nat}(hc:Calls prog 176 #[.pointer (some ⟨b,0,none⟩),.int .i64 k,.bool true] w (λe w'=>e=.returned (.tuple #[])/\R w'))(q1:w.cell? ⟨c1,0,none⟩=some (.int .i64 k))(q3:c1<w.heap.size):Calls prog 71 #[repV6 b,.pointer (some ⟨c1,0,none⟩)] w λe w'=>e=.returned (.tuple #[])/\R w':=by
 have HM:=Hd hc;unfold repV6;clear hc;go_enter func71,ntmps71
 go_wp2_with fail
 refine HM.out.mono ?_;clear HM;rintro e w1⟨rfl,h1⟩;have H1:=Hd h1;clear h1;go_wp2;go_returns;exact⟨rfl,H1.out⟩
theorem fv6_u1{R:World->Prop}{w:World}{b k c1:Nat}(hc:Calls prog 176 #[.pointer (some ⟨b,0,none⟩),.int .i64 k,.bool true] w (λe w'=>e=.returned (.tuple #[])/\R w'))(q1:w.cell? ⟨c1,0,none⟩=some (.int .i64 k))(q3:c1<w.heap.size):Calls prog 49 #[repV6 b,.pointer (some ⟨c1,0,none⟩)] w λe w'=>e=.returned (.tuple #[])/\R w':=by
 have HM:=Hd hc;unfold repV6;clear hc;go_enter func49,ntmps49
 go_wp2_with fail
 refine HM.out.mono ?_;clear HM;rintro e w1⟨rfl,h1⟩;have H1:=Hd h1;clear h1;go_wp2;go_returns;exact⟨rfl,H1.out⟩
theorem fv6_t2{R:World->Prop}{w:World}{b k c1:Nat}(hc:Calls prog 176 #[.pointer (some ⟨b,0,none⟩),.int .i64 k,.bool false] w (λe w'=>e=.returned (.tuple #[])/\R w'))(q1:w.cell? ⟨c1,0,none⟩=some (.int .i64 k))(q3:c1<w.heap.size):Calls prog 79 #[repV6 b,.pointer (some ⟨c1,0,none⟩)] w λe w'=>e=.returned (.tuple #[])/\R w':=by
 have HM:=Hd hc;unfold repV6;clear hc;go_enter func79,ntmps79
 go_wp2_with fail
 refine HM.out.mono ?_;clear HM;rintro e w1⟨rfl,h1⟩;have H1:=Hd h1;clear h1;go_wp2;go_returns;exact⟨rfl,H1.out⟩
theorem fv6_v1{R:World->Prop}{w:World}{b k c1:Nat}(hc:Calls prog 175 #[.pointer (some ⟨b,0,none⟩),.int .i64 k] w (λe w'=>e=.returned (.tuple #[])/\R w'))(q1:w.cell? ⟨c1,0,none⟩=some (.int .i64 k))(q3:c1<w.heap.size):Calls prog 89 #[repV6 b,.pointer (some ⟨c1,0,none⟩)] w λe w'=>e=.returned (.tuple #[])/\R w':=by
 have HM:=Hd hc;unfold repV6;clear hc;go_enter func89,ntmps89
 go_wp2_with fail
 refine HM.out.mono ?_;clear HM;rintro e w1⟨rfl,h1⟩;have H1:=Hd h1;clear h1;go_wp2;go_returns;exact⟨rfl,H1.out⟩
theorem fv6_r1{R:World->Prop}{w:World}{b k c1:Nat}(hc:Calls prog 175 #[.pointer (some ⟨b,0,none⟩),.int .i64 k] w (λe w'=>e=.returned (.tuple #[])/\R w'))(q1:w.cell? ⟨c1,0,none⟩=some (.int .i64 k))(q3:c1<w.heap.size):Calls prog 80 #[repV6 b,.pointer (some ⟨c1,0,none⟩)] w λe w'=>e=.returned (.tuple #[])/\R w':=by
 have HM:=Hd hc;unfold repV6;clear hc;go_enter func80,ntmps80
 go_wp2_with fail
 refine HM.out.mono ?_;clear HM;rintro e w1⟨rfl,h1⟩;have H1:=Hd h1;clear h1;go_wp2;go_returns;exact⟨rfl,H1.out⟩
theorem fv6_ask{R:World->Prop}{w:World}{b pb id:Nat}{x:Int}{q:Bool}(hc:Calls prog 178 #[.pointer (some ⟨b,0,none⟩),.int .u32 id] w (λe w'=>e=.returned (.tuple #[.int .i64 x,.bool q])/\R w'))(q1:w.cell? ⟨pb,1,none⟩=some (repV6 b))(q2:pb<w.heap.size):
  Calls prog 88 #[.pointer (some ⟨pb,0,none⟩),.int .u32 id] w λe w'=>e=.returned (.tuple #[.int .i64 x,.bool q])/\R w':=by
 have HV:=Hd hc;unfold repV6 at q1;clear hc
 go_enter_defers func88,ntmps88
 go_wp2_with fail
 refine HV.out.mono ?_;clear HV;rintro e w1⟨rfl,h1⟩;have H1:=Hd h1;clear h1;go_wp2;refine leaves_cons (f:=105) (args:=#[]) (by simp) (by simp[go_sem]) ?_;refine(ask_idle _).mono ?_;rintro e u' w''⟨rfl,rfl,rfl⟩;simp[Leaves,settle,results,Tryz.results88,go_sem];exact H1.out
theorem clo6(b:Nat):Clo (repV6 b) b 174 172 176 178 175 where
 p1:=λh q2 q4=>fv6_p1 h q2 q4
 acc:=λh q1 q2 q3 q4 hg=>by
  rcases hg with rfl|rfl|rfl
  .exact fv6_p2 h q1 q3 q2 q4
  .exact fv6_e1 h q1 q3 q2 q4
  .exact fv6_t1 h q1 q3 q2 q4
 setT:=λh q1 q3 hg=>by
  rcases hg with rfl|rfl
  .exact fv6_p3 h q1 q3
  .exact fv6_u1 h q1 q3
 setF:=λh q1 q3=>fv6_t2 h q1 q3
 rem:=λh q1 q3 hg=>by
  rcases hg with rfl|rfl
  .exact fv6_v1 h q1 q3
  .exact fv6_r1 h q1 q3
 ask:=λh q1 q2=>fv6_ask h q1 q2
def repV7(b:Nat):Value:=.iface 92 (.pointer (some ⟨b,0,none⟩))
theorem fv7_p1{R:World->Prop}{w:World}{b id c2:Nat}(hc:Calls prog 189 #[.pointer (some ⟨b,0,none⟩),.int .u32 id] w (λe w'=>e=.returned (.tuple #[])/\R w'))(q2:w.cell? ⟨c2,0,none⟩=some (.int .u32 id))(q4:c2<w.heap.size):Calls prog 67 #[repV7 b,.pointer (some ⟨c2,0,none⟩)] w λe w'=>e=.returned (.tuple #[])/\R w':=by
 have HM:=Hd hc;unfold repV7;clear hc;go_enter func67,ntmps67
 go_wp2_with fail
 refine HM.out.mono ?_;clear HM;rintro e w1⟨rfl,h1⟩;have H1:=Hd h1;clear h1;go_wp2;go_returns;exact⟨rfl,H1.out⟩
theorem fv7_p2{R:World->Prop}{w:World}{b k id c1 c2:Nat}(hc:Calls prog 187 #[.pointer (some ⟨b,0,none⟩),.int .i64 k,.int .u32 id] w (λe w'=>e=.returned (.tuple #[])/\R w'))(q1:w.cell? ⟨c1,0,none⟩=some (.int .i64 k))(q3:c1<w.heap.size)(q2:w.cell? ⟨c2,0,none⟩=some (.int .u32 id))(q4:c2<w.heap.size):Calls prog 70 #[repV7 b,.pointer (some ⟨c1,0,none⟩),.pointer (some ⟨c2,0,none⟩)] w λe w'=>e=.returned (.tuple #[])/\R w':=by
 have HM:=Hd hc;unfold repV7;clear hc;go_enter func70,ntmps70
 go_wp2_with fail
 refine HM.out.mono ?_;clear HM;rintro e w1⟨rfl,h1⟩;have H1:=Hd h1;clear h1;go_wp2;go_returns;exact⟨rfl,H1.out⟩
theorem fv7_e1{R:World->Prop}{w:World}{b k id c1 c2:Nat}(hc:Calls prog 187 #[.pointer (some ⟨b,0,none⟩),.int .i64 k,.int .u32 id] w (λe w'=>e=.returned (.tuple #[])/\R w'))(q1:w.cell? ⟨c1,0,none⟩=some (.int .i64 k))(q3:c1<w.heap.size)(q2:w.cell? ⟨c2,0,none⟩=some (.int .u32 id))(q4:c2<w.heap.size):Calls prog 75 #[repV7 b,.pointer (some ⟨c1,0,none⟩),.pointer (some ⟨c2,0,none⟩)] w λe w'=>e=.returned (.tuple #[])/\R w':=by
 have HM:=Hd hc;unfold repV7;clear hc;go_enter func75,ntmps75
 go_wp2_with fail
 refine HM.out.mono ?_;clear HM;rintro e w1⟨rfl,h1⟩;have H1:=Hd h1;clear h1;go_wp2;go_returns;exact⟨rfl,H1.out⟩
theorem fv7_t1{R:World->Prop}{w:World}{b k id c1 c2:Nat}(hc:Calls prog 187 #[.pointer (some ⟨b,0,none⟩),.int .i64 k,.int .u32 id] w (λe w'=>e=.returned (.tuple #[])/\R w'))(q1:w.cell? ⟨c1,0,none⟩=some (.int .i64 k))(q3:c1<w.heap.size)(q2:w.cell? ⟨c2,0,none⟩=some (.int .u32 id))(q4:c2<w.heap.size):Calls prog 78 #[repV7 b,.pointer (some ⟨c1,0,none⟩),.pointer (some ⟨c2,0,none⟩)] w λe w'=>e=.returned (.tuple #[])/\R w':=by
 have HM:=Hd hc;unfold repV7;clear hc;go_enter func78,ntmps78
 go_wp2_with fail
 refine HM.out.mono ?_;clear HM;rintro e w1⟨rfl,h1⟩;have H1:=Hd h1;clear h1;go_wp2;go_returns;exact⟨rfl,H1.out⟩
theorem fv7_p3{R:World->Prop}{w:World}{b k c1:Nat}(hc:Calls prog 191 #[.pointer (some ⟨b,0,none⟩),.int .i64 k,.bool true] w (λe w'=>e=.returned (.tuple #[])/\R w'))(q1:w.cell? ⟨c1,0,none⟩=some (.int .i64 k))(q3:c1<w.heap.size):Calls prog 71 #[repV7 b,.pointer (some ⟨c1,0,none⟩)] w λe w'=>e=.returned (.tuple #[])/\R w':=by
 have HM:=Hd hc;unfold repV7;clear hc;go_enter func71,ntmps71
 go_wp2_with fail
 refine HM.out.mono ?_;clear HM;rintro e w1⟨rfl,h1⟩;have H1:=Hd h1;clear h1;go_wp2;go_returns;exact⟨rfl,H1.out⟩
theorem fv7_u1{R:World->Prop}{w:World}{b k c1:Nat}(hc:Calls prog 191 #[.pointer (some ⟨b,0,none⟩),.int .i64 k,.bool true] w (λe w'=>e=.returned (.tuple #[])/\R w'))(q1:w.cell? ⟨c1,0,none⟩=some (.int .i64 k))(q3:c1<w.heap.size):Calls prog 49 #[repV7 b,.pointer (some ⟨c1,0,none⟩)] w λe w'=>e=.returned (.tuple #[])/\R w':=by
 have HM:=Hd hc;unfold repV7;clear hc;go_enter func49,ntmps49
 go_wp2_with fail
 refine HM.out.mono ?_;clear HM;rintro e w1⟨rfl,h1⟩;have H1:=Hd h1;clear h1;go_wp2;go_returns;exact⟨rfl,H1.out⟩
theorem fv7_t2{R:World->Prop}{w:World}{b k c1:Nat}(hc:Calls prog 191 #[.pointer (some ⟨b,0,none⟩),.int .i64 k,.bool false] w (λe w'=>e=.returned (.tuple #[])/\R w'))(q1:w.cell? ⟨c1,0,none⟩=some (.int .i64 k))(q3:c1<w.heap.size):Calls prog 79 #[repV7 b,.pointer (some ⟨c1,0,none⟩)] w λe w'=>e=.returned (.tuple #[])/\R w':=by
 have HM:=Hd hc;unfold repV7;clear hc;go_enter func79,ntmps79
 go_wp2_with fail
 refine HM.out.mono ?_;clear HM;rintro e w1⟨rfl,h1⟩;have H1:=Hd h1;clear h1;go_wp2;go_returns;exact⟨rfl,H1.out⟩
theorem fv7_v1{R:World->Prop}{w:World}{b k c1:Nat}(hc:Calls prog 190 #[.pointer (some ⟨b,0,none⟩),.int .i64 k] w (λe w'=>e=.returned (.tuple #[])/\R w'))(q1:w.cell? ⟨c1,0,none⟩=some (.int .i64 k))(q3:c1<w.heap.size):Calls prog 89 #[repV7 b,.pointer (some ⟨c1,0,none⟩)] w λe w'=>e=.returned (.tuple #[])/\R w':=by
 have HM:=Hd hc;unfold repV7;clear hc;go_enter func89,ntmps89
 go_wp2_with fail
 refine HM.out.mono ?_;clear HM;rintro e w1⟨rfl,h1⟩;have H1:=Hd h1;clear h1;go_wp2;go_returns;exact⟨rfl,H1.out⟩
theorem fv7_r1{R:World->Prop}{w:World}{b k c1:Nat}(hc:Calls prog 190 #[.pointer (some ⟨b,0,none⟩),.int .i64 k] w (λe w'=>e=.returned (.tuple #[])/\R w'))(q1:w.cell? ⟨c1,0,none⟩=some (.int .i64 k))(q3:c1<w.heap.size):Calls prog 80 #[repV7 b,.pointer (some ⟨c1,0,none⟩)] w λe w'=>e=.returned (.tuple #[])/\R w':=by
 have HM:=Hd hc;unfold repV7;clear hc;go_enter func80,ntmps80
 go_wp2_with fail
 refine HM.out.mono ?_;clear HM;rintro e w1⟨rfl,h1⟩;have H1:=Hd h1;clear h1;go_wp2;go_returns;exact⟨rfl,H1.out⟩
theorem fv7_ask{R:World->Prop}{w:World}{b pb id:Nat}{x:Int}{q:Bool}(hc:Calls prog 193 #[.pointer (some ⟨b,0,none⟩),.int .u32 id] w (λe w'=>e=.returned (.tuple #[.int .i64 x,.bool q])/\R w'))(q1:w.cell? ⟨pb,1,none⟩=some (repV7 b))(q2:pb<w.heap.size):
  Calls prog 88 #[.pointer (some ⟨pb,0,none⟩),.int .u32 id] w λe w'=>e=.returned (.tuple #[.int .i64 x,.bool q])/\R w':=by
 have HV:=Hd hc;unfold repV7 at q1;clear hc
 go_enter_defers func88,ntmps88
 go_wp2_with fail
 refine HV.out.mono ?_;clear HV;rintro e w1⟨rfl,h1⟩;have H1:=Hd h1;clear h1;go_wp2;refine leaves_cons (f:=105) (args:=#[]) (by simp) (by simp[go_sem]) ?_;refine(ask_idle _).mono ?_;rintro e u' w''⟨rfl,rfl,rfl⟩;simp[Leaves,settle,results,Tryz.results88,go_sem];exact H1.out
theorem clo7(b:Nat):Clo (repV7 b) b 189 187 191 193 190 where
 p1:=λh q2 q4=>fv7_p1 h q2 q4
 acc:=λh q1 q2 q3 q4 hg=>by
  rcases hg with rfl|rfl|rfl
  .exact fv7_p2 h q1 q3 q2 q4
  .exact fv7_e1 h q1 q3 q2 q4
  .exact fv7_t1 h q1 q3 q2 q4
 setT:=λh q1 q3 hg=>by
  rcases hg with rfl|rfl
  .exact fv7_p3 h q1 q3
  .exact fv7_u1 h q1 q3
 setF:=λh q1 q3=>fv7_t2 h q1 q3
 rem:=λh q1 q3 hg=>by
  rcases hg with rfl|rfl
  .exact fv7_v1 h q1 q3
  .exact fv7_r1 h q1 q3
 ask:=λh q1 q2=>fv7_ask h q1 q2
def repV8(b:Nat):Value:=.iface 95 (.pointer (some ⟨b,0,none⟩))
theorem fv8_p1{R:World->Prop}{w:World}{b id c2:Nat}(hc:Calls prog 207 #[.pointer (some ⟨b,0,none⟩),.int .u32 id] w (λe w'=>e=.returned (.tuple #[])/\R w'))(q2:w.cell? ⟨c2,0,none⟩=some (.int .u32 id))(q4:c2<w.heap.size):Calls prog 67 #[repV8 b,.pointer (some ⟨c2,0,none⟩)] w λe w'=>e=.returned (.tuple #[])/\R w':=by
 have HM:=Hd hc;unfold repV8;clear hc;go_enter func67,ntmps67
 go_wp2_with fail
 refine HM.out.mono ?_;clear HM;rintro e w1⟨rfl,h1⟩;have H1:=Hd h1;clear h1;go_wp2;go_returns;exact⟨rfl,H1.out⟩
theorem fv8_p2{R:World->Prop}{w:World}{b k id c1 c2:Nat}(hc:Calls prog 205 #[.pointer (some ⟨b,0,none⟩),.int .i64 k,.int .u32 id] w (λe w'=>e=.returned (.tuple #[])/\R w'))(q1:w.cell? ⟨c1,0,none⟩=some (.int .i64 k))(q3:c1<w.heap.size)(q2:w.cell? ⟨c2,0,none⟩=some (.int .u32 id))(q4:c2<w.heap.size):Calls prog 70 #[repV8 b,.pointer (some ⟨c1,0,none⟩),.pointer (some ⟨c2,0,none⟩)] w λe w'=>e=.returned (.tuple #[])/\R w':=by
 have HM:=Hd hc;unfold repV8;clear hc;go_enter func70,ntmps70
 go_wp2_with fail
 refine HM.out.mono ?_;clear HM;rintro e w1⟨rfl,h1⟩;have H1:=Hd h1;clear h1;go_wp2;go_returns;exact⟨rfl,H1.out⟩
theorem fv8_e1{R:World->Prop}{w:World}{b k id c1 c2:Nat}(hc:Calls prog 205 #[.pointer (some ⟨b,0,none⟩),.int .i64 k,.int .u32 id] w (λe w'=>e=.returned (.tuple #[])/\R w'))(q1:w.cell? ⟨c1,0,none⟩=some (.int .i64 k))(q3:c1<w.heap.size)(q2:w.cell? ⟨c2,0,none⟩=some (.int .u32 id))(q4:c2<w.heap.size):Calls prog 75 #[repV8 b,.pointer (some ⟨c1,0,none⟩),.pointer (some ⟨c2,0,none⟩)] w λe w'=>e=.returned (.tuple #[])/\R w':=by
 have HM:=Hd hc;unfold repV8;clear hc;go_enter func75,ntmps75
 go_wp2_with fail
 refine HM.out.mono ?_;clear HM;rintro e w1⟨rfl,h1⟩;have H1:=Hd h1;clear h1;go_wp2;go_returns;exact⟨rfl,H1.out⟩
theorem fv8_t1{R:World->Prop}{w:World}{b k id c1 c2:Nat}(hc:Calls prog 205 #[.pointer (some ⟨b,0,none⟩),.int .i64 k,.int .u32 id] w (λe w'=>e=.returned (.tuple #[])/\R w'))(q1:w.cell? ⟨c1,0,none⟩=some (.int .i64 k))(q3:c1<w.heap.size)(q2:w.cell? ⟨c2,0,none⟩=some (.int .u32 id))(q4:c2<w.heap.size):Calls prog 78 #[repV8 b,.pointer (some ⟨c1,0,none⟩),.pointer (some ⟨c2,0,none⟩)] w λe w'=>e=.returned (.tuple #[])/\R w':=by
 have HM:=Hd hc;unfold repV8;clear hc;go_enter func78,ntmps78
 go_wp2_with fail
 refine HM.out.mono ?_;clear HM;rintro e w1⟨rfl,h1⟩;have H1:=Hd h1;clear h1;go_wp2;go_returns;exact⟨rfl,H1.out⟩
theorem fv8_p3{R:World->Prop}{w:World}{b k c1:Nat}(hc:Calls prog 209 #[.pointer (some ⟨b,0,none⟩),.int .i64 k,.bool true] w (λe w'=>e=.returned (.tuple #[])/\R w'))(q1:w.cell? ⟨c1,0,none⟩=some (.int .i64 k))(q3:c1<w.heap.size):Calls prog 71 #[repV8 b,.pointer (some ⟨c1,0,none⟩)] w λe w'=>e=.returned (.tuple #[])/\R w':=by
 have HM:=Hd hc;unfold repV8;clear hc;go_enter func71,ntmps71
 go_wp2_with fail
 refine HM.out.mono ?_;clear HM;rintro e w1⟨rfl,h1⟩;have H1:=Hd h1;clear h1;go_wp2;go_returns;exact⟨rfl,H1.out⟩
theorem fv8_u1{R:World->Prop}{w:World}{b k c1:Nat}(hc:Calls prog 209 #[.pointer (some ⟨b,0,none⟩),.int .i64 k,.bool true] w (λe w'=>e=.returned (.tuple #[])/\R w'))(q1:w.cell? ⟨c1,0,none⟩=some (.int .i64 k))(q3:c1<w.heap.size):Calls prog 49 #[repV8 b,.pointer (some ⟨c1,0,none⟩)] w λe w'=>e=.returned (.tuple #[])/\R w':=by
 have HM:=Hd hc;unfold repV8;clear hc;go_enter func49,ntmps49
 go_wp2_with fail
 refine HM.out.mono ?_;clear HM;rintro e w1⟨rfl,h1⟩;have H1:=Hd h1;clear h1;go_wp2;go_returns;exact⟨rfl,H1.out⟩
theorem fv8_t2{R:World->Prop}{w:World}{b k c1:Nat}(hc:Calls prog 209 #[.pointer (some ⟨b,0,none⟩),.int .i64 k,.bool false] w (λe w'=>e=.returned (.tuple #[])/\R w'))(q1:w.cell? ⟨c1,0,none⟩=some (.int .i64 k))(q3:c1<w.heap.size):Calls prog 79 #[repV8 b,.pointer (some ⟨c1,0,none⟩)] w λe w'=>e=.returned (.tuple #[])/\R w':=by
 have HM:=Hd hc;unfold repV8;clear hc;go_enter func79,ntmps79
 go_wp2_with fail
 refine HM.out.mono ?_;clear HM;rintro e w1⟨rfl,h1⟩;have H1:=Hd h1;clear h1;go_wp2;go_returns;exact⟨rfl,H1.out⟩
theorem fv8_v1{R:World->Prop}{w:World}{b k c1:Nat}(hc:Calls prog 208 #[.pointer (some ⟨b,0,none⟩),.int .i64 k] w (λe w'=>e=.returned (.tuple #[])/\R w'))(q1:w.cell? ⟨c1,0,none⟩=some (.int .i64 k))(q3:c1<w.heap.size):Calls prog 89 #[repV8 b,.pointer (some ⟨c1,0,none⟩)] w λe w'=>e=.returned (.tuple #[])/\R w':=by
 have HM:=Hd hc;unfold repV8;clear hc;go_enter func89,ntmps89
 go_wp2_with fail
 refine HM.out.mono ?_;clear HM;rintro e w1⟨rfl,h1⟩;have H1:=Hd h1;clear h1;go_wp2;go_returns;exact⟨rfl,H1.out⟩
theorem fv8_r1{R:World->Prop}{w:World}{b k c1:Nat}(hc:Calls prog 208 #[.pointer (some ⟨b,0,none⟩),.int .i64 k] w (λe w'=>e=.returned (.tuple #[])/\R w'))(q1:w.cell? ⟨c1,0,none⟩=some (.int .i64 k))(q3:c1<w.heap.size):Calls prog 80 #[repV8 b,.pointer (some ⟨c1,0,none⟩)] w λe w'=>e=.returned (.tuple #[])/\R w':=by
 have HM:=Hd hc;unfold repV8;clear hc;go_enter func80,ntmps80
 go_wp2_with fail
 refine HM.out.mono ?_;clear HM;rintro e w1⟨rfl,h1⟩;have H1:=Hd h1;clear h1;go_wp2;go_returns;exact⟨rfl,H1.out⟩
theorem fv8_ask{R:World->Prop}{w:World}{b pb id:Nat}{x:Int}{q:Bool}(hc:Calls prog 211 #[.pointer (some ⟨b,0,none⟩),.int .u32 id] w (λe w'=>e=.returned (.tuple #[.int .i64 x,.bool q])/\R w'))(q1:w.cell? ⟨pb,1,none⟩=some (repV8 b))(q2:pb<w.heap.size):
  Calls prog 88 #[.pointer (some ⟨pb,0,none⟩),.int .u32 id] w λe w'=>e=.returned (.tuple #[.int .i64 x,.bool q])/\R w':=by
 have HV:=Hd hc;unfold repV8 at q1;clear hc
 go_enter_defers func88,ntmps88
 go_wp2_with fail
 refine HV.out.mono ?_;clear HV;rintro e w1⟨rfl,h1⟩;have H1:=Hd h1;clear h1;go_wp2;refine leaves_cons (f:=105) (args:=#[]) (by simp) (by simp[go_sem]) ?_;refine(ask_idle _).mono ?_;rintro e u' w''⟨rfl,rfl,rfl⟩;simp[Leaves,settle,results,Tryz.results88,go_sem];exact H1.out
theorem clo8(b:Nat):Clo (repV8 b) b 207 205 209 211 208 where
 p1:=λh q2 q4=>fv8_p1 h q2 q4
 acc:=λh q1 q2 q3 q4 hg=>by
  rcases hg with rfl|rfl|rfl
  .exact fv8_p2 h q1 q3 q2 q4
  .exact fv8_e1 h q1 q3 q2 q4
  .exact fv8_t1 h q1 q3 q2 q4
 setT:=λh q1 q3 hg=>by
  rcases hg with rfl|rfl
  .exact fv8_p3 h q1 q3
  .exact fv8_u1 h q1 q3
 setF:=λh q1 q3=>fv8_t2 h q1 q3
 rem:=λh q1 q3 hg=>by
  rcases hg with rfl|rfl
  .exact fv8_v1 h q1 q3
  .exact fv8_r1 h q1 q3
 ask:=λh q1 q2=>fv8_ask h q1 q2
def repV5(b:Nat):Value:=.iface 86 (.pointer (some ⟨b,0,none⟩))
theorem fv5_p1{R:World->Prop}{w:World}{b id c2:Nat}(hc:Calls prog 146 #[.pointer (some ⟨b,0,none⟩),.int .u32 id] w (λe w'=>e=.returned (.tuple #[])/\R w'))(q2:w.cell? ⟨c2,0,none⟩=some (.int .u32 id))(q4:c2<w.heap.size):Calls prog 67 #[repV5 b,.pointer (some ⟨c2,0,none⟩)] w λe w'=>e=.returned (.tuple #[])/\R w':=by
 have HM:=Hd hc;unfold repV5;clear hc;go_enter func67,ntmps67
 go_wp2_with fail
 refine HM.out.mono ?_;clear HM;rintro e w1⟨rfl,h1⟩;have H1:=Hd h1;clear h1;go_wp2;go_returns;exact⟨rfl,H1.out⟩
theorem fv5_p2{R:World->Prop}{w:World}{b k id c1 c2:Nat}(hc:Calls prog 144 #[.pointer (some ⟨b,0,none⟩),.int .i64 k,.int .u32 id] w (λe w'=>e=.returned (.tuple #[])/\R w'))(q1:w.cell? ⟨c1,0,none⟩=some (.int .i64 k))(q3:c1<w.heap.size)(q2:w.cell? ⟨c2,0,none⟩=some (.int .u32 id))(q4:c2<w.heap.size):Calls prog 70 #[repV5 b,.pointer (some ⟨c1,0,none⟩),.pointer (some ⟨c2,0,none⟩)] w λe w'=>e=.returned (.tuple #[])/\R w':=by
 have HM:=Hd hc;unfold repV5;clear hc;go_enter func70,ntmps70
 go_wp2_with fail
 refine HM.out.mono ?_;clear HM;rintro e w1⟨rfl,h1⟩;have H1:=Hd h1;clear h1;go_wp2;go_returns;exact⟨rfl,H1.out⟩
theorem fv5_e1{R:World->Prop}{w:World}{b k id c1 c2:Nat}(hc:Calls prog 144 #[.pointer (some ⟨b,0,none⟩),.int .i64 k,.int .u32 id] w (λe w'=>e=.returned (.tuple #[])/\R w'))(q1:w.cell? ⟨c1,0,none⟩=some (.int .i64 k))(q3:c1<w.heap.size)(q2:w.cell? ⟨c2,0,none⟩=some (.int .u32 id))(q4:c2<w.heap.size):Calls prog 75 #[repV5 b,.pointer (some ⟨c1,0,none⟩),.pointer (some ⟨c2,0,none⟩)] w λe w'=>e=.returned (.tuple #[])/\R w':=by
 have HM:=Hd hc;unfold repV5;clear hc;go_enter func75,ntmps75
 go_wp2_with fail
 refine HM.out.mono ?_;clear HM;rintro e w1⟨rfl,h1⟩;have H1:=Hd h1;clear h1;go_wp2;go_returns;exact⟨rfl,H1.out⟩
theorem fv5_t1{R:World->Prop}{w:World}{b k id c1 c2:Nat}(hc:Calls prog 144 #[.pointer (some ⟨b,0,none⟩),.int .i64 k,.int .u32 id] w (λe w'=>e=.returned (.tuple #[])/\R w'))(q1:w.cell? ⟨c1,0,none⟩=some (.int .i64 k))(q3:c1<w.heap.size)(q2:w.cell? ⟨c2,0,none⟩=some (.int .u32 id))(q4:c2<w.heap.size):Calls prog 78 #[repV5 b,.pointer (some ⟨c1,0,none⟩),.pointer (some ⟨c2,0,none⟩)] w λe w'=>e=.returned (.tuple #[])/\R w':=by
 have HM:=Hd hc;unfold repV5;clear hc;go_enter func78,ntmps78
 go_wp2_with fail
 refine HM.out.mono ?_;clear HM;rintro e w1⟨rfl,h1⟩;have H1:=Hd h1;clear h1;go_wp2;go_returns;exact⟨rfl,H1.out⟩
theorem fv5_p3{R:World->Prop}{w:World}{b k c1:Nat}(hc:Calls prog 148 #[.pointer (some ⟨b,0,none⟩),.int .i64 k,.bool true] w (λe w'=>e=.returned (.tuple #[])/\R w'))(q1:w.cell? ⟨c1,0,none⟩=some (.int .i64 k))(q3:c1<w.heap.size):Calls prog 71 #[repV5 b,.pointer (some ⟨c1,0,none⟩)] w λe w'=>e=.returned (.tuple #[])/\R w':=by
 have HM:=Hd hc;unfold repV5;clear hc;go_enter func71,ntmps71
 go_wp2_with fail
 refine HM.out.mono ?_;clear HM;rintro e w1⟨rfl,h1⟩;have H1:=Hd h1;clear h1;go_wp2;go_returns;exact⟨rfl,H1.out⟩
theorem fv5_u1{R:World->Prop}{w:World}{b k c1:Nat}(hc:Calls prog 148 #[.pointer (some ⟨b,0,none⟩),.int .i64 k,.bool true] w (λe w'=>e=.returned (.tuple #[])/\R w'))(q1:w.cell? ⟨c1,0,none⟩=some (.int .i64 k))(q3:c1<w.heap.size):Calls prog 49 #[repV5 b,.pointer (some ⟨c1,0,none⟩)] w λe w'=>e=.returned (.tuple #[])/\R w':=by
 have HM:=Hd hc;unfold repV5;clear hc;go_enter func49,ntmps49
 go_wp2_with fail
 refine HM.out.mono ?_;clear HM;rintro e w1⟨rfl,h1⟩;have H1:=Hd h1;clear h1;go_wp2;go_returns;exact⟨rfl,H1.out⟩
theorem fv5_t2{R:World->Prop}{w:World}{b k c1:Nat}(hc:Calls prog 148 #[.pointer (some ⟨b,0,none⟩),.int .i64 k,.bool false] w (λe w'=>e=.returned (.tuple #[])/\R w'))(q1:w.cell? ⟨c1,0,none⟩=some (.int .i64 k))(q3:c1<w.heap.size):Calls prog 79 #[repV5 b,.pointer (some ⟨c1,0,none⟩)] w λe w'=>e=.returned (.tuple #[])/\R w':=by
 have HM:=Hd hc;unfold repV5;clear hc;go_enter func79,ntmps79
 go_wp2_with fail
 refine HM.out.mono ?_;clear HM;rintro e w1⟨rfl,h1⟩;have H1:=Hd h1;clear h1;go_wp2;go_returns;exact⟨rfl,H1.out⟩
theorem fv5_v1{R:World->Prop}{w:World}{b k c1:Nat}(hc:Calls prog 147 #[.pointer (some ⟨b,0,none⟩),.int .i64 k] w (λe w'=>e=.returned (.tuple #[])/\R w'))(q1:w.cell? ⟨c1,0,none⟩=some (.int .i64 k))(q3:c1<w.heap.size):Calls prog 89 #[repV5 b,.pointer (some ⟨c1,0,none⟩)] w λe w'=>e=.returned (.tuple #[])/\R w':=by
 have HM:=Hd hc;unfold repV5;clear hc;go_enter func89,ntmps89
 go_wp2_with fail
 refine HM.out.mono ?_;clear HM;rintro e w1⟨rfl,h1⟩;have H1:=Hd h1;clear h1;go_wp2;go_returns;exact⟨rfl,H1.out⟩
theorem fv5_r1{R:World->Prop}{w:World}{b k c1:Nat}(hc:Calls prog 147 #[.pointer (some ⟨b,0,none⟩),.int .i64 k] w (λe w'=>e=.returned (.tuple #[])/\R w'))(q1:w.cell? ⟨c1,0,none⟩=some (.int .i64 k))(q3:c1<w.heap.size):Calls prog 80 #[repV5 b,.pointer (some ⟨c1,0,none⟩)] w λe w'=>e=.returned (.tuple #[])/\R w':=by
 have HM:=Hd hc;unfold repV5;clear hc;go_enter func80,ntmps80
 go_wp2_with fail
 refine HM.out.mono ?_;clear HM;rintro e w1⟨rfl,h1⟩;have H1:=Hd h1;clear h1;go_wp2;go_returns;exact⟨rfl,H1.out⟩
theorem fv5_ask{R:World->Prop}{w:World}{b pb id:Nat}{x:Int}{q:Bool}(hc:Calls prog 150 #[.pointer (some ⟨b,0,none⟩),.int .u32 id] w (λe w'=>e=.returned (.tuple #[.int .i64 x,.bool q])/\R w'))(q1:w.cell? ⟨pb,1,none⟩=some (repV5 b))(q2:pb<w.heap.size):
  Calls prog 88 #[.pointer (some ⟨pb,0,none⟩),.int .u32 id] w λe w'=>e=.returned (.tuple #[.int .i64 x,.bool q])/\R w':=by
 have HV:=Hd hc;unfold repV5 at q1;clear hc
 go_enter_defers func88,ntmps88
 go_wp2_with fail
 refine HV.out.mono ?_;clear HV;rintro e w1⟨rfl,h1⟩;have H1:=Hd h1;clear h1;go_wp2;refine leaves_cons (f:=105) (args:=#[]) (by simp) (by simp[go_sem]) ?_;refine(ask_idle _).mono ?_;rintro e u' w''⟨rfl,rfl,rfl⟩;simp[Leaves,settle,results,Tryz.results88,go_sem];exact H1.out
theorem clo5(b:Nat):Clo (repV5 b) b 146 144 148 150 147 where
 p1:=λh q2 q4=>fv5_p1 h q2 q4
 acc:=λh q1 q2 q3 q4 hg=>by
  rcases hg with rfl|rfl|rfl
  .exact fv5_p2 h q1 q3 q2 q4
  .exact fv5_e1 h q1 q3 q2 q4
  .exact fv5_t1 h q1 q3 q2 q4
 setT:=λh q1 q3 hg=>by
  rcases hg with rfl|rfl
  .exact fv5_p3 h q1 q3
  .exact fv5_u1 h q1 q3
 setF:=λh q1 q3=>fv5_t2 h q1 q3
 rem:=λh q1 q3 hg=>by
  rcases hg with rfl|rfl
  .exact fv5_v1 h q1 q3
  .exact fv5_r1 h q1 q3
 ask:=λh q1 q2=>fv5_ask h q1 q2
end
end Go.Proofs.YtpkbkhffglikhaaGreatDoor
