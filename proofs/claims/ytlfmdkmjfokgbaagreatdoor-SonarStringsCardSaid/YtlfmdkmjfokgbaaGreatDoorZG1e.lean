/-
  Go functions as Lean functions (written by tools/lift.py).
-/
import Derived.Test.YtlfmdkmjfokgbaaGreatDoorZEd
import Derived.Test.YtlfmdkmjfokgbaaGreatDoorZEg
import Derived.Test.YtlfmdkmjfokgbaaGreatDoorZZx
import Derived.Test.YtlfmdkmjfokgbaaGreatDoorZG1a
set_option linter.all false
namespace Go.Proofs.YtlfmdkmjfokgbaaGreatDoor
open Go Go.RowKit Cm
set_option maxRecDepth 100000
set_option maxHeartbeats 4000000
def b_Size (a0 : Int) : Option (Int) := if a0 < (IntKind.wrap .i64 ((0 : Int) - a0)) then (some (IntKind.wrap .i64 ((0 : Int) - a0))) else (some a0)
theorem b_Size_ok (a0 : Int) (y : Int) (h : b_Size a0 = some y) : CallOk Tryz.prog 76 (vals [a0] []) [(ys 0)] [] 0 (vals [y] []) ((ys 0)) [] := by
 refine fun_of (nt := 7) (by kernel_rfl) (by kernel_rfl) fun φ0 w0 a w hat => ?_
 have hF := wide_fw
 have hr : Fence.wide.round = none := rfl
 unfold b_Size at h
 by_cases h1 : a0 < (IntKind.wrap .i64 ((0 : Int) - a0))
 ·rw [if_pos h1] at h
  injection h with h; subst h
  exact to_fin mixed ⟨[(.lss, (.v 0), (.sub .i64 (.c 0) (.v 0)), true)], [], [], [], [], []⟩ (V := (vals [a0] [])) (n := 3000) (f := 3000) (fid := 76) (fun _ => rfl) ⟨⟨lss_t h1, tv⟩, tv, tv, tv, tv⟩ tv (R := ⟨(ys 0), [], []⟩) (qs := [.num (.sub .i64 (.c 0) (.v 0)) (.v 0)]) wok0 tv hF hr (by kernel_rfl) ⟨(show (IntKind.wrap .i64 ((0 : Int) - a0)) = (IntKind.wrap .i64 ((0 : Int) - a0)) from rfl), tv⟩ hat
 ·rw [if_neg h1] at h
  injection h with h; subst h
  exact to_fin mixed ⟨[(.lss, (.v 0), (.sub .i64 (.c 0) (.v 0)), false)], [], [], [], [], []⟩ (V := (vals [a0] [])) (n := 3000) (f := 3000) (fid := 76) (fun _ => rfl) ⟨⟨lss_f h1, tv⟩, tv, tv, tv, tv⟩ tv (R := ⟨(ys 0), [], []⟩) (qs := [(ns 0 0)]) wok0 tv hF hr (by kernel_rfl) ⟨(r a0), tv⟩ hat
def b_Decimal_L1 (fu : Nat)  : Nat → Int → Int → Option ((Int))
 | 0, _, _ => none
 | n + 1, v0, v1 => if v0 = (0 : Int) then (some v1) else (Option.bind (b_Size (Int.tmod v0 (10 : Int))) fun r2 => if (sln (scut (-16221621217447991123286170206533531672632299716850112127131386537204013554864721642576086973800878646644642981707194008570216306818799668113542941173663648395476071077739651856004314947694625912184081865252391747708886730032845636774230134258526612319485576774894870871931242342359932602230622168876670908392810809452857821798384424983407524275699471860131233968698662634644137322828262828507610385879128166111133198824586478942304211955948474763503029423254561762147447424623126739489800310985254516453495929112823441634001289163251175687074750229425114031733570194532455173868833102382565715355072145850644824162561 : Int) (IntKind.wrap .u8 (IntKind.wrap .i64 ((48 : Int) + r2))) (IntKind.wrap .i64 ((IntKind.wrap .u8 (IntKind.wrap .i64 ((48 : Int) + r2))) + (1 : Int))))) < (4611686018427387904 : Int) then (if (sln v1) < (4611686018427387904 : Int) then (b_Decimal_L1 fu n (IntKind.wrap .i64 (Int.tdiv v0 (10 : Int))) (scat (scut (-16221621217447991123286170206533531672632299716850112127131386537204013554864721642576086973800878646644642981707194008570216306818799668113542941173663648395476071077739651856004314947694625912184081865252391747708886730032845636774230134258526612319485576774894870871931242342359932602230622168876670908392810809452857821798384424983407524275699471860131233968698662634644137322828262828507610385879128166111133198824586478942304211955948474763503029423254561762147447424623126739489800310985254516453495929112823441634001289163251175687074750229425114031733570194532455173868833102382565715355072145850644824162561 : Int) (IntKind.wrap .u8 (IntKind.wrap .i64 ((48 : Int) + r2))) (IntKind.wrap .i64 ((IntKind.wrap .u8 (IntKind.wrap .i64 ((48 : Int) + r2))) + (1 : Int)))) v1)) else none) else none)
theorem b_Decimal_L1_ok (fu : Nat)  : ∀ (n : Nat) (v0 : Int) (v1 : Int) (o : (Int)), b_Decimal_L1 fu  n v0 v1 = some o → ∀ (φ0 : Phi) (w0 : World) (F : Fence) (k : Nat) (R : Exit → Act → World → Prop) (a : Act) (w : World), FW F → F.round = none → AtS (vals [v0, v1] []) [(0, (ys 0)), (3, .ss (.v 1)), (4, .str ⟨#[45]⟩)] [] 27 0 0 φ0 w0 a w → (∀ (y : Int), o = y → ∀ a' w', AtS (vals [y] []) [(3, .ss (.v 0)), (4, .str ⟨#[45]⟩)] [] 27 0 0 φ0 w0 a' w' → R (Exit.exit 0) a' w') → Code.roundsIn F k Tryz.prog (subAt (bodyOf Tryz.prog 167) [1, 1, 1, 1, 0, 0, 0]) R n a w
 | 0, _, _, _, h => by cases h
 | n + 1, v0, v1, o, h => by
  intro φ0 w0 F k R a w hF hr hat hx0
  rw [b_Decimal_L1] at h
  refine rounds_in (p := [1, 1, 1, 1, 0, 0, 0]) ?_
  by_cases h1 : v0 = (0 : Int)
  ·rw [if_pos h1] at h
   injection h with h; subst h
   exact to_done mixed ⟨[(.neq, (.v 0), (.c 0), false)], [], [], [], [], []⟩ (V := (vals [v0, v1] [])) (n := 3000) (f := 3000) (fid := 167) (fun _ => rfl) (V' := (vals [v1] [])) ⟨⟨neq_f h1, tv⟩, tv, tv, tv, tv⟩ tv (T := ⟨[(3, .ss (.v 0)), (4, .str ⟨#[45]⟩)], [], []⟩) (ce := (.exit 0)) (qs := [(ns 1 0)]) rfl tv hF hr (by kernel_rfl) ⟨(r v1), tv⟩ hat fun a' w' hat' => hx0 v1 rfl a' w' hat'
  ·rw [if_neg h1] at h
   obtain ⟨r2, hr2, h⟩ := bs1 h
   have Kr2 : KO Tryz.prog [v0, v1, r2] [] ⟨76, 0, [], [(ys 0)], [], [.num (.rem .i64 (.v 0) (.c 10)) (.v 0)], 0, (ys 0), [], (ys 2), [], []⟩ := fun N M => ⟨_, _, [(ns 0 2)], ⟨b_Size_ok (Int.tmod v0 (10 : Int)) r2 hr2, ⟨(r (Int.tmod v0 (10 : Int))), tv⟩, by kernel_rfl, ⟨rfl, tv⟩⟩⟩
   by_cases h3 : (sln (scut (-16221621217447991123286170206533531672632299716850112127131386537204013554864721642576086973800878646644642981707194008570216306818799668113542941173663648395476071077739651856004314947694625912184081865252391747708886730032845636774230134258526612319485576774894870871931242342359932602230622168876670908392810809452857821798384424983407524275699471860131233968698662634644137322828262828507610385879128166111133198824586478942304211955948474763503029423254561762147447424623126739489800310985254516453495929112823441634001289163251175687074750229425114031733570194532455173868833102382565715355072145850644824162561 : Int) (IntKind.wrap .u8 (IntKind.wrap .i64 ((48 : Int) + r2))) (IntKind.wrap .i64 ((IntKind.wrap .u8 (IntKind.wrap .i64 ((48 : Int) + r2))) + (1 : Int))))) < (4611686018427387904 : Int)
   ·rw [if_pos h3] at h
    by_cases h4 : (sln v1) < (4611686018427387904 : Int)
    ·rw [if_pos h4] at h
     refine to_done mixed ⟨[(.neq, (.v 0), (.c 0), true), (.lss, (.sln (.cut (.c (-16221621217447991123286170206533531672632299716850112127131386537204013554864721642576086973800878646644642981707194008570216306818799668113542941173663648395476071077739651856004314947694625912184081865252391747708886730032845636774230134258526612319485576774894870871931242342359932602230622168876670908392810809452857821798384424983407524275699471860131233968698662634644137322828262828507610385879128166111133198824586478942304211955948474763503029423254561762147447424623126739489800310985254516453495929112823441634001289163251175687074750229425114031733570194532455173868833102382565715355072145850644824162561)) (.wr .u8 (.add .i64 (.c 48) (.v 2))) (.add .i64 (.wr .u8 (.add .i64 (.c 48) (.v 2))) (.c 1)))), (.c 4611686018427387904), true), (.lss, (.sln (.v 1)), (.c 4611686018427387904), true)], [], [], [⟨76, 0, [], [(ys 0)], [], [.num (.rem .i64 (.v 0) (.c 10)) (.v 0)], 0, (ys 0), [], (ys 2), [], []⟩], [], []⟩ (V := (vals [v0, v1, r2] [])) (n := 3000) (f := 3000) (fid := 167) (fun _ => rfl) (V' := (vals [(IntKind.wrap .i64 (Int.tdiv v0 (10 : Int))), (scat (scut (-16221621217447991123286170206533531672632299716850112127131386537204013554864721642576086973800878646644642981707194008570216306818799668113542941173663648395476071077739651856004314947694625912184081865252391747708886730032845636774230134258526612319485576774894870871931242342359932602230622168876670908392810809452857821798384424983407524275699471860131233968698662634644137322828262828507610385879128166111133198824586478942304211955948474763503029423254561762147447424623126739489800310985254516453495929112823441634001289163251175687074750229425114031733570194532455173868833102382565715355072145850644824162561 : Int) (IntKind.wrap .u8 (IntKind.wrap .i64 ((48 : Int) + r2))) (IntKind.wrap .i64 ((IntKind.wrap .u8 (IntKind.wrap .i64 ((48 : Int) + r2))) + (1 : Int)))) v1)] [])) ⟨⟨neq_t h1, lss_t h3, lss_t h4, tv⟩, tv, tv, tv, tv⟩ ⟨Kr2 _ _, tv⟩ (T := ⟨[(0, (ys 0)), (3, .ss (.v 1)), (4, .str ⟨#[45]⟩)], [], []⟩) (ce := .normal) (qs := [.num (.quo .i64 (.v 0) (.c 10)) (.v 0), .num (.cat (.cut (.c (-16221621217447991123286170206533531672632299716850112127131386537204013554864721642576086973800878646644642981707194008570216306818799668113542941173663648395476071077739651856004314947694625912184081865252391747708886730032845636774230134258526612319485576774894870871931242342359932602230622168876670908392810809452857821798384424983407524275699471860131233968698662634644137322828262828507610385879128166111133198824586478942304211955948474763503029423254561762147447424623126739489800310985254516453495929112823441634001289163251175687074750229425114031733570194532455173868833102382565715355072145850644824162561)) (.wr .u8 (.add .i64 (.c 48) (.v 2))) (.add .i64 (.wr .u8 (.add .i64 (.c 48) (.v 2))) (.c 1))) (.v 1)) (.v 1)]) rfl tv hF hr (by kernel_rfl) ⟨(r (IntKind.wrap .i64 (Int.tdiv v0 (10 : Int)))), (show (scat (scut (-16221621217447991123286170206533531672632299716850112127131386537204013554864721642576086973800878646644642981707194008570216306818799668113542941173663648395476071077739651856004314947694625912184081865252391747708886730032845636774230134258526612319485576774894870871931242342359932602230622168876670908392810809452857821798384424983407524275699471860131233968698662634644137322828262828507610385879128166111133198824586478942304211955948474763503029423254561762147447424623126739489800310985254516453495929112823441634001289163251175687074750229425114031733570194532455173868833102382565715355072145850644824162561 : Int) (IntKind.wrap .u8 (IntKind.wrap .i64 ((48 : Int) + r2))) (IntKind.wrap .i64 ((IntKind.wrap .u8 (IntKind.wrap .i64 ((48 : Int) + r2))) + (1 : Int)))) v1) = (scat (scut (-16221621217447991123286170206533531672632299716850112127131386537204013554864721642576086973800878646644642981707194008570216306818799668113542941173663648395476071077739651856004314947694625912184081865252391747708886730032845636774230134258526612319485576774894870871931242342359932602230622168876670908392810809452857821798384424983407524275699471860131233968698662634644137322828262828507610385879128166111133198824586478942304211955948474763503029423254561762147447424623126739489800310985254516453495929112823441634001289163251175687074750229425114031733570194532455173868833102382565715355072145850644824162561 : Int) (IntKind.wrap .u8 (IntKind.wrap .i64 ((48 : Int) + r2))) (IntKind.wrap .i64 ((IntKind.wrap .u8 (IntKind.wrap .i64 ((48 : Int) + r2))) + (1 : Int)))) v1) from rfl), tv⟩ (at_re (V' := (vals [v0, v1, r2] [])) (T := ⟨[(0, (ys 0)), (3, .ss (.v 1)), (4, .str ⟨#[45]⟩)], [], []⟩) (qs := [(ns 0 0), (ns 1 1)]) hat (by kernel_rfl) ⟨rfl, rfl, tv⟩) fun a' w' hat' => ?_
     exact b_Decimal_L1_ok fu n (IntKind.wrap .i64 (Int.tdiv v0 (10 : Int))) (scat (scut (-16221621217447991123286170206533531672632299716850112127131386537204013554864721642576086973800878646644642981707194008570216306818799668113542941173663648395476071077739651856004314947694625912184081865252391747708886730032845636774230134258526612319485576774894870871931242342359932602230622168876670908392810809452857821798384424983407524275699471860131233968698662634644137322828262828507610385879128166111133198824586478942304211955948474763503029423254561762147447424623126739489800310985254516453495929112823441634001289163251175687074750229425114031733570194532455173868833102382565715355072145850644824162561 : Int) (IntKind.wrap .u8 (IntKind.wrap .i64 ((48 : Int) + r2))) (IntKind.wrap .i64 ((IntKind.wrap .u8 (IntKind.wrap .i64 ((48 : Int) + r2))) + (1 : Int)))) v1) o h _ _ _ _ _ _ _ hF hr hat' hx0
    ·rw [if_neg h4] at h
     cases h
   ·rw [if_neg h3] at h
    cases h
def b_Decimal_L2 (fu : Nat)  : Nat → Int → Int → Option ((Int))
 | 0, _, _ => none
 | n + 1, v0, v1 => if v0 = (0 : Int) then (some v1) else (Option.bind (b_Size (Int.tmod v0 (10 : Int))) fun r2 => if (sln (scut (-16221621217447991123286170206533531672632299716850112127131386537204013554864721642576086973800878646644642981707194008570216306818799668113542941173663648395476071077739651856004314947694625912184081865252391747708886730032845636774230134258526612319485576774894870871931242342359932602230622168876670908392810809452857821798384424983407524275699471860131233968698662634644137322828262828507610385879128166111133198824586478942304211955948474763503029423254561762147447424623126739489800310985254516453495929112823441634001289163251175687074750229425114031733570194532455173868833102382565715355072145850644824162561 : Int) (IntKind.wrap .u8 (IntKind.wrap .i64 ((48 : Int) + r2))) (IntKind.wrap .i64 ((IntKind.wrap .u8 (IntKind.wrap .i64 ((48 : Int) + r2))) + (1 : Int))))) < (4611686018427387904 : Int) then (if (sln v1) < (4611686018427387904 : Int) then (b_Decimal_L2 fu n (IntKind.wrap .i64 (Int.tdiv v0 (10 : Int))) (scat (scut (-16221621217447991123286170206533531672632299716850112127131386537204013554864721642576086973800878646644642981707194008570216306818799668113542941173663648395476071077739651856004314947694625912184081865252391747708886730032845636774230134258526612319485576774894870871931242342359932602230622168876670908392810809452857821798384424983407524275699471860131233968698662634644137322828262828507610385879128166111133198824586478942304211955948474763503029423254561762147447424623126739489800310985254516453495929112823441634001289163251175687074750229425114031733570194532455173868833102382565715355072145850644824162561 : Int) (IntKind.wrap .u8 (IntKind.wrap .i64 ((48 : Int) + r2))) (IntKind.wrap .i64 ((IntKind.wrap .u8 (IntKind.wrap .i64 ((48 : Int) + r2))) + (1 : Int)))) v1)) else none) else none)
theorem b_Decimal_L2_ok (fu : Nat)  : ∀ (n : Nat) (v0 : Int) (v1 : Int) (o : (Int)), b_Decimal_L2 fu  n v0 v1 = some o → ∀ (φ0 : Phi) (w0 : World) (F : Fence) (k : Nat) (R : Exit → Act → World → Prop) (a : Act) (w : World), FW F → F.round = none → AtS (vals [v0, v1] []) [(0, (ys 0)), (3, .ss (.v 1)), (4, .str ⟨#[]⟩)] [] 27 0 0 φ0 w0 a w → (∀ (y : Int), o = y → ∀ a' w', AtS (vals [y] []) [(3, .ss (.v 0)), (4, .str ⟨#[]⟩)] [] 27 0 0 φ0 w0 a' w' → R (Exit.exit 0) a' w') → Code.roundsIn F k Tryz.prog (subAt (bodyOf Tryz.prog 167) [1, 1, 1, 1, 0, 0, 0]) R n a w
 | 0, _, _, _, h => by cases h
 | n + 1, v0, v1, o, h => by
  intro φ0 w0 F k R a w hF hr hat hx0
  rw [b_Decimal_L2] at h
  refine rounds_in (p := [1, 1, 1, 1, 0, 0, 0]) ?_
  by_cases h1 : v0 = (0 : Int)
  ·rw [if_pos h1] at h
   injection h with h; subst h
   exact to_done mixed ⟨[(.neq, (.v 0), (.c 0), false)], [], [], [], [], []⟩ (V := (vals [v0, v1] [])) (n := 3000) (f := 3000) (fid := 167) (fun _ => rfl) (V' := (vals [v1] [])) ⟨⟨neq_f h1, tv⟩, tv, tv, tv, tv⟩ tv (T := ⟨[(3, .ss (.v 0)), (4, .str ⟨#[]⟩)], [], []⟩) (ce := (.exit 0)) (qs := [(ns 1 0)]) rfl tv hF hr (by kernel_rfl) ⟨(r v1), tv⟩ hat fun a' w' hat' => hx0 v1 rfl a' w' hat'
  ·rw [if_neg h1] at h
   obtain ⟨r2, hr2, h⟩ := bs1 h
   have Kr2 : KO Tryz.prog [v0, v1, r2] [] ⟨76, 0, [], [(ys 0)], [], [.num (.rem .i64 (.v 0) (.c 10)) (.v 0)], 0, (ys 0), [], (ys 2), [], []⟩ := fun N M => ⟨_, _, [(ns 0 2)], ⟨b_Size_ok (Int.tmod v0 (10 : Int)) r2 hr2, ⟨(r (Int.tmod v0 (10 : Int))), tv⟩, by kernel_rfl, ⟨rfl, tv⟩⟩⟩
   by_cases h3 : (sln (scut (-16221621217447991123286170206533531672632299716850112127131386537204013554864721642576086973800878646644642981707194008570216306818799668113542941173663648395476071077739651856004314947694625912184081865252391747708886730032845636774230134258526612319485576774894870871931242342359932602230622168876670908392810809452857821798384424983407524275699471860131233968698662634644137322828262828507610385879128166111133198824586478942304211955948474763503029423254561762147447424623126739489800310985254516453495929112823441634001289163251175687074750229425114031733570194532455173868833102382565715355072145850644824162561 : Int) (IntKind.wrap .u8 (IntKind.wrap .i64 ((48 : Int) + r2))) (IntKind.wrap .i64 ((IntKind.wrap .u8 (IntKind.wrap .i64 ((48 : Int) + r2))) + (1 : Int))))) < (4611686018427387904 : Int)
   ·rw [if_pos h3] at h
    by_cases h4 : (sln v1) < (4611686018427387904 : Int)
    ·rw [if_pos h4] at h
     refine to_done mixed ⟨[(.neq, (.v 0), (.c 0), true), (.lss, (.sln (.cut (.c (-16221621217447991123286170206533531672632299716850112127131386537204013554864721642576086973800878646644642981707194008570216306818799668113542941173663648395476071077739651856004314947694625912184081865252391747708886730032845636774230134258526612319485576774894870871931242342359932602230622168876670908392810809452857821798384424983407524275699471860131233968698662634644137322828262828507610385879128166111133198824586478942304211955948474763503029423254561762147447424623126739489800310985254516453495929112823441634001289163251175687074750229425114031733570194532455173868833102382565715355072145850644824162561)) (.wr .u8 (.add .i64 (.c 48) (.v 2))) (.add .i64 (.wr .u8 (.add .i64 (.c 48) (.v 2))) (.c 1)))), (.c 4611686018427387904), true), (.lss, (.sln (.v 1)), (.c 4611686018427387904), true)], [], [], [⟨76, 0, [], [(ys 0)], [], [.num (.rem .i64 (.v 0) (.c 10)) (.v 0)], 0, (ys 0), [], (ys 2), [], []⟩], [], []⟩ (V := (vals [v0, v1, r2] [])) (n := 3000) (f := 3000) (fid := 167) (fun _ => rfl) (V' := (vals [(IntKind.wrap .i64 (Int.tdiv v0 (10 : Int))), (scat (scut (-16221621217447991123286170206533531672632299716850112127131386537204013554864721642576086973800878646644642981707194008570216306818799668113542941173663648395476071077739651856004314947694625912184081865252391747708886730032845636774230134258526612319485576774894870871931242342359932602230622168876670908392810809452857821798384424983407524275699471860131233968698662634644137322828262828507610385879128166111133198824586478942304211955948474763503029423254561762147447424623126739489800310985254516453495929112823441634001289163251175687074750229425114031733570194532455173868833102382565715355072145850644824162561 : Int) (IntKind.wrap .u8 (IntKind.wrap .i64 ((48 : Int) + r2))) (IntKind.wrap .i64 ((IntKind.wrap .u8 (IntKind.wrap .i64 ((48 : Int) + r2))) + (1 : Int)))) v1)] [])) ⟨⟨neq_t h1, lss_t h3, lss_t h4, tv⟩, tv, tv, tv, tv⟩ ⟨Kr2 _ _, tv⟩ (T := ⟨[(0, (ys 0)), (3, .ss (.v 1)), (4, .str ⟨#[]⟩)], [], []⟩) (ce := .normal) (qs := [.num (.quo .i64 (.v 0) (.c 10)) (.v 0), .num (.cat (.cut (.c (-16221621217447991123286170206533531672632299716850112127131386537204013554864721642576086973800878646644642981707194008570216306818799668113542941173663648395476071077739651856004314947694625912184081865252391747708886730032845636774230134258526612319485576774894870871931242342359932602230622168876670908392810809452857821798384424983407524275699471860131233968698662634644137322828262828507610385879128166111133198824586478942304211955948474763503029423254561762147447424623126739489800310985254516453495929112823441634001289163251175687074750229425114031733570194532455173868833102382565715355072145850644824162561)) (.wr .u8 (.add .i64 (.c 48) (.v 2))) (.add .i64 (.wr .u8 (.add .i64 (.c 48) (.v 2))) (.c 1))) (.v 1)) (.v 1)]) rfl tv hF hr (by kernel_rfl) ⟨(r (IntKind.wrap .i64 (Int.tdiv v0 (10 : Int)))), (show (scat (scut (-16221621217447991123286170206533531672632299716850112127131386537204013554864721642576086973800878646644642981707194008570216306818799668113542941173663648395476071077739651856004314947694625912184081865252391747708886730032845636774230134258526612319485576774894870871931242342359932602230622168876670908392810809452857821798384424983407524275699471860131233968698662634644137322828262828507610385879128166111133198824586478942304211955948474763503029423254561762147447424623126739489800310985254516453495929112823441634001289163251175687074750229425114031733570194532455173868833102382565715355072145850644824162561 : Int) (IntKind.wrap .u8 (IntKind.wrap .i64 ((48 : Int) + r2))) (IntKind.wrap .i64 ((IntKind.wrap .u8 (IntKind.wrap .i64 ((48 : Int) + r2))) + (1 : Int)))) v1) = (scat (scut (-16221621217447991123286170206533531672632299716850112127131386537204013554864721642576086973800878646644642981707194008570216306818799668113542941173663648395476071077739651856004314947694625912184081865252391747708886730032845636774230134258526612319485576774894870871931242342359932602230622168876670908392810809452857821798384424983407524275699471860131233968698662634644137322828262828507610385879128166111133198824586478942304211955948474763503029423254561762147447424623126739489800310985254516453495929112823441634001289163251175687074750229425114031733570194532455173868833102382565715355072145850644824162561 : Int) (IntKind.wrap .u8 (IntKind.wrap .i64 ((48 : Int) + r2))) (IntKind.wrap .i64 ((IntKind.wrap .u8 (IntKind.wrap .i64 ((48 : Int) + r2))) + (1 : Int)))) v1) from rfl), tv⟩ (at_re (V' := (vals [v0, v1, r2] [])) (T := ⟨[(0, (ys 0)), (3, .ss (.v 1)), (4, .str ⟨#[]⟩)], [], []⟩) (qs := [(ns 0 0), (ns 1 1)]) hat (by kernel_rfl) ⟨rfl, rfl, tv⟩) fun a' w' hat' => ?_
     exact b_Decimal_L2_ok fu n (IntKind.wrap .i64 (Int.tdiv v0 (10 : Int))) (scat (scut (-16221621217447991123286170206533531672632299716850112127131386537204013554864721642576086973800878646644642981707194008570216306818799668113542941173663648395476071077739651856004314947694625912184081865252391747708886730032845636774230134258526612319485576774894870871931242342359932602230622168876670908392810809452857821798384424983407524275699471860131233968698662634644137322828262828507610385879128166111133198824586478942304211955948474763503029423254561762147447424623126739489800310985254516453495929112823441634001289163251175687074750229425114031733570194532455173868833102382565715355072145850644824162561 : Int) (IntKind.wrap .u8 (IntKind.wrap .i64 ((48 : Int) + r2))) (IntKind.wrap .i64 ((IntKind.wrap .u8 (IntKind.wrap .i64 ((48 : Int) + r2))) + (1 : Int)))) v1) o h _ _ _ _ _ _ _ hF hr hat' hx0
    ·rw [if_neg h4] at h
     cases h
   ·rw [if_neg h3] at h
    cases h
def b_Decimal (fu : Nat) (a0 : Int) : Option (Int) := if a0 = (0 : Int) then (some (-25 : Int)) else (if a0 < (0 : Int) then (Option.bind (b_Decimal_L1 fu fu a0 (0 : Int)) fun o3 => if (sln (23 : Int)) < (4611686018427387904 : Int) then (if (sln o3) < (4611686018427387904 : Int) then (some (scat (23 : Int) o3)) else none) else none) else (Option.bind (b_Decimal_L2 fu fu a0 (0 : Int)) fun o6 => if (sln (0 : Int)) < (4611686018427387904 : Int) then (if (sln o6) < (4611686018427387904 : Int) then (some (scat (0 : Int) o6)) else none) else none))
theorem b_Decimal_ok (fu : Nat) (a0 : Int) (y : Int) (h : b_Decimal fu a0 = some y) : CallOk Tryz.prog 167 (vals [a0] []) [(ys 0)] [] 0 (vals [y] []) (.ss (.v 0)) [] := by
 refine fun_of (nt := 27) (by kernel_rfl) (by kernel_rfl) fun φ0 w0 a w hat => ?_
 have hF := wide_fw
 have hr : Fence.wide.round = none := rfl
 unfold b_Decimal at h
 by_cases h1 : a0 = (0 : Int)
 ·rw [if_pos h1] at h
  injection h with h; subst h
  exact to_fin mixed ⟨[(.eql, (.v 0), (.c 0), true)], [], [], [], [], []⟩ (V := (vals [a0] [])) (n := 3000) (f := 3000) (fid := 167) (fun _ => rfl) ⟨⟨eql_t h1, tv⟩, tv, tv, tv, tv⟩ tv (R := ⟨.ss (.v 0), [], []⟩) (qs := [.num (.c (-25)) (.v 0)]) wok0 tv hF hr (by kernel_rfl) ⟨(show (-25 : Int) = (-25 : Int) from rfl), tv⟩ hat
 ·rw [if_neg h1] at h
  by_cases h2 : a0 < (0 : Int)
  ·rw [if_pos h2] at h
   obtain ⟨o3, ho3, h⟩ := bs1 h
   refine to_loop mixed ⟨[(.eql, (.v 0), (.c 0), false), (.lss, (.v 0), (.c 0), true)], [], [], [], [], []⟩ (V := (vals [a0] [])) (n := 3000) (f := 3000) (fid := 167) (fun _ => rfl) (V' := (vals [a0, (0 : Int)] [])) ⟨⟨eql_f h1, lss_t h2, tv⟩, tv, tv, tv, tv⟩ tv (T := ⟨[(0, (ys 0)), (3, .ss (.v 1)), (4, .str ⟨#[45]⟩)], [], []⟩) (B := subAt (bodyOf Tryz.prog 167) [1, 1, 1, 1, 0, 0, 0]) (K' := [.bk 0, .sq (subAt (bodyOf Tryz.prog 167) [1, 1, 1, 1, 1]) [1, 1, 1, 1, 1]]) (qs := [(ns 0 0), .num (.c 0) (.v 1)]) wok0 tv hF hr (by kernel_rfl) ⟨(r a0), (r (0 : Int)), tv⟩ hat fun aa1 ww1 hat1 => loop_in (b_Decimal_L1_ok fu fu a0 (0 : Int) o3 ho3 _ _ _ _ _ _ _ hF hr hat1 ?_)
   ·intro yy hy aa2 ww2 hat
    subst hy
    show (Wk.out (.exit 0)).goal _ _ _ [.bk 0, .sq (subAt (bodyOf Tryz.prog 167) [1, 1, 1, 1, 1]) [1, 1, 1, 1, 1]] _ aa2 ww2
    by_cases h4 : (sln (23 : Int)) < (4611686018427387904 : Int)
    ·rw [if_pos h4] at h
     by_cases h5 : (sln o3) < (4611686018427387904 : Int)
     ·rw [if_pos h5] at h
      injection h with h; subst h
      exact to_fin mixed ⟨[(.lss, (.sln (.c 23)), (.c 4611686018427387904), true), (.lss, (.sln (.v 0)), (.c 4611686018427387904), true)], [], [], [], [], []⟩ (V := (vals [o3] [])) (n := 3000) (f := 3000) (fid := 167) (fun _ => rfl) ⟨⟨lss_t h4, lss_t h5, tv⟩, tv, tv, tv, tv⟩ tv (R := ⟨.ss (.v 0), [], []⟩) (qs := [.num (.cat (.c 23) (.v 0)) (.v 0)]) tv ⟨rfl, tv⟩ hF hr (by kernel_rfl) ⟨(r (scat (23 : Int) o3)), tv⟩ hat
     ·rw [if_neg h5] at h
      cases h
    ·rw [if_neg h4] at h
     cases h
  ·rw [if_neg h2] at h
   obtain ⟨o6, ho6, h⟩ := bs1 h
   refine to_loop mixed ⟨[(.eql, (.v 0), (.c 0), false), (.lss, (.v 0), (.c 0), false)], [], [], [], [], []⟩ (V := (vals [a0] [])) (n := 3000) (f := 3000) (fid := 167) (fun _ => rfl) (V' := (vals [a0, (0 : Int)] [])) ⟨⟨eql_f h1, lss_f h2, tv⟩, tv, tv, tv, tv⟩ tv (T := ⟨[(0, (ys 0)), (3, .ss (.v 1)), (4, .str ⟨#[]⟩)], [], []⟩) (B := subAt (bodyOf Tryz.prog 167) [1, 1, 1, 1, 0, 0, 0]) (K' := [.bk 0, .sq (subAt (bodyOf Tryz.prog 167) [1, 1, 1, 1, 1]) [1, 1, 1, 1, 1]]) (qs := [(ns 0 0), .num (.c 0) (.v 1)]) wok0 tv hF hr (by kernel_rfl) ⟨(r a0), (r (0 : Int)), tv⟩ hat fun aa1 ww1 hat1 => loop_in (b_Decimal_L2_ok fu fu a0 (0 : Int) o6 ho6 _ _ _ _ _ _ _ hF hr hat1 ?_)
   ·intro yy hy aa2 ww2 hat
    subst hy
    show (Wk.out (.exit 0)).goal _ _ _ [.bk 0, .sq (subAt (bodyOf Tryz.prog 167) [1, 1, 1, 1, 1]) [1, 1, 1, 1, 1]] _ aa2 ww2
    by_cases h7 : (sln (0 : Int)) < (4611686018427387904 : Int)
    ·rw [if_pos h7] at h
     by_cases h8 : (sln o6) < (4611686018427387904 : Int)
     ·rw [if_pos h8] at h
      injection h with h; subst h
      exact to_fin mixed ⟨[(.lss, (.sln (.c 0)), (.c 4611686018427387904), true), (.lss, (.sln (.v 0)), (.c 4611686018427387904), true)], [], [], [], [], []⟩ (V := (vals [o6] [])) (n := 3000) (f := 3000) (fid := 167) (fun _ => rfl) ⟨⟨lss_t h7, lss_t h8, tv⟩, tv, tv, tv, tv⟩ tv (R := ⟨.ss (.v 0), [], []⟩) (qs := [.num (.cat (.c 0) (.v 0)) (.v 0)]) tv ⟨rfl, tv⟩ hF hr (by kernel_rfl) ⟨(r (scat (0 : Int) o6)), tv⟩ hat
     ·rw [if_neg h8] at h
      cases h
    ·rw [if_neg h7] at h
     cases h
def b_Cut_L1 (fu : Nat) (p0 : Int) (p1 : Int) : Nat → List (Int) → Int → Int → Option ((List (Int) × Int))
 | 0, _, _, _ => none
 | n + 1, v2, v3, v4 => if v4 < (sln p0) then (if (0 : Int) ≤ v4 then (if (sat p0 v4) = p1 then (if (0 : Int) ≤ v3 then (if v3 ≤ v4 then (if (v2.length : Int) < (65536 : Int) then (b_Cut_L1 fu p0 p1 n (v2 ++ [(scut p0 v3 v4)]) (IntKind.wrap .i64 (v4 + (1 : Int))) (IntKind.wrap .i64 (v4 + (1 : Int)))) else none) else none) else none) else (b_Cut_L1 fu p0 p1 n v2 v3 (IntKind.wrap .i64 (v4 + (1 : Int))))) else none) else (some (v2, v3))
theorem b_Cut_L1_ok (fu : Nat) (p0 : Int) (p1 : Int) : ∀ (n : Nat) (v2 : List (Int)) (v3 : Int) (v4 : Int) (o : (List (Int) × Int)), b_Cut_L1 fu p0 p1 n v2 v3 v4 = some o → ∀ (φ0 : Phi) (w0 : World) (F : Fence) (k : Nat) (R : Exit → Act → World → Prop) (a : Act) (w : World), FW F → F.round = none → AtS (vals [p0, p1, (v2.length : Int), v3, v4] [(v2.flatMap enS)]) [(0, .ss (.v 0)), (1, .sym .u8 (.v 1)), (5, .gs 0 0 (.v 2) 1 true), (6, (ys 3)), (7, (ys 4))] [some (.rows 0 [] 9 false)] 34 0 0 φ0 w0 a w → (∀ (y : List (Int) × Int), o = y → ∀ a' w', AtS (vals [p0, (y.1.length : Int), y.2] [(y.1.flatMap enS)]) [(0, .ss (.v 0)), (5, .gs 0 0 (.v 1) 1 true), (6, (ys 2))] [some (.rows 0 [] 9 false)] 34 0 0 φ0 w0 a' w' → R (Exit.exit 0) a' w') → Code.roundsIn F k Tryz.prog (subAt (bodyOf Tryz.prog 95) [1, 1, 1, 0, 1, 0, 0]) R n a w
 | 0, _, _, _, _, h => by cases h
 | n + 1, v2, v3, v4, o, h => by
  intro φ0 w0 F k R a w hF hr hat hx0
  rw [b_Cut_L1] at h
  refine rounds_in (p := [1, 1, 1, 0, 1, 0, 0]) ?_
  by_cases h1 : v4 < (sln p0)
  ·rw [if_pos h1] at h
   by_cases h2 : (0 : Int) ≤ v4
   ·rw [if_pos h2] at h
    by_cases h3 : (sat p0 v4) = p1
    ·rw [if_pos h3] at h
     by_cases h4 : (0 : Int) ≤ v3
     ·rw [if_pos h4] at h
      by_cases h5 : v3 ≤ v4
      ·rw [if_pos h5] at h
       by_cases h7 : (v2.length : Int) < (65536 : Int)
       ·rw [if_pos h7] at h
        refine to_done mixed ⟨[(.lss, (.v 4), (.sln (.v 0)), true), (.leq, (.c 0), (.v 4), true), (.eql, (.sat (.v 0) (.v 4)), (.v 1), true), (.leq, (.c 0), (.v 3), true), (.leq, (.v 3), (.v 4), true), (.leq, (.v 4), (.sln (.v 0)), true), (.lss, (.v 2), (.c 65536), true)], [], [(0, 1, (.v 2))], [], [], []⟩ (V := (vals [p0, p1, (v2.length : Int), v3, v4] [(v2.flatMap enS)])) (n := 3000) (f := 3000) (fid := 95) (fun _ => rfl) (V' := (vals [p0, p1, ((v2 ++ [(scut p0 v3 v4)]).length : Int), (IntKind.wrap .i64 (v4 + (1 : Int))), (IntKind.wrap .i64 (v4 + (1 : Int)))] [((v2 ++ [(scut p0 v3 v4)]).flatMap enS)])) ⟨⟨lss_t h1, leq_t h2, eql_t h3, leq_t h4, leq_t h5, leq_t (a := v4) (b := (sln p0)) (by omega), lss_t h7, tv⟩, tv, ⟨flat_length enS_len _, tv⟩, tv, tv⟩ tv (T := ⟨[(0, .ss (.v 0)), (1, .sym .u8 (.v 1)), (5, .gs 0 0 (.v 2) 1 true), (6, (ys 3)), (7, (ys 4))], [some (.rows 0 [] 9 false)], [some (2, 0)]⟩) (ce := .normal) (qs := [(ns 0 0), (ns 1 1), .num (.add .i64 (.v 2) (.c 1)) (.v 2), .num (.add .i64 (.v 4) (.c 1)) (.v 3), .num (.add .i64 (.v 4) (.c 1)) (.v 4), .lst 0 (some 0) [.ss (.cut (.v 0) (.v 3) (.v 4))]]) rfl tv hF hr (by kernel_rfl) ⟨(r p0), (r p1), (show (IntKind.wrap .i64 ((v2.length : Int) + (1 : Int))) = ((v2 ++ [(scut p0 v3 v4)]).length : Int) by first | rfl | (simp only [List.length_append, List.length_cons, List.length_nil]; rw [IntKind.wrap_i64]; omega)), (r (IntKind.wrap .i64 (v4 + (1 : Int)))), (r (IntKind.wrap .i64 (v4 + (1 : Int)))), ⟨_, rfl, List.flatMap_append⟩, tv⟩ hat fun a' w' hat' => ?_
        exact b_Cut_L1_ok fu p0 p1 n (v2 ++ [(scut p0 v3 v4)]) (IntKind.wrap .i64 (v4 + (1 : Int))) (IntKind.wrap .i64 (v4 + (1 : Int))) o h _ _ _ _ _ _ _ hF hr hat' hx0
       ·rw [if_neg h7] at h
        cases h
      ·rw [if_neg h5] at h
       cases h
     ·rw [if_neg h4] at h
      cases h
    ·rw [if_neg h3] at h
     refine to_done mixed ⟨[(.lss, (.v 4), (.sln (.v 0)), true), (.leq, (.c 0), (.v 4), true), (.eql, (.sat (.v 0) (.v 4)), (.v 1), false)], [], [(0, 1, (.v 2))], [], [], []⟩ (V := (vals [p0, p1, (v2.length : Int), v3, v4] [(v2.flatMap enS)])) (n := 3000) (f := 3000) (fid := 95) (fun _ => rfl) (V' := (vals [p0, p1, (v2.length : Int), v3, (IntKind.wrap .i64 (v4 + (1 : Int)))] [(v2.flatMap enS)])) ⟨⟨lss_t h1, leq_t h2, eql_f h3, tv⟩, tv, ⟨flat_length enS_len _, tv⟩, tv, tv⟩ tv (T := ⟨[(0, .ss (.v 0)), (1, .sym .u8 (.v 1)), (5, .gs 0 0 (.v 2) 1 true), (6, (ys 3)), (7, (ys 4))], [some (.rows 0 [] 9 false)], [some (0, 0)]⟩) (ce := .normal) (qs := [(ns 0 0), (ns 1 1), (ns 2 2), (ns 3 3), .num (.add .i64 (.v 4) (.c 1)) (.v 4), .lst 0 (some 0) []]) rfl tv hF hr (by kernel_rfl) ⟨(r p0), (r p1), (r (v2.length : Int)), (r v3), (r (IntKind.wrap .i64 (v4 + (1 : Int)))), ⟨[], rfl, lnil _⟩, tv⟩ hat fun a' w' hat' => ?_
     exact b_Cut_L1_ok fu p0 p1 n v2 v3 (IntKind.wrap .i64 (v4 + (1 : Int))) o h _ _ _ _ _ _ _ hF hr hat' hx0
   ·rw [if_neg h2] at h
    cases h
  ·rw [if_neg h1] at h
   injection h with h; subst h
   exact to_done mixed ⟨[(.lss, (.v 4), (.sln (.v 0)), false)], [], [(0, 1, (.v 2))], [], [], []⟩ (V := (vals [p0, p1, (v2.length : Int), v3, v4] [(v2.flatMap enS)])) (n := 3000) (f := 3000) (fid := 95) (fun _ => rfl) (V' := (vals [p0, (v2.length : Int), v3] [(v2.flatMap enS)])) ⟨⟨lss_f h1, tv⟩, tv, ⟨flat_length enS_len _, tv⟩, tv, tv⟩ tv (T := ⟨[(0, .ss (.v 0)), (5, .gs 0 0 (.v 1) 1 true), (6, (ys 2))], [some (.rows 0 [] 9 false)], [some (0, 0)]⟩) (ce := (.exit 0)) (qs := [(ns 0 0), (ns 2 1), (ns 3 2), .lst 0 (some 0) []]) rfl tv hF hr (by kernel_rfl) ⟨(r p0), (r (v2.length : Int)), (r v3), ⟨[], rfl, lnil _⟩, tv⟩ hat fun a' w' hat' => hx0 (v2, v3) rfl a' w' hat'
def b_Cut (fu : Nat) (a0 : Int) (a1 : Int) : Option (List (Int)) := Option.bind (b_Cut_L1 fu a0 a1 fu ([] : List (Int)) (0 : Int) (0 : Int)) fun o1 => if (0 : Int) ≤ o1.2 then (if o1.2 ≤ (sln a0) then (if (o1.1.length : Int) < (65536 : Int) then (some (o1.1 ++ [(scut a0 o1.2 (sln a0))])) else none) else none) else none
theorem b_Cut_ok (fu : Nat) (a0 : Int) (a1 : Int) (y : List (Int)) (h : b_Cut fu a0 a1 = some y) : CallOk Tryz.prog 95 (vals [a0, a1] []) [.ss (.v 0), .sym .u8 (.v 1)] [] 0 (vals [(y.length : Int)] [(y.flatMap enS)]) (.gs 0 0 (.v 0) 1 true) [some (.rows 0 [] 9 false)] := by
 refine fun_of (nt := 34) (by kernel_rfl) (by kernel_rfl) fun φ0 w0 a w hat => ?_
 have hF := wide_fw
 have hr : Fence.wide.round = none := rfl
 unfold b_Cut at h
 obtain ⟨o1, ho1, h⟩ := bs1 h
 refine to_loop mixed ⟨[], [], [], [], [], []⟩ (V := (vals [a0, a1] [])) (n := 3000) (f := 3000) (fid := 95) (fun _ => rfl) (V' := (vals [a0, a1, (([] : List (Int)).length : Int), (0 : Int), (0 : Int)] [(([] : List (Int)).flatMap enS)])) ⟨tv, tv, tv, tv, tv⟩ tv (T := ⟨[(0, .ss (.v 0)), (1, .sym .u8 (.v 1)), (5, .gs 0 0 (.v 2) 1 true), (6, (ys 3)), (7, (ys 4))], [some (.rows 0 [] 9 false)], [none]⟩) (B := subAt (bodyOf Tryz.prog 95) [1, 1, 1, 0, 1, 0, 0]) (K' := [.bk 0, .sq (subAt (bodyOf Tryz.prog 95) [1, 1, 1, 1]) [1, 1, 1, 1]]) (qs := [(ns 0 0), (ns 1 1), .num (.c 0) (.v 2), .num (.c 0) (.v 3), .num (.c 0) (.v 4)]) wok0 tv hF hr (by kernel_rfl) ⟨(r a0), (r a1), rfl, (r (0 : Int)), (r (0 : Int)), tv⟩ hat fun aa1 ww1 hat1 => loop_in (b_Cut_L1_ok fu a0 a1 fu ([] : List (Int)) (0 : Int) (0 : Int) o1 ho1 _ _ _ _ _ _ _ hF hr hat1 ?_)
 ·intro yy hy aa2 ww2 hat
  subst hy
  show (Wk.out (.exit 0)).goal _ _ _ [.bk 0, .sq (subAt (bodyOf Tryz.prog 95) [1, 1, 1, 1]) [1, 1, 1, 1]] _ aa2 ww2
  by_cases h2 : (0 : Int) ≤ o1.2
  ·rw [if_pos h2] at h
   by_cases h3 : o1.2 ≤ (sln a0)
   ·rw [if_pos h3] at h
    by_cases h4 : (o1.1.length : Int) < (65536 : Int)
    ·rw [if_pos h4] at h
     injection h with h; subst h
     exact to_fin mixed ⟨[(.leq, (.c 0), (.v 2), true), (.leq, (.v 2), (.sln (.v 0)), true), (.lss, (.v 1), (.c 65536), true)], [], [(0, 1, (.v 1))], [], [], []⟩ (V := (vals [a0, (o1.1.length : Int), o1.2] [(o1.1.flatMap enS)])) (n := 3000) (f := 3000) (fid := 95) (fun _ => rfl) ⟨⟨leq_t h2, leq_t h3, lss_t h4, tv⟩, tv, ⟨flat_length enS_len _, tv⟩, tv, tv⟩ tv (R := ⟨.gs 0 0 (.v 0) 1 true, [some (.rows 0 [] 9 false)], [some (2, 0)]⟩) (qs := [.num (.add .i64 (.v 1) (.c 1)) (.v 0), .lst 0 (some 0) [.ss (.cut (.v 0) (.v 2) (.sln (.v 0)))]]) tv ⟨rfl, tv⟩ hF hr (by kernel_rfl) ⟨(show (IntKind.wrap .i64 ((o1.1.length : Int) + (1 : Int))) = ((o1.1 ++ [(scut a0 o1.2 (sln a0))]).length : Int) by first | rfl | (simp only [List.length_append, List.length_cons, List.length_nil]; rw [IntKind.wrap_i64]; omega)), ⟨_, rfl, List.flatMap_append⟩, tv⟩ hat
    ·rw [if_neg h4] at h
     cases h
   ·rw [if_neg h3] at h
    cases h
  ·rw [if_neg h2] at h
   cases h
def b_Number_L1 (fu : Nat) (p0 : Int) : Nat → Int → Int → Option ((Unit) ⊕ (Int))
 | 0, _, _ => none
 | n + 1, v1, v2 => if v2 < (sln p0) then (if (0 : Int) ≤ v2 then (if (sat p0 v2) < (48 : Int) then (some (.inl ())) else (if (57 : Int) < (sat p0 v2) then (some (.inl ())) else (b_Number_L1 fu p0 n (IntKind.wrap .i64 ((IntKind.wrap .i64 ((10 : Int) * v1)) + (IntKind.wrap .i64 (IntKind.wrap .u8 ((sat p0 v2) - (48 : Int)))))) (IntKind.wrap .i64 (v2 + (1 : Int)))))) else none) else (some (.inr v1))
theorem b_Number_L1_ok (fu : Nat) (p0 : Int) : ∀ (n : Nat) (v1 : Int) (v2 : Int) (o : (Unit) ⊕ (Int)), b_Number_L1 fu p0 n v1 v2 = some o → ∀ (φ0 : Phi) (w0 : World) (F : Fence) (k : Nat) (R : Exit → Act → World → Prop) (a : Act) (w : World), FW F → F.round = none → AtS (vals [p0, v1, v2] []) [(0, .ss (.v 0)), (6, .int .i64 1), (7, (ys 1)), (8, (ys 2))] [] 70 0 0 φ0 w0 a w → (∀ (y : Unit), o = .inl y → ∀ a' w', AtS (vals [] []) [(4, .int .i64 0), (5, .bool false)] [] 70 0 0 φ0 w0 a' w' → R Exit.ret a' w') → (∀ (y : Int), o = .inr y → ∀ a' w', AtS (vals [y] []) [(6, .int .i64 1), (7, (ys 0))] [] 70 0 0 φ0 w0 a' w' → R (Exit.exit 0) a' w') → Code.roundsIn F k Tryz.prog (subAt (bodyOf Tryz.prog 199) [1, 1, 1, 1, 1, 0, 1, 0, 0]) R n a w
 | 0, _, _, _, h => by cases h
 | n + 1, v1, v2, o, h => by
  intro φ0 w0 F k R a w hF hr hat hx0 hx1
  rw [b_Number_L1] at h
  refine rounds_in (p := [1, 1, 1, 1, 1, 0, 1, 0, 0]) ?_
  by_cases h1 : v2 < (sln p0)
  ·rw [if_pos h1] at h
   by_cases h2 : (0 : Int) ≤ v2
   ·rw [if_pos h2] at h
    by_cases h3 : (sat p0 v2) < (48 : Int)
    ·rw [if_pos h3] at h
     injection h with h; subst h
     exact to_done mixed ⟨[(.lss, (.v 2), (.sln (.v 0)), true), (.leq, (.c 0), (.v 2), true), (.lss, (.sat (.v 0) (.v 2)), (.c 48), true)], [], [], [], [], []⟩ (V := (vals [p0, v1, v2] [])) (n := 3000) (f := 3000) (fid := 199) (fun _ => rfl) (V' := (vals [] [])) ⟨⟨lss_t h1, leq_t h2, lss_t h3, tv⟩, tv, tv, tv, tv⟩ tv (T := ⟨[(4, .int .i64 0), (5, .bool false)], [], []⟩) (ce := .ret) (qs := []) rfl tv hF hr (by kernel_rfl) tv hat fun a' w' hat' => hx0 () rfl a' w' hat'
    ·rw [if_neg h3] at h
     by_cases h4 : (57 : Int) < (sat p0 v2)
     ·rw [if_pos h4] at h
      injection h with h; subst h
      exact to_done mixed ⟨[(.lss, (.v 2), (.sln (.v 0)), true), (.leq, (.c 0), (.v 2), true), (.lss, (.sat (.v 0) (.v 2)), (.c 48), false), (.gtr, (.sat (.v 0) (.v 2)), (.c 57), true)], [], [], [], [], []⟩ (V := (vals [p0, v1, v2] [])) (n := 3000) (f := 3000) (fid := 199) (fun _ => rfl) (V' := (vals [] [])) ⟨⟨lss_t h1, leq_t h2, lss_f h3, gtr_t h4, tv⟩, tv, tv, tv, tv⟩ tv (T := ⟨[(4, .int .i64 0), (5, .bool false)], [], []⟩) (ce := .ret) (qs := []) rfl tv hF hr (by kernel_rfl) tv hat fun a' w' hat' => hx0 () rfl a' w' hat'
     ·rw [if_neg h4] at h
      refine to_done mixed ⟨[(.lss, (.v 2), (.sln (.v 0)), true), (.leq, (.c 0), (.v 2), true), (.lss, (.sat (.v 0) (.v 2)), (.c 48), false), (.gtr, (.sat (.v 0) (.v 2)), (.c 57), false)], [], [], [], [], []⟩ (V := (vals [p0, v1, v2] [])) (n := 3000) (f := 3000) (fid := 199) (fun _ => rfl) (V' := (vals [p0, (IntKind.wrap .i64 ((IntKind.wrap .i64 ((10 : Int) * v1)) + (IntKind.wrap .i64 (IntKind.wrap .u8 ((sat p0 v2) - (48 : Int)))))), (IntKind.wrap .i64 (v2 + (1 : Int)))] [])) ⟨⟨lss_t h1, leq_t h2, lss_f h3, gtr_f h4, tv⟩, tv, tv, tv, tv⟩ tv (T := ⟨[(0, .ss (.v 0)), (6, .int .i64 1), (7, (ys 1)), (8, (ys 2))], [], []⟩) (ce := .normal) (qs := [(ns 0 0), .num (.add .i64 (.mul .i64 (.c 10) (.v 1)) (.wr .i64 (.sub .u8 (.sat (.v 0) (.v 2)) (.c 48)))) (.v 1), .num (.add .i64 (.v 2) (.c 1)) (.v 2)]) rfl tv hF hr (by kernel_rfl) ⟨(r p0), (show (IntKind.wrap .i64 ((IntKind.wrap .i64 ((10 : Int) * v1)) + (IntKind.wrap .i64 (IntKind.wrap .u8 ((sat p0 v2) - (48 : Int)))))) = (IntKind.wrap .i64 ((IntKind.wrap .i64 ((10 : Int) * v1)) + (IntKind.wrap .i64 (IntKind.wrap .u8 ((sat p0 v2) - (48 : Int)))))) from rfl), (r (IntKind.wrap .i64 (v2 + (1 : Int)))), tv⟩ hat fun a' w' hat' => ?_
      exact b_Number_L1_ok fu p0 n (IntKind.wrap .i64 ((IntKind.wrap .i64 ((10 : Int) * v1)) + (IntKind.wrap .i64 (IntKind.wrap .u8 ((sat p0 v2) - (48 : Int)))))) (IntKind.wrap .i64 (v2 + (1 : Int))) o h _ _ _ _ _ _ _ hF hr hat' hx0 hx1
   ·rw [if_neg h2] at h
    cases h
  ·rw [if_neg h1] at h
   injection h with h; subst h
   exact to_done mixed ⟨[(.lss, (.v 2), (.sln (.v 0)), false)], [], [], [], [], []⟩ (V := (vals [p0, v1, v2] [])) (n := 3000) (f := 3000) (fid := 199) (fun _ => rfl) (V' := (vals [v1] [])) ⟨⟨lss_f h1, tv⟩, tv, tv, tv, tv⟩ tv (T := ⟨[(6, .int .i64 1), (7, (ys 0))], [], []⟩) (ce := (.exit 0)) (qs := [(ns 1 0)]) rfl tv hF hr (by kernel_rfl) ⟨(r v1), tv⟩ hat fun a' w' hat' => hx1 v1 rfl a' w' hat'
def b_Number_L2 (fu : Nat) (p0 : Int) : Nat → Int → Int → Option ((Unit) ⊕ (Int))
 | 0, _, _ => none
 | n + 1, v1, v2 => if v2 < (sln p0) then (if (0 : Int) ≤ v2 then (if (sat p0 v2) < (48 : Int) then (some (.inl ())) else (if (57 : Int) < (sat p0 v2) then (some (.inl ())) else (b_Number_L2 fu p0 n (IntKind.wrap .i64 ((IntKind.wrap .i64 ((10 : Int) * v1)) + (IntKind.wrap .i64 (IntKind.wrap .u8 ((sat p0 v2) - (48 : Int)))))) (IntKind.wrap .i64 (v2 + (1 : Int)))))) else none) else (some (.inr v1))
theorem b_Number_L2_ok (fu : Nat) (p0 : Int) : ∀ (n : Nat) (v1 : Int) (v2 : Int) (o : (Unit) ⊕ (Int)), b_Number_L2 fu p0 n v1 v2 = some o → ∀ (φ0 : Phi) (w0 : World) (F : Fence) (k : Nat) (R : Exit → Act → World → Prop) (a : Act) (w : World), FW F → F.round = none → AtS (vals [p0, v1, v2] []) [(0, .ss (.v 0)), (6, .int .i64 0), (7, (ys 1)), (8, (ys 2))] [] 70 0 0 φ0 w0 a w → (∀ (y : Unit), o = .inl y → ∀ a' w', AtS (vals [] []) [(4, .int .i64 0), (5, .bool false)] [] 70 0 0 φ0 w0 a' w' → R Exit.ret a' w') → (∀ (y : Int), o = .inr y → ∀ a' w', AtS (vals [y] []) [(6, .int .i64 0), (7, (ys 0))] [] 70 0 0 φ0 w0 a' w' → R (Exit.exit 0) a' w') → Code.roundsIn F k Tryz.prog (subAt (bodyOf Tryz.prog 199) [1, 1, 1, 1, 1, 0, 1, 0, 0]) R n a w
 | 0, _, _, _, h => by cases h
 | n + 1, v1, v2, o, h => by
  intro φ0 w0 F k R a w hF hr hat hx0 hx1
  rw [b_Number_L2] at h
  refine rounds_in (p := [1, 1, 1, 1, 1, 0, 1, 0, 0]) ?_
  by_cases h1 : v2 < (sln p0)
  ·rw [if_pos h1] at h
   by_cases h2 : (0 : Int) ≤ v2
   ·rw [if_pos h2] at h
    by_cases h3 : (sat p0 v2) < (48 : Int)
    ·rw [if_pos h3] at h
     injection h with h; subst h
     exact to_done mixed ⟨[(.lss, (.v 2), (.sln (.v 0)), true), (.leq, (.c 0), (.v 2), true), (.lss, (.sat (.v 0) (.v 2)), (.c 48), true)], [], [], [], [], []⟩ (V := (vals [p0, v1, v2] [])) (n := 3000) (f := 3000) (fid := 199) (fun _ => rfl) (V' := (vals [] [])) ⟨⟨lss_t h1, leq_t h2, lss_t h3, tv⟩, tv, tv, tv, tv⟩ tv (T := ⟨[(4, .int .i64 0), (5, .bool false)], [], []⟩) (ce := .ret) (qs := []) rfl tv hF hr (by kernel_rfl) tv hat fun a' w' hat' => hx0 () rfl a' w' hat'
    ·rw [if_neg h3] at h
     by_cases h4 : (57 : Int) < (sat p0 v2)
     ·rw [if_pos h4] at h
      injection h with h; subst h
      exact to_done mixed ⟨[(.lss, (.v 2), (.sln (.v 0)), true), (.leq, (.c 0), (.v 2), true), (.lss, (.sat (.v 0) (.v 2)), (.c 48), false), (.gtr, (.sat (.v 0) (.v 2)), (.c 57), true)], [], [], [], [], []⟩ (V := (vals [p0, v1, v2] [])) (n := 3000) (f := 3000) (fid := 199) (fun _ => rfl) (V' := (vals [] [])) ⟨⟨lss_t h1, leq_t h2, lss_f h3, gtr_t h4, tv⟩, tv, tv, tv, tv⟩ tv (T := ⟨[(4, .int .i64 0), (5, .bool false)], [], []⟩) (ce := .ret) (qs := []) rfl tv hF hr (by kernel_rfl) tv hat fun a' w' hat' => hx0 () rfl a' w' hat'
     ·rw [if_neg h4] at h
      refine to_done mixed ⟨[(.lss, (.v 2), (.sln (.v 0)), true), (.leq, (.c 0), (.v 2), true), (.lss, (.sat (.v 0) (.v 2)), (.c 48), false), (.gtr, (.sat (.v 0) (.v 2)), (.c 57), false)], [], [], [], [], []⟩ (V := (vals [p0, v1, v2] [])) (n := 3000) (f := 3000) (fid := 199) (fun _ => rfl) (V' := (vals [p0, (IntKind.wrap .i64 ((IntKind.wrap .i64 ((10 : Int) * v1)) + (IntKind.wrap .i64 (IntKind.wrap .u8 ((sat p0 v2) - (48 : Int)))))), (IntKind.wrap .i64 (v2 + (1 : Int)))] [])) ⟨⟨lss_t h1, leq_t h2, lss_f h3, gtr_f h4, tv⟩, tv, tv, tv, tv⟩ tv (T := ⟨[(0, .ss (.v 0)), (6, .int .i64 0), (7, (ys 1)), (8, (ys 2))], [], []⟩) (ce := .normal) (qs := [(ns 0 0), .num (.add .i64 (.mul .i64 (.c 10) (.v 1)) (.wr .i64 (.sub .u8 (.sat (.v 0) (.v 2)) (.c 48)))) (.v 1), .num (.add .i64 (.v 2) (.c 1)) (.v 2)]) rfl tv hF hr (by kernel_rfl) ⟨(r p0), (show (IntKind.wrap .i64 ((IntKind.wrap .i64 ((10 : Int) * v1)) + (IntKind.wrap .i64 (IntKind.wrap .u8 ((sat p0 v2) - (48 : Int)))))) = (IntKind.wrap .i64 ((IntKind.wrap .i64 ((10 : Int) * v1)) + (IntKind.wrap .i64 (IntKind.wrap .u8 ((sat p0 v2) - (48 : Int)))))) from rfl), (r (IntKind.wrap .i64 (v2 + (1 : Int)))), tv⟩ hat fun a' w' hat' => ?_
      exact b_Number_L2_ok fu p0 n (IntKind.wrap .i64 ((IntKind.wrap .i64 ((10 : Int) * v1)) + (IntKind.wrap .i64 (IntKind.wrap .u8 ((sat p0 v2) - (48 : Int)))))) (IntKind.wrap .i64 (v2 + (1 : Int))) o h _ _ _ _ _ _ _ hF hr hat' hx0 hx1
   ·rw [if_neg h2] at h
    cases h
  ·rw [if_neg h1] at h
   injection h with h; subst h
   exact to_done mixed ⟨[(.lss, (.v 2), (.sln (.v 0)), false)], [], [], [], [], []⟩ (V := (vals [p0, v1, v2] [])) (n := 3000) (f := 3000) (fid := 199) (fun _ => rfl) (V' := (vals [v1] [])) ⟨⟨lss_f h1, tv⟩, tv, tv, tv, tv⟩ tv (T := ⟨[(6, .int .i64 0), (7, (ys 0))], [], []⟩) (ce := (.exit 0)) (qs := [(ns 1 0)]) rfl tv hF hr (by kernel_rfl) ⟨(r v1), tv⟩ hat fun a' w' hat' => hx1 v1 rfl a' w' hat'
def b_Number (fu : Nat) (a0 : Int) (a1 : Int) : Option (Int × Bool) := if (0 : Int) < (sln a0) then (if (sat a0 (0 : Int)) = (45 : Int) then (if (sln a0) = (1 : Int) then (some ((0 : Int), false)) else (if a1 < (IntKind.wrap .i64 ((sln a0) - (1 : Int))) then (some ((0 : Int), false)) else (if (1 : Int) < (sln a0) then (if (sat a0 (1 : Int)) = (48 : Int) then (some ((0 : Int), false)) else (Option.bind (b_Number_L1 fu a0 fu (0 : Int) (1 : Int)) fun o9 => (match o9 with | .inl y10 => (some ((0 : Int), false)) | .inr y11 => (some ((IntKind.wrap .i64 ((0 : Int) - y11)), true))))) else none))) else (if a1 < (IntKind.wrap .i64 ((sln a0) - (0 : Int))) then (some ((0 : Int), false)) else (if (sat a0 (0 : Int)) = (48 : Int) then (if (1 : Int) < (sln a0) then (some ((0 : Int), false)) else (Option.bind (b_Number_L2 fu a0 fu (0 : Int) (0 : Int)) fun o16 => (match o16 with | .inl y17 => (some ((0 : Int), false)) | .inr y18 => (some (y18, true))))) else (Option.bind (b_Number_L2 fu a0 fu (0 : Int) (0 : Int)) fun o19 => (match o19 with | .inl y20 => (some ((0 : Int), false)) | .inr y21 => (some (y21, true))))))) else (if (sln a0) = (0 : Int) then (some ((0 : Int), false)) else (if a1 < (IntKind.wrap .i64 ((sln a0) - (0 : Int))) then (some ((0 : Int), false)) else none))
theorem b_Number_ok (fu : Nat) (a0 : Int) (a1 : Int) (y : Int × Bool) (h : b_Number fu a0 a1 = some y) : CallOk Tryz.prog 199 (vals [a0, a1] []) [.ss (.v 0), (ys 1)] [] 0 (vals [y.1, bI y.2] []) (.tup [(ys 0), .bs (.v 1)]) [] := by
 refine fun_of (nt := 70) (by kernel_rfl) (by kernel_rfl) fun φ0 w0 a w hat => ?_
 have hF := wide_fw
 have hr : Fence.wide.round = none := rfl
 unfold b_Number at h
 by_cases h1 : (0 : Int) < (sln a0)
 ·rw [if_pos h1] at h
  by_cases h3 : (sat a0 (0 : Int)) = (45 : Int)
  ·rw [if_pos h3] at h
   by_cases h4 : (sln a0) = (1 : Int)
   ·rw [if_pos h4] at h
    injection h with h; subst h
    exact to_fin mixed ⟨[(.gtr, (.sln (.v 0)), (.c 0), true), (.lss, (.c 0), (.sln (.v 0)), true), (.eql, (.sat (.v 0) (.c 0)), (.c 45), true), (.eql, (.sln (.v 0)), (.c 1), true)], [], [], [], [], []⟩ (V := (vals [a0, a1] [])) (n := 3000) (f := 3000) (fid := 199) (fun _ => rfl) ⟨⟨gtr_t h1, lss_t (a := (0 : Int)) (b := (sln a0)) (by omega), eql_t h3, eql_t h4, tv⟩, tv, tv, tv, tv⟩ tv (R := ⟨.tup [(ys 0), .bs (.v 1)], [], []⟩) (qs := [.num (.c 0) (.v 0), .num (.c 0) (.v 1)]) wok0 tv hF hr (by kernel_rfl) ⟨(r (0 : Int)), rfl, tv⟩ hat
   ·rw [if_neg h4] at h
    by_cases h5 : a1 < (IntKind.wrap .i64 ((sln a0) - (1 : Int)))
    ·rw [if_pos h5] at h
     injection h with h; subst h
     exact to_fin mixed ⟨[(.gtr, (.sln (.v 0)), (.c 0), true), (.lss, (.c 0), (.sln (.v 0)), true), (.eql, (.sat (.v 0) (.c 0)), (.c 45), true), (.eql, (.sln (.v 0)), (.c 1), false), (.gtr, (.sub .i64 (.sln (.v 0)) (.c 1)), (.v 1), true)], [], [], [], [], []⟩ (V := (vals [a0, a1] [])) (n := 3000) (f := 3000) (fid := 199) (fun _ => rfl) ⟨⟨gtr_t h1, lss_t (a := (0 : Int)) (b := (sln a0)) (by omega), eql_t h3, eql_f h4, gtr_t h5, tv⟩, tv, tv, tv, tv⟩ tv (R := ⟨.tup [(ys 0), .bs (.v 1)], [], []⟩) (qs := [.num (.c 0) (.v 0), .num (.c 0) (.v 1)]) wok0 tv hF hr (by kernel_rfl) ⟨(r (0 : Int)), rfl, tv⟩ hat
    ·rw [if_neg h5] at h
     by_cases h6 : (1 : Int) < (sln a0)
     ·rw [if_pos h6] at h
      by_cases h7 : (sat a0 (1 : Int)) = (48 : Int)
      ·rw [if_pos h7] at h
       injection h with h; subst h
       exact to_fin mixed ⟨[(.gtr, (.sln (.v 0)), (.c 0), true), (.lss, (.c 0), (.sln (.v 0)), true), (.eql, (.sat (.v 0) (.c 0)), (.c 45), true), (.eql, (.sln (.v 0)), (.c 1), false), (.gtr, (.sub .i64 (.sln (.v 0)) (.c 1)), (.v 1), false), (.lss, (.c 1), (.sln (.v 0)), true), (.eql, (.sat (.v 0) (.c 1)), (.c 48), true), (.gtr, (.sln (.v 0)), (.c 1), true)], [], [], [], [], []⟩ (V := (vals [a0, a1] [])) (n := 3000) (f := 3000) (fid := 199) (fun _ => rfl) ⟨⟨gtr_t h1, lss_t (a := (0 : Int)) (b := (sln a0)) (by omega), eql_t h3, eql_f h4, gtr_f h5, lss_t h6, eql_t h7, gtr_t (a := (sln a0)) (b := (1 : Int)) (by omega), tv⟩, tv, tv, tv, tv⟩ tv (R := ⟨.tup [(ys 0), .bs (.v 1)], [], []⟩) (qs := [.num (.c 0) (.v 0), .num (.c 0) (.v 1)]) wok0 tv hF hr (by kernel_rfl) ⟨(r (0 : Int)), rfl, tv⟩ hat
      ·rw [if_neg h7] at h
       obtain ⟨o9, ho9, h⟩ := bs1 h
       refine to_loop mixed ⟨[(.gtr, (.sln (.v 0)), (.c 0), true), (.lss, (.c 0), (.sln (.v 0)), true), (.eql, (.sat (.v 0) (.c 0)), (.c 45), true), (.eql, (.sln (.v 0)), (.c 1), false), (.gtr, (.sub .i64 (.sln (.v 0)) (.c 1)), (.v 1), false), (.lss, (.c 1), (.sln (.v 0)), true), (.eql, (.sat (.v 0) (.c 1)), (.c 48), false)], [], [], [], [], []⟩ (V := (vals [a0, a1] [])) (n := 3000) (f := 3000) (fid := 199) (fun _ => rfl) (V' := (vals [a0, (0 : Int), (1 : Int)] [])) ⟨⟨gtr_t h1, lss_t (a := (0 : Int)) (b := (sln a0)) (by omega), eql_t h3, eql_f h4, gtr_f h5, lss_t h6, eql_f h7, tv⟩, tv, tv, tv, tv⟩ tv (T := ⟨[(0, .ss (.v 0)), (6, .int .i64 1), (7, (ys 1)), (8, (ys 2))], [], []⟩) (B := subAt (bodyOf Tryz.prog 199) [1, 1, 1, 1, 1, 0, 1, 0, 0]) (K' := [.bk 0, .sq (subAt (bodyOf Tryz.prog 199) [1, 1, 1, 1, 1, 1]) [1, 1, 1, 1, 1, 1]]) (qs := [(ns 0 0), .num (.c 0) (.v 1), .num (.c 1) (.v 2)]) wok0 tv hF hr (by kernel_rfl) ⟨(r a0), (r (0 : Int)), (r (1 : Int)), tv⟩ hat fun aa1 ww1 hat1 => loop_in (b_Number_L1_ok fu a0 fu (0 : Int) (1 : Int) o9 ho9 _ _ _ _ _ _ _ hF hr hat1 ?_ ?_)
       ·intro y10 hy aa2 ww2 hat
        subst hy
        dsimp only at h
        show (Wk.out .ret).goal _ _ _ [.bk 0, .sq (subAt (bodyOf Tryz.prog 199) [1, 1, 1, 1, 1, 1]) [1, 1, 1, 1, 1, 1]] _ aa2 ww2
        injection h with h; subst h
        exact to_fin mixed ⟨[], [], [], [], [], []⟩ (V := (vals [] [])) (n := 3000) (f := 3000) (fid := 199) (fun _ => rfl) ⟨tv, tv, tv, tv, tv⟩ tv (R := ⟨.tup [(ys 0), .bs (.v 1)], [], []⟩) (qs := [.num (.c 0) (.v 0), .num (.c 0) (.v 1)]) tv ⟨rfl, tv⟩ hF hr (by kernel_rfl) ⟨(r (0 : Int)), rfl, tv⟩ hat
       ·intro y11 hy aa2 ww2 hat
        subst hy
        dsimp only at h
        show (Wk.out (.exit 0)).goal _ _ _ [.bk 0, .sq (subAt (bodyOf Tryz.prog 199) [1, 1, 1, 1, 1, 1]) [1, 1, 1, 1, 1, 1]] _ aa2 ww2
        injection h with h; subst h
        exact to_fin mixed ⟨[], [], [], [], [], []⟩ (V := (vals [y11] [])) (n := 3000) (f := 3000) (fid := 199) (fun _ => rfl) ⟨tv, tv, tv, tv, tv⟩ tv (R := ⟨.tup [(ys 0), .bs (.v 1)], [], []⟩) (qs := [.num (.sub .i64 (.c 0) (.v 0)) (.v 0), .num (.c 1) (.v 1)]) tv ⟨rfl, tv⟩ hF hr (by kernel_rfl) ⟨(show (IntKind.wrap .i64 ((0 : Int) - y11)) = (IntKind.wrap .i64 ((0 : Int) - y11)) from rfl), rfl, tv⟩ hat
     ·rw [if_neg h6] at h
      cases h
  ·rw [if_neg h3] at h
   by_cases h13 : a1 < (IntKind.wrap .i64 ((sln a0) - (0 : Int)))
   ·rw [if_pos h13] at h
    injection h with h; subst h
    exact to_fin mixed ⟨[(.gtr, (.sln (.v 0)), (.c 0), true), (.lss, (.c 0), (.sln (.v 0)), true), (.eql, (.sat (.v 0) (.c 0)), (.c 45), false), (.eql, (.sln (.v 0)), (.c 0), false), (.gtr, (.sub .i64 (.sln (.v 0)) (.c 0)), (.v 1), true)], [], [], [], [], []⟩ (V := (vals [a0, a1] [])) (n := 3000) (f := 3000) (fid := 199) (fun _ => rfl) ⟨⟨gtr_t h1, lss_t (a := (0 : Int)) (b := (sln a0)) (by omega), eql_f h3, eql_f (a := (sln a0)) (b := (0 : Int)) (by omega), gtr_t h13, tv⟩, tv, tv, tv, tv⟩ tv (R := ⟨.tup [(ys 0), .bs (.v 1)], [], []⟩) (qs := [.num (.c 0) (.v 0), .num (.c 0) (.v 1)]) wok0 tv hF hr (by kernel_rfl) ⟨(r (0 : Int)), rfl, tv⟩ hat
   ·rw [if_neg h13] at h
    by_cases h14 : (sat a0 (0 : Int)) = (48 : Int)
    ·rw [if_pos h14] at h
     by_cases h15 : (1 : Int) < (sln a0)
     ·rw [if_pos h15] at h
      injection h with h; subst h
      exact to_fin mixed ⟨[(.gtr, (.sln (.v 0)), (.c 0), true), (.lss, (.c 0), (.sln (.v 0)), true), (.eql, (.sat (.v 0) (.c 0)), (.c 45), false), (.eql, (.sln (.v 0)), (.c 0), false), (.gtr, (.sub .i64 (.sln (.v 0)) (.c 0)), (.v 1), false), (.eql, (.sat (.v 0) (.c 0)), (.c 48), true), (.gtr, (.sln (.v 0)), (.c 1), true)], [], [], [], [], []⟩ (V := (vals [a0, a1] [])) (n := 3000) (f := 3000) (fid := 199) (fun _ => rfl) ⟨⟨gtr_t h1, lss_t (a := (0 : Int)) (b := (sln a0)) (by omega), eql_f h3, eql_f (a := (sln a0)) (b := (0 : Int)) (by omega), gtr_f h13, eql_t h14, gtr_t h15, tv⟩, tv, tv, tv, tv⟩ tv (R := ⟨.tup [(ys 0), .bs (.v 1)], [], []⟩) (qs := [.num (.c 0) (.v 0), .num (.c 0) (.v 1)]) wok0 tv hF hr (by kernel_rfl) ⟨(r (0 : Int)), rfl, tv⟩ hat
     ·rw [if_neg h15] at h
      obtain ⟨o16, ho16, h⟩ := bs1 h
      refine to_loop mixed ⟨[(.gtr, (.sln (.v 0)), (.c 0), true), (.lss, (.c 0), (.sln (.v 0)), true), (.eql, (.sat (.v 0) (.c 0)), (.c 45), false), (.eql, (.sln (.v 0)), (.c 0), false), (.gtr, (.sub .i64 (.sln (.v 0)) (.c 0)), (.v 1), false), (.eql, (.sat (.v 0) (.c 0)), (.c 48), true), (.gtr, (.sln (.v 0)), (.c 1), false)], [], [], [], [], []⟩ (V := (vals [a0, a1] [])) (n := 3000) (f := 3000) (fid := 199) (fun _ => rfl) (V' := (vals [a0, (0 : Int), (0 : Int)] [])) ⟨⟨gtr_t h1, lss_t (a := (0 : Int)) (b := (sln a0)) (by omega), eql_f h3, eql_f (a := (sln a0)) (b := (0 : Int)) (by omega), gtr_f h13, eql_t h14, gtr_f h15, tv⟩, tv, tv, tv, tv⟩ tv (T := ⟨[(0, .ss (.v 0)), (6, .int .i64 0), (7, (ys 1)), (8, (ys 2))], [], []⟩) (B := subAt (bodyOf Tryz.prog 199) [1, 1, 1, 1, 1, 0, 1, 0, 0]) (K' := [.bk 0, .sq (subAt (bodyOf Tryz.prog 199) [1, 1, 1, 1, 1, 1]) [1, 1, 1, 1, 1, 1]]) (qs := [(ns 0 0), .num (.c 0) (.v 1), .num (.c 0) (.v 2)]) wok0 tv hF hr (by kernel_rfl) ⟨(r a0), (r (0 : Int)), (r (0 : Int)), tv⟩ hat fun aa1 ww1 hat1 => loop_in (b_Number_L2_ok fu a0 fu (0 : Int) (0 : Int) o16 ho16 _ _ _ _ _ _ _ hF hr hat1 ?_ ?_)
      ·intro y17 hy aa2 ww2 hat
       subst hy
       dsimp only at h
       show (Wk.out .ret).goal _ _ _ [.bk 0, .sq (subAt (bodyOf Tryz.prog 199) [1, 1, 1, 1, 1, 1]) [1, 1, 1, 1, 1, 1]] _ aa2 ww2
       injection h with h; subst h
       exact to_fin mixed ⟨[], [], [], [], [], []⟩ (V := (vals [] [])) (n := 3000) (f := 3000) (fid := 199) (fun _ => rfl) ⟨tv, tv, tv, tv, tv⟩ tv (R := ⟨.tup [(ys 0), .bs (.v 1)], [], []⟩) (qs := [.num (.c 0) (.v 0), .num (.c 0) (.v 1)]) tv ⟨rfl, tv⟩ hF hr (by kernel_rfl) ⟨(r (0 : Int)), rfl, tv⟩ hat
      ·intro y18 hy aa2 ww2 hat
       subst hy
       dsimp only at h
       show (Wk.out (.exit 0)).goal _ _ _ [.bk 0, .sq (subAt (bodyOf Tryz.prog 199) [1, 1, 1, 1, 1, 1]) [1, 1, 1, 1, 1, 1]] _ aa2 ww2
       injection h with h; subst h
       exact to_fin mixed ⟨[], [], [], [], [], []⟩ (V := (vals [y18] [])) (n := 3000) (f := 3000) (fid := 199) (fun _ => rfl) ⟨tv, tv, tv, tv, tv⟩ tv (R := ⟨.tup [(ys 0), .bs (.v 1)], [], []⟩) (qs := [(ns 0 0), .num (.c 1) (.v 1)]) tv ⟨rfl, tv⟩ hF hr (by kernel_rfl) ⟨(r y18), rfl, tv⟩ hat
    ·rw [if_neg h14] at h
     obtain ⟨o19, ho19, h⟩ := bs1 h
     refine to_loop mixed ⟨[(.gtr, (.sln (.v 0)), (.c 0), true), (.lss, (.c 0), (.sln (.v 0)), true), (.eql, (.sat (.v 0) (.c 0)), (.c 45), false), (.eql, (.sln (.v 0)), (.c 0), false), (.gtr, (.sub .i64 (.sln (.v 0)) (.c 0)), (.v 1), false), (.eql, (.sat (.v 0) (.c 0)), (.c 48), false)], [], [], [], [], []⟩ (V := (vals [a0, a1] [])) (n := 3000) (f := 3000) (fid := 199) (fun _ => rfl) (V' := (vals [a0, (0 : Int), (0 : Int)] [])) ⟨⟨gtr_t h1, lss_t (a := (0 : Int)) (b := (sln a0)) (by omega), eql_f h3, eql_f (a := (sln a0)) (b := (0 : Int)) (by omega), gtr_f h13, eql_f h14, tv⟩, tv, tv, tv, tv⟩ tv (T := ⟨[(0, .ss (.v 0)), (6, .int .i64 0), (7, (ys 1)), (8, (ys 2))], [], []⟩) (B := subAt (bodyOf Tryz.prog 199) [1, 1, 1, 1, 1, 0, 1, 0, 0]) (K' := [.bk 0, .sq (subAt (bodyOf Tryz.prog 199) [1, 1, 1, 1, 1, 1]) [1, 1, 1, 1, 1, 1]]) (qs := [(ns 0 0), .num (.c 0) (.v 1), .num (.c 0) (.v 2)]) wok0 tv hF hr (by kernel_rfl) ⟨(r a0), (r (0 : Int)), (r (0 : Int)), tv⟩ hat fun aa1 ww1 hat1 => loop_in (b_Number_L2_ok fu a0 fu (0 : Int) (0 : Int) o19 ho19 _ _ _ _ _ _ _ hF hr hat1 ?_ ?_)
     ·intro y20 hy aa2 ww2 hat
      subst hy
      dsimp only at h
      show (Wk.out .ret).goal _ _ _ [.bk 0, .sq (subAt (bodyOf Tryz.prog 199) [1, 1, 1, 1, 1, 1]) [1, 1, 1, 1, 1, 1]] _ aa2 ww2
      injection h with h; subst h
      exact to_fin mixed ⟨[], [], [], [], [], []⟩ (V := (vals [] [])) (n := 3000) (f := 3000) (fid := 199) (fun _ => rfl) ⟨tv, tv, tv, tv, tv⟩ tv (R := ⟨.tup [(ys 0), .bs (.v 1)], [], []⟩) (qs := [.num (.c 0) (.v 0), .num (.c 0) (.v 1)]) tv ⟨rfl, tv⟩ hF hr (by kernel_rfl) ⟨(r (0 : Int)), rfl, tv⟩ hat
     ·intro y21 hy aa2 ww2 hat
      subst hy
      dsimp only at h
      show (Wk.out (.exit 0)).goal _ _ _ [.bk 0, .sq (subAt (bodyOf Tryz.prog 199) [1, 1, 1, 1, 1, 1]) [1, 1, 1, 1, 1, 1]] _ aa2 ww2
      injection h with h; subst h
      exact to_fin mixed ⟨[], [], [], [], [], []⟩ (V := (vals [y21] [])) (n := 3000) (f := 3000) (fid := 199) (fun _ => rfl) ⟨tv, tv, tv, tv, tv⟩ tv (R := ⟨.tup [(ys 0), .bs (.v 1)], [], []⟩) (qs := [(ns 0 0), .num (.c 1) (.v 1)]) tv ⟨rfl, tv⟩ hF hr (by kernel_rfl) ⟨(r y21), rfl, tv⟩ hat
 ·rw [if_neg h1] at h
  by_cases h22 : (sln a0) = (0 : Int)
  ·rw [if_pos h22] at h
   injection h with h; subst h
   exact to_fin mixed ⟨[(.gtr, (.sln (.v 0)), (.c 0), false), (.eql, (.sln (.v 0)), (.c 0), true)], [], [], [], [], []⟩ (V := (vals [a0, a1] [])) (n := 3000) (f := 3000) (fid := 199) (fun _ => rfl) ⟨⟨gtr_f h1, eql_t h22, tv⟩, tv, tv, tv, tv⟩ tv (R := ⟨.tup [(ys 0), .bs (.v 1)], [], []⟩) (qs := [.num (.c 0) (.v 0), .num (.c 0) (.v 1)]) wok0 tv hF hr (by kernel_rfl) ⟨(r (0 : Int)), rfl, tv⟩ hat
  ·rw [if_neg h22] at h
   by_cases h23 : a1 < (IntKind.wrap .i64 ((sln a0) - (0 : Int)))
   ·rw [if_pos h23] at h
    injection h with h; subst h
    exact to_fin mixed ⟨[(.gtr, (.sln (.v 0)), (.c 0), false), (.eql, (.sln (.v 0)), (.c 0), false), (.gtr, (.sub .i64 (.sln (.v 0)) (.c 0)), (.v 1), true)], [], [], [], [], []⟩ (V := (vals [a0, a1] [])) (n := 3000) (f := 3000) (fid := 199) (fun _ => rfl) ⟨⟨gtr_f h1, eql_f h22, gtr_t h23, tv⟩, tv, tv, tv, tv⟩ tv (R := ⟨.tup [(ys 0), .bs (.v 1)], [], []⟩) (qs := [.num (.c 0) (.v 0), .num (.c 0) (.v 1)]) wok0 tv hF hr (by kernel_rfl) ⟨(r (0 : Int)), rfl, tv⟩ hat
   ·rw [if_neg h23] at h
    cases h
def b_Within (a0 : Int) (a1 : Int) (a2 : Int) : Option (Bool) := if a1 ≤ a0 then (if a0 ≤ a2 then (some true) else (some false)) else (some false)
theorem b_Within_ok (a0 : Int) (a1 : Int) (a2 : Int) (y : Bool) (h : b_Within a0 a1 a2 = some y) : CallOk Tryz.prog 71 (vals [a0, a1, a2] []) [(ys 0), (ys 1), (ys 2)] [] 0 (vals [bI y] []) (.bs (.v 0)) [] := by
 refine fun_of (nt := 15) (by kernel_rfl) (by kernel_rfl) fun φ0 w0 a w hat => ?_
 have hF := wide_fw
 have hr : Fence.wide.round = none := rfl
 unfold b_Within at h
 by_cases h1 : a1 ≤ a0
 ·rw [if_pos h1] at h
  by_cases h2 : a0 ≤ a2
  ·rw [if_pos h2] at h
   injection h with h; subst h
   exact to_fin mixed ⟨[(.leq, (.v 1), (.v 0), true), (.leq, (.v 0), (.v 2), true)], [], [], [], [], []⟩ (V := (vals [a0, a1, a2] [])) (n := 3000) (f := 3000) (fid := 71) (fun _ => rfl) ⟨⟨leq_t h1, leq_t h2, tv⟩, tv, tv, tv, tv⟩ tv (R := ⟨.bs (.v 0), [], []⟩) (qs := [.num (.c 1) (.v 0)]) wok0 tv hF hr (by kernel_rfl) ⟨rfl, tv⟩ hat
  ·rw [if_neg h2] at h
   injection h with h; subst h
   exact to_fin mixed ⟨[(.leq, (.v 1), (.v 0), true), (.leq, (.v 0), (.v 2), false)], [], [], [], [], []⟩ (V := (vals [a0, a1, a2] [])) (n := 3000) (f := 3000) (fid := 71) (fun _ => rfl) ⟨⟨leq_t h1, leq_f h2, tv⟩, tv, tv, tv, tv⟩ tv (R := ⟨.bs (.v 0), [], []⟩) (qs := [.num (.c 0) (.v 0)]) wok0 tv hF hr (by kernel_rfl) ⟨rfl, tv⟩ hat
 ·rw [if_neg h1] at h
  injection h with h; subst h
  exact to_fin mixed ⟨[(.leq, (.v 1), (.v 0), false)], [], [], [], [], []⟩ (V := (vals [a0, a1, a2] [])) (n := 3000) (f := 3000) (fid := 71) (fun _ => rfl) ⟨⟨leq_f h1, tv⟩, tv, tv, tv, tv⟩ tv (R := ⟨.bs (.v 0), [], []⟩) (qs := [.num (.c 0) (.v 0)]) wok0 tv hF hr (by kernel_rfl) ⟨rfl, tv⟩ hat
end Go.Proofs.YtlfmdkmjfokgbaaGreatDoor
