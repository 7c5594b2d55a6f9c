import PyProof.Rows.All
import Wide.All
import OpenK.AllK
import Wide.FinOn
import HandS.Defaults
import KE.RegKIsAll
import KE.KLam
import KE.KNestM
import HandS.EndTab
import HandS.Head3
import HandS.ForMost
import HandS.Evl
import HandS.IsInst
import HandS.Wide
import HandS.Zip
import HandS.Walk
import HandS.Style
import HandS.TupAny
import HandS.TupMul
import HandS.Sort
import KE.GoesMore
import HandS.HotCalls
import HandS.Lambda
import HandS.ExcCtx
import HandS.ExcIs
import HandS.Text
import HandS.TupSets
import HandS.TupLen
import KE.KDictDisplayH
import HandS.SortInts
import HandS.DictComp
import HandS.Conv
import HandS.SortOrd
import HandS.SortRule
import HandS.Deep
import KE.KDictSum
import KE.KeyNested
import KE.KDictWalk
import KE.KDictList
import KE.GoesZip
import HandS.TryOnly
import HandS.ExcInit
import HandS.ExcField
import HandS.FStr
import HandS.Iter
import KE.DataMinMax
import HandS.Replace
import HandS.RaiseMore
import HandS.More
import HandS.HeadHook3
import HandS.Star
import PyProof.DictUpdate
import KE.SortKeyHeap
import KE.SortLaws
import KE.SortData
import OpenK.KOps
import HandS.WordsDict
import HandS.SlotsOwn
import PyProof.CallStr
import PyProof.InstEq
import PyProof.ExcBaseAll.LookupError
import PyProof.InstStoreFacts
import PyProof.DictDisplay
import HandS.CallLocal
import HandS.SetFor
import HandS.Strs
import HandS.SetBool
import KE.KEqDict
import HandS.Set
import HandS.MakeKwOnly
import KE.GoesEnumKw
import PySem.Challenge.RW_cotide_k56_full_at_the_desk
set_option Elab.async false
set_option linter.all false
set_option maxRecDepth 100000
set_option maxHeartbeats 4000000
set_option Elab.async false
set_option linter.all false
set_option maxRecDepth 100000
set_option maxHeartbeats 4000000
namespace Cot
open PySem PySem.W PySem.Calls PyProof.Rows HandSHeadRun
/-- the run told in three looks, each on both sides of special-get-raises -/
theorem left_km {r : OpenRow} {q : Program} {H : Hook} {N : Nat} {loose : List PySem.Str}
    {K : Params → Frag} {as : List Addr} {ek : ∀ P, as = (K P).map (·.1)} {ts : List Addr} (hH : H = kmHook K as ek ts)
    (r1f : ∀ w : World, (wholeF (fun p => stepQ (denQ tabQ) p (w.withFollow "special-get-raises" false)) fenceQ N r.prog).map (fun x => looksF r.prog x.1.heap x.2.abs) = some true)
    (r1t : ∀ w : World, (wholeF (fun p => stepQ (denQ tabQ) p (w.withFollow "special-get-raises" true)) fenceQ N r.prog).map (fun x => looksF r.prog x.1.heap x.2.abs) = some true)
    (s1f : ∀ w : World, (wholeF (fun p => stepQ (denQ tabQ) p (w.withFollow "special-get-raises" false)) fenceQ N r.prog).map (fun x => seenQ q loose (importedModules r.prog.main.body) (fun s => xlAt q [] s && recOk r.toRowW.records s) x.2.abs) = some (openGood q loose))
    (s1t : ∀ w : World, (wholeF (fun p => stepQ (denQ tabQ) p (w.withFollow "special-get-raises" true)) fenceQ N r.prog).map (fun x => seenQ q loose (importedModules r.prog.main.body) (fun s => xlAt q [] s && recOk r.toRowW.records s) x.2.abs) = some (openGood q loose))
    (r3 : ∀ w : World, (wholeF (fun p => stepQ (denQ tabQ) p (w.withFollow "special-get-raises" false)) fenceQ N r.prog).map (fun x => (as.map (getT x.2), ts.map (getT x.2))) = some ((K (w.withFollow "special-get-raises" false).params).map (fun p => some p.2), ts.map fun _ => some (tabObj #[])))
    (r4 : ∀ w : World, (wholeF (fun p => stepQ (denQ tabQ) p (w.withFollow "special-get-raises" true)) fenceQ N r.prog).map (fun x => (as.map (getT x.2), ts.map (getT x.2))) = some ((K (w.withFollow "special-get-raises" true).params).map (fun p => some p.2), ts.map fun _ => some (tabObj #[])))
    : LeftO r.prog q loose (fun s => xlAt q [] s && recOk r.toRowW.records s) (Hook.obs H) (Hook.val H) N true := by
  subst hH
  have joinL : ∀ w : World, (wholeF (fun p => stepQ (denQ tabQ) p w) fenceQ N r.prog).map (fun x => looksF r.prog x.1.heap x.2.abs) = some true :=
    byRow2 "special-get-raises" r1f r1t
  have joinS : ∀ w : World, (wholeF (fun p => stepQ (denQ tabQ) p w) fenceQ N r.prog).map (fun x => seenQ q loose (importedModules r.prog.main.body) (fun s => xlAt q [] s && recOk r.toRowW.records s) x.2.abs) = some (openGood q loose) :=
    byRow2 "special-get-raises" s1f s1t
  have join2 : ∀ w : World, (wholeF (fun p => stepQ (denQ tabQ) p w) fenceQ N r.prog).map (fun x => (as.map (getT x.2), ts.map (getT x.2))) = some ((K w.params).map (fun p => some p.2), ts.map fun _ => some (tabObj #[])) :=
    byRow2 "special-get-raises" r3 r4
  exact
    left_imp fun w => by
      rw [wholeQ_eq]
      simp only [seenQ_eq]
      have a := joinL w
      have a2 := joinS w
      have b := join2 w
      cases e : wholeF (fun p => stepQ (denQ tabQ) p w) fenceQ N r.prog with
      | none => rw [e] at a; cases a
      | some x =>
        rw [e] at a a2 b
        have a1 := Option.some.inj a
        have a3 := Option.some.inj a2
        have b1 := Prod.mk.inj (Option.some.inj b)
        have c1 : as.map x.2.abs.heap.get? = (K w.params).map fun p => some p.2 := by rw [← b1.1]; exact List.map_congr_left fun a _ => (getT_eq x.2 a).symm
        have c2 : ts.map x.2.abs.heap.get? = ts.map fun _ => some (tabObj #[]) := by rw [← b1.2]; exact List.map_congr_left fun a _ => (getT_eq x.2 a).symm
        show some (looksF r.prog x.1.heap x.2.abs, seenQ q loose (importedModules r.prog.main.body) (fun s => xlAt q [] s && recOk r.toRowW.records s) x.2.abs, (as.map x.2.abs.heap.get?, ts.map x.2.abs.heap.get?)) = _
        rw [show looksF r.prog x.1.heap x.2.abs = true from a1, show seenQ q loose (importedModules r.prog.main.body) (fun s => xlAt q [] s && recOk r.toRowW.records s) x.2.abs = openGood q loose from a3, c1, c2]
        rfl
end Cot
namespace LightH
open PySem PySem.Spec PyProof.Rows L2
def nm0 : List PySem.Str := ["TideError", "BadClock", "BadHour", "BadChart", "BadSquare", "NoFill", "Unlike", "BadName", "Taken", "Full", "NoChart", "BadDay", "BadDeed", "NothingLeft", "Knotted", "BadText"]
def nm1 : List PySem.Str := ["NoEntry", "LEAST_HOURS", "MOST_HOURS", "is_clock", "need_clock", "nearest_step", "MOST_SQUARES", "LAND", "UNTOLD", "is_what", "is_row", "is_chart", "need_chart", "size", "hour_at", "told_hours"]
def nm2 : List PySem.Str := ["told", "sides", "told_neighbours", "led_to", "together", "seas", "OUTSIDE_eyes", "corners", "borders", "ways", "eye_corners", "corner_steps", "eyes", "knots", "knots_eyes", "whole_count"]
def nm3 : List PySem.Str := ["side_steps", "age_on", "lay_sea", "gone_on", "ages", "ages_ages", "OUTSIDE_breaks", "weight", "parted", "ways_from", "send_tide", "least_tides", "least_breaks", "least_weight", "need_within", "need_fit"]
def nm4 : List PySem.Str := ["laid_in", "sea_neighbours", "steps_from", "room", "near_rooms", "lower_once", "ring_behind", "settled", "bar", "bar_fills", "can_fill", "sea_ages", "fill", "fill_fills", "may_be", "may_be_fills"]
def nm5 : List PySem.Str := ["LETTERS", "FIGURES", "MOST_LETTERS", "MOST_FIGURES", "DEEDS", "is_name", "read_number", "read_what", "what_text", "read_thing", "thing_text", "read_things", "LAST_DAY", "MOST_ENTRIES", "need_day", "need_what"]
def nm6 : List PySem.Str := ["Log", "MOST_CHARTS", "log_of", "begin_chart", "tell_square", "right_entry", "strike_entry", "drop_chart", "lay_chart", "ACTIONS", "need_deed", "Atlas", "HOUR_SIGNS", "LAND_SIGN", "UNTOLD_SIGN", "TITLE"]
def nm7 : List PySem.Str := ["sign_of", "chart_text", "deed_text", "read_deed", "page", "LINES", "in_rows", "in_words", "answer_undo", "answer_redo", "answer_names", "answer_page", "answer_log", "answer_chart", "answer_knots", "answer_whole"]
def nm8 : List PySem.Str := ["answer_ages", "answer_weight", "answer_bar", "answer_may", "ANSWERS", "answer_deed", "answer", "Desk", "_law_box", "_law_mixed", "_law_take", "_law_clock"]
def nms : List PySem.Str := nm0 ++ nm1 ++ nm2 ++ nm3 ++ nm4 ++ nm5 ++ nm6 ++ nm7 ++ nm8
open PySem.W HandSHeadRun
section
local macro_rules | `(tactic| o_head $H) => `(tactic| (have hh := $H; clear hh; assumption))
set_option maxHeartbeats 0 in
theorem frag (h : (PySem.W.OpenLaw.row PySem.Challenge.rw_cotide_k56_full_at_the_desk).Holds) : (PySem.W.OpenLaw.row PySem.Challenge.rw_cotide_k56_full_at_the_desk).Holds := by
  k_head
end
def as0 : List Nat := [2, 3, 15, 17, 18, 20, 21, 22, 29, 30, 31, 32, 35, 42, 43, 44, 47, 54, 55, 56, 59, 66, 67, 68, 71, 78, 79, 80, 83, 90, 91, 92, 95, 102, 103, 104, 107, 114, 115, 116]
def as1 : List Nat := [119, 126, 127, 128, 131, 138, 139, 140, 143, 150, 151, 152, 155, 162, 163, 164, 167, 174, 175, 176, 179, 186, 187, 188, 191, 198, 200, 201, 203, 204, 205, 206, 207, 210, 217, 219, 220, 222, 223, 224]
def as2 : List Nat := [225, 226, 229, 236, 238, 239, 241, 242, 243, 244, 245, 246, 249, 251, 252, 254, 255, 256, 258, 259, 261, 262, 263, 265, 266, 268, 269, 270, 272, 273, 275, 276, 277, 280, 281, 282, 285, 286, 287, 289]
def as3 : List Nat := [290, 292, 293, 294, 296, 297, 299, 300, 301, 303, 304, 306, 307, 308, 311, 312, 313, 315, 316, 318, 319, 320, 322, 323, 325, 326, 327, 330, 331, 332, 334, 335, 337, 338, 339, 341, 342, 344, 345, 346]
def as4 : List Nat := [348, 349, 351, 352, 353, 354, 357, 358, 359, 361, 362, 364, 365, 366, 369, 370, 371, 373, 374, 376, 377, 378, 381, 382, 383, 386, 387, 388, 391, 392, 393, 396, 397, 398, 401, 402, 403, 405, 406, 408]
def as5 : List Nat := [409, 410, 412, 413, 415, 416, 417, 420, 421, 422, 424, 425, 427, 428, 429, 432, 433, 434, 437, 438, 439, 441, 442, 444, 445, 446, 448, 449, 451, 452, 453, 456, 457, 458, 461, 462, 463, 465, 466, 468]
def as6 : List Nat := [469, 470, 472, 473, 475, 476, 477, 479, 480, 482, 483, 484, 485, 488, 489, 490, 493, 494, 495, 497, 498, 500, 501, 502, 504, 505, 507, 508, 509, 511, 512, 514, 515, 516, 518, 519, 521, 522, 523, 525]
def as7 : List Nat := [526, 528, 529, 530, 533, 534, 535, 537, 538, 540, 541, 542, 544, 545, 547, 548, 549, 551, 552, 554, 555, 556, 559, 560, 561, 564, 565, 566, 567, 568, 569, 570, 571, 572, 573, 576, 577, 578, 581, 582]
def as8 : List Nat := [583, 585, 586, 588, 589, 590, 592, 593, 595, 596, 597, 599, 600, 602, 603, 604, 606, 607, 609, 610, 611, 614, 615, 616, 618, 619, 621, 622, 623, 625, 626, 628, 629, 637, 639, 640, 642, 643, 644, 646]
def as9 : List Nat := [647, 649, 650, 651, 653, 654, 656, 657, 658, 660, 661, 663, 664, 665, 667, 668, 670, 671, 672, 675, 676, 677, 680, 681, 682, 684, 685, 687, 688, 689, 690, 692, 693, 695, 696, 697, 699, 700, 702, 703]
def as10 : List Nat := [704, 706, 707, 709, 710, 711, 714, 715, 716, 718, 719, 721, 722, 723, 724, 727, 728, 729, 731, 732, 734, 735, 736, 737, 738, 739, 740, 743, 745, 746, 748, 749, 750, 752, 753, 755, 756, 757, 759, 760]
def as11 : List Nat := [762, 763, 764, 766, 767, 769, 770, 771, 773, 774, 776, 777, 778, 781, 782, 783, 785, 786, 788, 789, 790, 791, 793, 794, 796, 797, 805, 807, 808, 810, 811, 812, 814, 815, 817, 818, 819, 821, 822, 824]
def as12 : List Nat := [825, 826, 827, 829, 830, 832, 833, 834, 835, 837, 838, 840, 841, 842, 844, 845, 847, 848, 849, 851, 852, 854, 855, 856, 859, 860, 861, 863, 864, 866, 867, 868, 870, 871, 873, 874, 875, 877, 878, 880]
def as13 : List Nat := [881, 882, 885, 886, 887, 888, 890, 891, 893, 894, 895, 896, 898, 899, 901, 902, 903, 904, 906, 907, 909, 910, 911, 912, 914, 915, 917, 918, 919, 920, 922, 923, 925, 926, 927, 928, 930, 931, 933, 934]
def as14 : List Nat := [935, 936, 938, 939, 941, 942, 943, 944, 946, 947, 949, 950, 951, 952, 953, 954, 955, 958, 960, 961, 963, 964, 965, 968, 969, 970, 973, 974, 975, 977, 978, 980, 981, 982, 985, 986, 987, 988, 989, 990]
def as15 : List Nat := [991, 992, 993, 994, 995, 996, 997, 998, 999, 1000, 1002, 1003, 1005, 1006, 1007, 1010, 1011, 1012, 1014, 1015, 1017, 1018, 1019, 1021, 1022, 1024, 1025, 1026, 1028, 1029, 1031, 1032, 1033, 1035, 1036, 1038, 1039, 1040, 1042, 1043]
def as16 : List Nat := [1045, 1046, 1047, 1049, 1050, 1052, 1053, 1054, 1057, 1058, 1059, 1061, 1062, 1064, 1065, 1066, 1069, 1070, 1071, 1073, 1074, 1076, 1077, 1078, 1080, 1081, 1083, 1084, 1085, 1088, 1089, 1090, 1091, 1093, 1094, 1096, 1097, 1098, 1100, 1101]
def as17 : List Nat := [1103, 1104, 1112, 1114, 1115, 1117, 1118, 1119, 1121, 1122, 1124, 1125, 1126, 1128, 1129, 1131, 1132, 1133, 1134, 1135, 1136, 1137, 1140, 1142, 1143, 1145, 1146, 1147, 1149, 1150, 1152, 1153, 1154, 1156, 1157, 1159, 1160, 1161, 1163, 1164]
def as18 : List Nat := [1166, 1167, 1168, 1171, 1172]
def asK : List Addr := as0 ++ as1 ++ as2 ++ as3 ++ as4 ++ as5 ++ as6 ++ as7 ++ as8 ++ as9 ++ as10 ++ as11 ++ as12 ++ as13 ++ as14 ++ as15 ++ as16 ++ as17 ++ as18
abbrev R : OpenRow := OpenLaw.row PySem.Challenge.rw_cotide_k56_full_at_the_desk
abbrev tsK : List Addr := [712]
abbrev qv : Program := view R.prog [0, 155]
theorem ek (P : Params) : asK = (frag.heap_1 P).map (·.1) := by kernel_rfl
theorem lookF (w : World) : (wholeF (fun p => stepQ (denQ tabQ) p (w.withFollow "special-get-raises" false)) fenceQ 30000 R.prog).map (fun x => looksF R.prog x.1.heap x.2.abs) = some true := by kernel_rfl
theorem seenF (w : World) : (wholeF (fun p => stepQ (denQ tabQ) p (w.withFollow "special-get-raises" false)) fenceQ 30000 R.prog).map (fun x => seenQ qv nms (importedModules R.prog.main.body) (fun s => xlAt qv [] s && recOk R.toRowW.records s) x.2.abs) = some (openGood qv nms) := by kernel_rfl
theorem objF (w : World) : (wholeF (fun p => stepQ (denQ tabQ) p (w.withFollow "special-get-raises" false)) fenceQ 30000 R.prog).map (fun x => (asK.map (getT x.2), tsK.map (getT x.2))) = some ((frag.heap_1 (w.withFollow "special-get-raises" false).params).map (fun p => some p.2), tsK.map fun _ => some (tabObj #[])) := by kernel_rfl
theorem lookT (w : World) : (wholeF (fun p => stepQ (denQ tabQ) p (w.withFollow "special-get-raises" true)) fenceQ 30000 R.prog).map (fun x => looksF R.prog x.1.heap x.2.abs) = some true := by kernel_rfl
theorem seenT (w : World) : (wholeF (fun p => stepQ (denQ tabQ) p (w.withFollow "special-get-raises" true)) fenceQ 30000 R.prog).map (fun x => seenQ qv nms (importedModules R.prog.main.body) (fun s => xlAt qv [] s && recOk R.toRowW.records s) x.2.abs) = some (openGood qv nms) := by kernel_rfl
theorem objT (w : World) : (wholeF (fun p => stepQ (denQ tabQ) p (w.withFollow "special-get-raises" true)) fenceQ 30000 R.prog).map (fun x => (asK.map (getT x.2), tsK.map (getT x.2))) = some ((frag.heap_1 (w.withFollow "special-get-raises" true).params).map (fun p => some p.2), tsK.map fun _ => some (tabObj #[])) := by kernel_rfl
noncomputable abbrev hk : Hook := kmHook frag.heap_1 asK ek tsK
end LightH
namespace Cot
open PySem
/-- the n-th def of a class -/
def clsDef (s : Stmt) (n : Nat) : Stmt := match s with
  | .ClassDef _ _ _ body _ _ _ _ _ _ _ => body.getD n (.Pass ⟨0, 0, 0, 0⟩)
  | _ => .Pass ⟨0, 0, 0, 0⟩
abbrev lkTail : List Value := [.type "LookupError", .type "Exception", .type "BaseException", .type "object"]
end Cot
namespace C_k56
open PySem PySem.Spec PyProof.Rows L2 Evl Cot RZ L2H
def topS (i : Nat) : Stmt := PySem.Challenge.pw_cotide_k56_full_at_the_desk.main.body.getD i (.Pass ⟨0, 0, 0, 0⟩)
abbrev s_is_clock : Stmt := topS 22
abbrev s_need_clock : Stmt := topS 23
abbrev s_is_what : Stmt := topS 29
abbrev s_is_row : Stmt := topS 30
abbrev s_is_chart : Stmt := topS 31
abbrev s_need_chart : Stmt := topS 32
abbrev s_size : Stmt := topS 33
abbrev s_need_within : Stmt := topS 70
abbrev s_need_fit : Stmt := topS 71
abbrev s_is_name : Stmt := topS 95
abbrev s_read_number : Stmt := topS 96
abbrev s_read_what : Stmt := topS 97
abbrev s_read_thing : Stmt := topS 99
abbrev s_read_things : Stmt := topS 101
abbrev s_need_day : Stmt := topS 105
abbrev s_need_what : Stmt := topS 106
abbrev s_log_of : Stmt := topS 110
abbrev s_begin_chart : Stmt := topS 111
abbrev s_tell_square : Stmt := topS 112
abbrev s_right_entry : Stmt := topS 113
abbrev s_strike_entry : Stmt := topS 114
abbrev s_drop_chart : Stmt := topS 115
abbrev s_lay_chart : Stmt := topS 116
abbrev s_need_deed : Stmt := topS 118
abbrev s_read_deed : Stmt := topS 128
abbrev s_answer_deed : Stmt := topS 147
abbrev s_answer : Stmt := topS 148
abbrev s_law_box : Stmt := topS 151
abbrev s_law_mixed : Stmt := topS 152
abbrev s_law_take : Stmt := topS 153
abbrev s_law_clock : Stmt := topS 154
abbrev s_law : Stmt := topS 155
abbrev s_Log_init : Stmt := clsDef (topS 107) 0
abbrev s_Log_len : Stmt := clsDef (topS 107) 1
abbrev s_Log_need_entry : Stmt := clsDef (topS 107) 7
abbrev s_Log_add : Stmt := clsDef (topS 107) 8
abbrev s_Log_right : Stmt := clsDef (topS 107) 9
abbrev s_Log_strike : Stmt := clsDef (topS 107) 10
abbrev s_Log_entries : Stmt := clsDef (topS 107) 11
abbrev s_Log_chart : Stmt := clsDef (topS 107) 13
abbrev s_Log_twin : Stmt := clsDef (topS 107) 14
abbrev s_Atlas_init : Stmt := clsDef (topS 119) 0
abbrev s_Atlas_do : Stmt := clsDef (topS 119) 2
abbrev s_Atlas_twin : Stmt := clsDef (topS 119) 8
abbrev s_Atlas_log : Stmt := clsDef (topS 119) 10
abbrev s_Desk_init : Stmt := clsDef (topS 149) 0
abbrev s_Desk_atlas : Stmt := clsDef (topS 149) 1
abbrev s_Desk_say : Stmt := clsDef (topS 149) 2
abbrev s_BadText_init : Stmt := clsDef (topS 17) 0
abbrev s_NoEntry_init : Stmt := clsDef (topS 18) 0
open PySem.W in
set_option maxHeartbeats 0 in
theorem head_run (all_mk : ∀ {l : PySem.W.OpenLaw} {w : World} {K : PySem.W.Frag} {h : Heap} {mg : Str → Option Value} {fa : Addr} (X : K.In h) (G : h.Ns mainGlobals mg) (hfa : mg "law" = some (.ref fa))
    {f0 : Addr} {od0 an0 : Option Addr} {sl0 : Array (Option Value)} {oc0 kV0 dc0 pm0 cd0 ct0 : Value}
    {f1 : Addr} {od1 an1 : Option Addr} {sl1 : Array (Option Value)} {oc1 kV1 dc1 pm1 cd1 ct1 : Value}
    {f2 : Addr} {od2 an2 : Option Addr} {sl2 : Array (Option Value)} {oc2 kV2 dc2 pm2 cd2 ct2 : Value}
    {f3 : Addr} {od3 an3 : Option Addr} {sl3 : Array (Option Value)} {oc3 kV3 dc3 pm3 cd3 ct3 : Value}
    {f4 : Addr} {od4 an4 : Option Addr} {sl4 : Array (Option Value)} {oc4 kV4 dc4 pm4 cd4 ct4 : Value}
    {f5 : Addr} {od5 an5 : Option Addr} {sl5 : Array (Option Value)} {oc5 kV5 dc5 pm5 cd5 ct5 : Value}
    {f6 : Addr} {od6 an6 : Option Addr} {sl6 : Array (Option Value)} {oc6 kV6 dc6 pm6 cd6 ct6 : Value}
    {f7 : Addr} {od7 an7 : Option Addr} {sl7 : Array (Option Value)} {oc7 kV7 dc7 pm7 cd7 ct7 : Value}
    {f8 : Addr} {od8 an8 : Option Addr} {sl8 : Array (Option Value)} {oc8 kV8 dc8 pm8 cd8 ct8 : Value}
    {f9 : Addr} {od9 an9 : Option Addr} {sl9 : Array (Option Value)} {oc9 kV9 dc9 pm9 cd9 ct9 : Value}
    {f10 : Addr} {od10 an10 : Option Addr} {sl10 : Array (Option Value)} {oc10 kV10 dc10 pm10 cd10 ct10 : Value}
    {f11 : Addr} {od11 an11 : Option Addr} {sl11 : Array (Option Value)} {oc11 kV11 dc11 pm11 cd11 ct11 : Value}
    {f12 : Addr} {od12 an12 : Option Addr} {sl12 : Array (Option Value)} {oc12 kV12 dc12 pm12 cd12 ct12 : Value}
    {f13 : Addr} {od13 an13 : Option Addr} {sl13 : Array (Option Value)} {oc13 kV13 dc13 pm13 cd13 ct13 : Value}
    {f14 : Addr} {od14 an14 : Option Addr} {sl14 : Array (Option Value)} {oc14 kV14 dc14 pm14 cd14 ct14 : Value}
    {f15 : Addr} {od15 an15 : Option Addr} {sl15 : Array (Option Value)} {oc15 kV15 dc15 pm15 cd15 ct15 : Value}
    {f16 : Addr} {od16 an16 : Option Addr} {sl16 : Array (Option Value)} {oc16 kV16 dc16 pm16 cd16 ct16 : Value}
    {f17 : Addr} {od17 an17 : Option Addr} {sl17 : Array (Option Value)} {oc17 kV17 dc17 pm17 cd17 ct17 : Value}
    {f18 : Addr} {od18 an18 : Option Addr} {sl18 : Array (Option Value)} {oc18 kV18 dc18 pm18 cd18 ct18 : Value}
    {f19 : Addr} {od19 an19 : Option Addr} {sl19 : Array (Option Value)} {oc19 kV19 dc19 pm19 cd19 ct19 : Value}
    {f20 : Addr} {od20 an20 : Option Addr} {sl20 : Array (Option Value)} {oc20 kV20 dc20 pm20 cd20 ct20 : Value}
    {f21 : Addr} {od21 an21 : Option Addr} {sl21 : Array (Option Value)} {oc21 kV21 dc21 pm21 cd21 ct21 : Value}
    {f22 : Addr} {od22 an22 : Option Addr} {sl22 : Array (Option Value)} {oc22 kV22 dc22 pm22 cd22 ct22 : Value}
    {f23 : Addr} {od23 an23 : Option Addr} {sl23 : Array (Option Value)} {oc23 kV23 dc23 pm23 cd23 ct23 : Value}
    {f24 : Addr} {od24 an24 : Option Addr} {sl24 : Array (Option Value)} {oc24 kV24 dc24 pm24 cd24 ct24 : Value}
    {f25 : Addr} {od25 an25 : Option Addr} {sl25 : Array (Option Value)} {oc25 kV25 dc25 pm25 cd25 ct25 : Value}
    {f26 : Addr} {od26 an26 : Option Addr} {sl26 : Array (Option Value)} {oc26 kV26 dc26 pm26 cd26 ct26 : Value}
    {f27 : Addr} {od27 an27 : Option Addr} {sl27 : Array (Option Value)} {oc27 kV27 dc27 pm27 cd27 ct27 : Value}
    {f28 : Addr} {od28 an28 : Option Addr} {sl28 : Array (Option Value)} {oc28 kV28 dc28 pm28 cd28 ct28 : Value}
    {f29 : Addr} {od29 an29 : Option Addr} {sl29 : Array (Option Value)} {oc29 kV29 dc29 pm29 cd29 ct29 : Value}
    {f30 : Addr} {od30 an30 : Option Addr} {sl30 : Array (Option Value)} {oc30 kV30 dc30 pm30 cd30 ct30 : Value}
    {f31 : Addr} {od31 an31 : Option Addr} {sl31 : Array (Option Value)} {oc31 kV31 dc31 pm31 cd31 ct31 : Value}
    {f32 : Addr} {od32 an32 : Option Addr} {sl32 : Array (Option Value)} {oc32 kV32 dc32 pm32 cd32 ct32 : Value}
    {f33 : Addr} {od33 an33 : Option Addr} {sl33 : Array (Option Value)} {oc33 kV33 dc33 pm33 cd33 ct33 : Value}
    {f34 : Addr} {od34 an34 : Option Addr} {sl34 : Array (Option Value)} {oc34 kV34 dc34 pm34 cd34 ct34 : Value}
    {T35 : Addr} {oT35 : Value} {pT35 : Option Addr} {nT35 : Nat} {sT35 : Array (Option Value)} {u35_0 : Tok}
    {f35 : Addr} {od35 an35 : Option Addr} {sl35 : Array (Option Value)} {oc35 kV35 dc35 pm35 cd35 ct35 : Value}
    {f36 : Addr} {od36 an36 : Option Addr} {sl36 : Array (Option Value)} {oc36 kV36 dc36 pm36 cd36 ct36 : Value}
    {f37 : Addr} {od37 an37 : Option Addr} {sl37 : Array (Option Value)} {oc37 kV37 dc37 pm37 cd37 ct37 : Value}
    {f38 : Addr} {od38 an38 : Option Addr} {sl38 : Array (Option Value)} {oc38 kV38 dc38 pm38 ct38 : Value}
    {cO0 PO0 : Addr}
    {T39 : Addr} {oT39 : Value} {pT39 : Option Addr} {nT39 : Nat} {sT39 : Array (Option Value)} {u39_0 : Tok}
    {f39 : Addr} {od39 an39 : Option Addr} {sl39 : Array (Option Value)} {oc39 kV39 dc39 pm39 cd39 ct39 : Value}
    {f40 : Addr} {od40 an40 : Option Addr} {sl40 : Array (Option Value)} {oc40 kV40 dc40 pm40 cd40 ct40 : Value}
    {f41 : Addr} {od41 an41 : Option Addr} {sl41 : Array (Option Value)} {oc41 kV41 dc41 pm41 cd41 ct41 : Value}
    {f42 : Addr} {od42 an42 : Option Addr} {sl42 : Array (Option Value)} {oc42 kV42 dc42 pm42 cd42 ct42 : Value}
    {f43 : Addr} {od43 an43 : Option Addr} {sl43 : Array (Option Value)} {oc43 kV43 dc43 pm43 cd43 ct43 : Value}
    {f44 : Addr} {od44 an44 : Option Addr} {sl44 : Array (Option Value)} {oc44 kV44 dc44 pm44 cd44 ct44 : Value}
    {f45 : Addr} {od45 an45 : Option Addr} {sl45 : Array (Option Value)} {oc45 kV45 dc45 pm45 cd45 ct45 : Value}
    {f46 : Addr} {od46 an46 : Option Addr} {sl46 : Array (Option Value)} {oc46 kV46 dc46 pm46 cd46 ct46 : Value}
    {f47 : Addr} {od47 an47 : Option Addr} {sl47 : Array (Option Value)} {oc47 kV47 dc47 pm47 cd47 ct47 : Value}
    {t0 : Tok}
    {t1 : Tok}
    {t2 : Tok}
    {t3 : Tok}
    {t4 : Tok}
    {O5 : Addr} {pO5 : Option Addr} {nO5 : Nat} {sO5 : Array (Option Value)} {v5_0 : Tok} {v5_1 : Tok}
    {t6 : Tok}
    {t7 : Tok}
    {t8 : Tok}
    {t9 : Tok}
    {t10 : Tok}
    {t11 : Tok}
    {t12 : Tok}
    {t13 : Tok}
    {t14 : Tok}
    {t15 : Tok}
    {t16 : Tok}
    {t17 : Tok}
    {OD0 : Addr} {nD0 : Nat} {hD0_0 : Int} {kD0_0 : Tok} {hD0_1 : Int} {kD0_1 : Tok} {hD0_2 : Int} {kD0_2 : Tok} {hD0_3 : Int} {kD0_3 : Tok} {hD0_4 : Int} {kD0_4 : Tok} {hD0_5 : Int} {kD0_5 : Tok}
    {tD0_0 : Addr} {pD0_0 : Option Addr} {nD0_0 : Nat} {sD0_0 : Array (Option Value)} {vD0_0_0 : Tok} {vD0_0_1 : Tok} {vD0_0_2 : Tok} {vD0_0_3 : Tok}
    {tD0_1 : Addr} {pD0_1 : Option Addr} {nD0_1 : Nat} {sD0_1 : Array (Option Value)} {vD0_1_0 : Tok} {vD0_1_1 : Tok} {vD0_1_2 : Tok} {vD0_1_3 : Tok} {vD0_1_4 : Tok}
    {tD0_2 : Addr} {pD0_2 : Option Addr} {nD0_2 : Nat} {sD0_2 : Array (Option Value)} {vD0_2_0 : Tok} {vD0_2_1 : Tok} {vD0_2_2 : Tok}
    {tD0_3 : Addr} {pD0_3 : Option Addr} {nD0_3 : Nat} {sD0_3 : Array (Option Value)} {vD0_3_0 : Tok} {vD0_3_1 : Tok}
    {tD0_4 : Addr} {pD0_4 : Option Addr} {nD0_4 : Nat} {sD0_4 : Array (Option Value)} {vD0_4_0 : Tok}
    {tD0_5 : Addr} {pD0_5 : Option Addr} {nD0_5 : Nat} {sD0_5 : Array (Option Value)} {vD0_5_0 : Tok} {vD0_5_1 : Tok} {vD0_5_2 : Tok} {vD0_5_3 : Tok} {vD0_5_4 : Tok}
    {OD1 : Addr} {nD1 : Nat} {hD1_0 : Int} {kD1_0 : Tok} {hD1_1 : Int} {kD1_1 : Tok} {hD1_2 : Int} {kD1_2 : Tok} {hD1_3 : Int} {kD1_3 : Tok} {hD1_4 : Int} {kD1_4 : Tok} {hD1_5 : Int} {kD1_5 : Tok}
    {OD2 : Addr} {nD2 : Nat} {hD2_0 : Int} {kD2_0 : Tok} {hD2_1 : Int} {kD2_1 : Tok} {hD2_2 : Int} {kD2_2 : Tok} {hD2_3 : Int} {kD2_3 : Tok} {hD2_4 : Int} {kD2_4 : Tok} {hD2_5 : Int} {kD2_5 : Tok} {hD2_6 : Int} {kD2_6 : Tok} {hD2_7 : Int} {kD2_7 : Tok} {hD2_8 : Int} {kD2_8 : Tok} {hD2_9 : Int} {kD2_9 : Tok} {hD2_10 : Int} {kD2_10 : Tok} {hD2_11 : Int} {kD2_11 : Tok}
    {tD2_0 : Addr} {pD2_0 : Option Addr} {nD2_0 : Nat} {sD2_0 : Array (Option Value)} 
    {tD2_1 : Addr} {pD2_1 : Option Addr} {nD2_1 : Nat} {sD2_1 : Array (Option Value)} 
    {tD2_2 : Addr} {pD2_2 : Option Addr} {nD2_2 : Nat} {sD2_2 : Array (Option Value)} 
    {tD2_3 : Addr} {pD2_3 : Option Addr} {nD2_3 : Nat} {sD2_3 : Array (Option Value)} 
    {tD2_4 : Addr} {pD2_4 : Option Addr} {nD2_4 : Nat} {sD2_4 : Array (Option Value)} {vD2_4_0 : Tok}
    {tD2_5 : Addr} {pD2_5 : Option Addr} {nD2_5 : Nat} {sD2_5 : Array (Option Value)} {vD2_5_0 : Tok} {vD2_5_1 : Tok}
    {tD2_6 : Addr} {pD2_6 : Option Addr} {nD2_6 : Nat} {sD2_6 : Array (Option Value)} {vD2_6_0 : Tok} {vD2_6_1 : Tok}
    {tD2_7 : Addr} {pD2_7 : Option Addr} {nD2_7 : Nat} {sD2_7 : Array (Option Value)} {vD2_7_0 : Tok} {vD2_7_1 : Tok}
    {tD2_8 : Addr} {pD2_8 : Option Addr} {nD2_8 : Nat} {sD2_8 : Array (Option Value)} {vD2_8_0 : Tok} {vD2_8_1 : Tok}
    {tD2_9 : Addr} {pD2_9 : Option Addr} {nD2_9 : Nat} {sD2_9 : Array (Option Value)} {vD2_9_0 : Tok} {vD2_9_1 : Tok}
    {tD2_10 : Addr} {pD2_10 : Option Addr} {nD2_10 : Nat} {sD2_10 : Array (Option Value)} {vD2_10_0 : Tok} {vD2_10_1 : Tok}
    {tD2_11 : Addr} {pD2_11 : Option Addr} {nD2_11 : Nat} {sD2_11 : Array (Option Value)} {vD2_11_0 : Tok} {vD2_11_1 : Tok} {vD2_11_2 : Tok} {vD2_11_3 : Tok}
    {C0 : Addr}
    {C1 : Addr}
    {C2 : Addr}
    {C3 : Addr}
    {C4 : Addr}
    {C5 : Addr}
    {C6 : Addr}
    {C7 : Addr}
    {C8 : Addr}
    {C9 : Addr}
    {C10 : Addr}
    {C11 : Addr}
    {C12 : Addr}
    {C13 : Addr}
    {C14 : Addr}
    {C15 : Addr}
    {C16 : Addr}
    {C17 : Addr}
    {C18 : Addr}
    {C19 : Addr}
    {If15 : Addr} {Iod15 Ian15 : Option Addr} {Isl15 : Array (Option Value)} {Ioc15 IkV15 Idc15 Ipm15 Icd15 Ict15 : Value}
    {Jn15 Jq15 : Str} {JN15 : Addr} {Jb15 JB15 : List Value} {Js15 : List Str} {Ju15 : List Value} {Ja15 : Bool} {Jc15 : Option Bool} {Jd15 : Option Addr} {J015 J115 J215 J315 J515 : Option Value}
    {If16 : Addr} {Iod16 Ian16 : Option Addr} {Isl16 : Array (Option Value)} {Ioc16 IkV16 Idc16 Ipm16 Icd16 Ict16 : Value}
    {Jn16 Jq16 : Str} {JN16 : Addr} {Jb16 : List Value} {Js16 : List Str} {Ju16 : List Value} {Ja16 : Bool} {Jc16 : Option Bool} {Jd16 : Option Addr} {J016 J116 J216 J316 J516 : Option Value}
    (a0 : PySem.W.nsIn K mainGlobals "is_clock" = some (some (.ref f0))) (l0 : K.lookup f0 = some ⟨oc0, od0, .func (PySem.W.fnOf "is_clock" "is_clock" (defArgs s_is_clock) (defBody s_is_clock) (defScope s_is_clock) .none kV0 dc0 pm0 an0 cd0 ct0), sl0⟩) (c0 : PySem.W.codeIn K cd0 "is_clock" = true) (k0 : PySem.W.keepIn K (.ref f0) = true)
    (a1 : PySem.W.nsIn K mainGlobals "need_clock" = some (some (.ref f1))) (l1 : K.lookup f1 = some ⟨oc1, od1, .func (PySem.W.fnOf "need_clock" "need_clock" (defArgs s_need_clock) (defBody s_need_clock) (defScope s_need_clock) .none kV1 dc1 pm1 an1 cd1 ct1), sl1⟩) (c1 : PySem.W.codeIn K cd1 "need_clock" = true) (k1 : PySem.W.keepIn K (.ref f1) = true)
    (a2 : PySem.W.nsIn K mainGlobals "is_what" = some (some (.ref f2))) (l2 : K.lookup f2 = some ⟨oc2, od2, .func (PySem.W.fnOf "is_what" "is_what" (defArgs s_is_what) (defBody s_is_what) (defScope s_is_what) .none kV2 dc2 pm2 an2 cd2 ct2), sl2⟩) (c2 : PySem.W.codeIn K cd2 "is_what" = true) (k2 : PySem.W.keepIn K (.ref f2) = true)
    (a3 : PySem.W.nsIn K mainGlobals "is_row" = some (some (.ref f3))) (l3 : K.lookup f3 = some ⟨oc3, od3, .func (PySem.W.fnOf "is_row" "is_row" (defArgs s_is_row) (defBody s_is_row) (defScope s_is_row) .none kV3 dc3 pm3 an3 cd3 ct3), sl3⟩) (c3 : PySem.W.codeIn K cd3 "is_row" = true) (k3 : PySem.W.keepIn K (.ref f3) = true)
    (a4 : PySem.W.nsIn K mainGlobals "is_chart" = some (some (.ref f4))) (l4 : K.lookup f4 = some ⟨oc4, od4, .func (PySem.W.fnOf "is_chart" "is_chart" (defArgs s_is_chart) (defBody s_is_chart) (defScope s_is_chart) .none kV4 dc4 pm4 an4 cd4 ct4), sl4⟩) (c4 : PySem.W.codeIn K cd4 "is_chart" = true) (k4 : PySem.W.keepIn K (.ref f4) = true)
    (a5 : PySem.W.nsIn K mainGlobals "need_chart" = some (some (.ref f5))) (l5 : K.lookup f5 = some ⟨oc5, od5, .func (PySem.W.fnOf "need_chart" "need_chart" (defArgs s_need_chart) (defBody s_need_chart) (defScope s_need_chart) .none kV5 dc5 pm5 an5 cd5 ct5), sl5⟩) (c5 : PySem.W.codeIn K cd5 "need_chart" = true) (k5 : PySem.W.keepIn K (.ref f5) = true)
    (a6 : PySem.W.nsIn K mainGlobals "size" = some (some (.ref f6))) (l6 : K.lookup f6 = some ⟨oc6, od6, .func (PySem.W.fnOf "size" "size" (defArgs s_size) (defBody s_size) (defScope s_size) .none kV6 dc6 pm6 an6 cd6 ct6), sl6⟩) (c6 : PySem.W.codeIn K cd6 "size" = true) (k6 : PySem.W.keepIn K (.ref f6) = true)
    (a7 : PySem.W.nsIn K mainGlobals "need_within" = some (some (.ref f7))) (l7 : K.lookup f7 = some ⟨oc7, od7, .func (PySem.W.fnOf "need_within" "need_within" (defArgs s_need_within) (defBody s_need_within) (defScope s_need_within) .none kV7 dc7 pm7 an7 cd7 ct7), sl7⟩) (c7 : PySem.W.codeIn K cd7 "need_within" = true) (k7 : PySem.W.keepIn K (.ref f7) = true)
    (a8 : PySem.W.nsIn K mainGlobals "need_fit" = some (some (.ref f8))) (l8 : K.lookup f8 = some ⟨oc8, od8, .func (PySem.W.fnOf "need_fit" "need_fit" (defArgs s_need_fit) (defBody s_need_fit) (defScope s_need_fit) .none kV8 dc8 pm8 an8 cd8 ct8), sl8⟩) (c8 : PySem.W.codeIn K cd8 "need_fit" = true) (k8 : PySem.W.keepIn K (.ref f8) = true)
    (a9 : PySem.W.nsIn K mainGlobals "is_name" = some (some (.ref f9))) (l9 : K.lookup f9 = some ⟨oc9, od9, .func (PySem.W.fnOf "is_name" "is_name" (defArgs s_is_name) (defBody s_is_name) (defScope s_is_name) .none kV9 dc9 pm9 an9 cd9 ct9), sl9⟩) (c9 : PySem.W.codeIn K cd9 "is_name" = true) (k9 : PySem.W.keepIn K (.ref f9) = true)
    (a10 : PySem.W.nsIn K mainGlobals "read_number" = some (some (.ref f10))) (l10 : K.lookup f10 = some ⟨oc10, od10, .func (PySem.W.fnOf "read_number" "read_number" (defArgs s_read_number) (defBody s_read_number) (defScope s_read_number) .none kV10 dc10 pm10 an10 cd10 ct10), sl10⟩) (c10 : PySem.W.codeIn K cd10 "read_number" = true) (k10 : PySem.W.keepIn K (.ref f10) = true)
    (a11 : PySem.W.nsIn K mainGlobals "read_what" = some (some (.ref f11))) (l11 : K.lookup f11 = some ⟨oc11, od11, .func (PySem.W.fnOf "read_what" "read_what" (defArgs s_read_what) (defBody s_read_what) (defScope s_read_what) .none kV11 dc11 pm11 an11 cd11 ct11), sl11⟩) (c11 : PySem.W.codeIn K cd11 "read_what" = true) (k11 : PySem.W.keepIn K (.ref f11) = true)
    (a12 : PySem.W.nsIn K mainGlobals "read_thing" = some (some (.ref f12))) (l12 : K.lookup f12 = some ⟨oc12, od12, .func (PySem.W.fnOf "read_thing" "read_thing" (defArgs s_read_thing) (defBody s_read_thing) (defScope s_read_thing) .none kV12 dc12 pm12 an12 cd12 ct12), sl12⟩) (c12 : PySem.W.codeIn K cd12 "read_thing" = true) (k12 : PySem.W.keepIn K (.ref f12) = true)
    (a13 : PySem.W.nsIn K mainGlobals "read_things" = some (some (.ref f13))) (l13 : K.lookup f13 = some ⟨oc13, od13, .func (PySem.W.fnOf "read_things" "read_things" (defArgs s_read_things) (defBody s_read_things) (defScope s_read_things) .none kV13 dc13 pm13 an13 cd13 ct13), sl13⟩) (c13 : PySem.W.codeIn K cd13 "read_things" = true) (k13 : PySem.W.keepIn K (.ref f13) = true)
    (a14 : PySem.W.nsIn K mainGlobals "need_day" = some (some (.ref f14))) (l14 : K.lookup f14 = some ⟨oc14, od14, .func (PySem.W.fnOf "need_day" "need_day" (defArgs s_need_day) (defBody s_need_day) (defScope s_need_day) .none kV14 dc14 pm14 an14 cd14 ct14), sl14⟩) (c14 : PySem.W.codeIn K cd14 "need_day" = true) (k14 : PySem.W.keepIn K (.ref f14) = true)
    (a15 : PySem.W.nsIn K mainGlobals "need_what" = some (some (.ref f15))) (l15 : K.lookup f15 = some ⟨oc15, od15, .func (PySem.W.fnOf "need_what" "need_what" (defArgs s_need_what) (defBody s_need_what) (defScope s_need_what) .none kV15 dc15 pm15 an15 cd15 ct15), sl15⟩) (c15 : PySem.W.codeIn K cd15 "need_what" = true) (k15 : PySem.W.keepIn K (.ref f15) = true)
    (a16 : PySem.W.nsIn K mainGlobals "log_of" = some (some (.ref f16))) (l16 : K.lookup f16 = some ⟨oc16, od16, .func (PySem.W.fnOf "log_of" "log_of" (defArgs s_log_of) (defBody s_log_of) (defScope s_log_of) .none kV16 dc16 pm16 an16 cd16 ct16), sl16⟩) (c16 : PySem.W.codeIn K cd16 "log_of" = true) (k16 : PySem.W.keepIn K (.ref f16) = true)
    (a17 : PySem.W.nsIn K mainGlobals "begin_chart" = some (some (.ref f17))) (l17 : K.lookup f17 = some ⟨oc17, od17, .func (PySem.W.fnOf "begin_chart" "begin_chart" (defArgs s_begin_chart) (defBody s_begin_chart) (defScope s_begin_chart) .none kV17 dc17 pm17 an17 cd17 ct17), sl17⟩) (c17 : PySem.W.codeIn K cd17 "begin_chart" = true) (k17 : PySem.W.keepIn K (.ref f17) = true)
    (a18 : PySem.W.nsIn K mainGlobals "tell_square" = some (some (.ref f18))) (l18 : K.lookup f18 = some ⟨oc18, od18, .func (PySem.W.fnOf "tell_square" "tell_square" (defArgs s_tell_square) (defBody s_tell_square) (defScope s_tell_square) .none kV18 dc18 pm18 an18 cd18 ct18), sl18⟩) (c18 : PySem.W.codeIn K cd18 "tell_square" = true) (k18 : PySem.W.keepIn K (.ref f18) = true)
    (a19 : PySem.W.nsIn K mainGlobals "right_entry" = some (some (.ref f19))) (l19 : K.lookup f19 = some ⟨oc19, od19, .func (PySem.W.fnOf "right_entry" "right_entry" (defArgs s_right_entry) (defBody s_right_entry) (defScope s_right_entry) .none kV19 dc19 pm19 an19 cd19 ct19), sl19⟩) (c19 : PySem.W.codeIn K cd19 "right_entry" = true) (k19 : PySem.W.keepIn K (.ref f19) = true)
    (a20 : PySem.W.nsIn K mainGlobals "strike_entry" = some (some (.ref f20))) (l20 : K.lookup f20 = some ⟨oc20, od20, .func (PySem.W.fnOf "strike_entry" "strike_entry" (defArgs s_strike_entry) (defBody s_strike_entry) (defScope s_strike_entry) .none kV20 dc20 pm20 an20 cd20 ct20), sl20⟩) (c20 : PySem.W.codeIn K cd20 "strike_entry" = true) (k20 : PySem.W.keepIn K (.ref f20) = true)
    (a21 : PySem.W.nsIn K mainGlobals "drop_chart" = some (some (.ref f21))) (l21 : K.lookup f21 = some ⟨oc21, od21, .func (PySem.W.fnOf "drop_chart" "drop_chart" (defArgs s_drop_chart) (defBody s_drop_chart) (defScope s_drop_chart) .none kV21 dc21 pm21 an21 cd21 ct21), sl21⟩) (c21 : PySem.W.codeIn K cd21 "drop_chart" = true) (k21 : PySem.W.keepIn K (.ref f21) = true)
    (a22 : PySem.W.nsIn K mainGlobals "lay_chart" = some (some (.ref f22))) (l22 : K.lookup f22 = some ⟨oc22, od22, .func (PySem.W.fnOf "lay_chart" "lay_chart" (defArgs s_lay_chart) (defBody s_lay_chart) (defScope s_lay_chart) .none kV22 dc22 pm22 an22 cd22 ct22), sl22⟩) (c22 : PySem.W.codeIn K cd22 "lay_chart" = true) (k22 : PySem.W.keepIn K (.ref f22) = true)
    (a23 : PySem.W.nsIn K mainGlobals "need_deed" = some (some (.ref f23))) (l23 : K.lookup f23 = some ⟨oc23, od23, .func (PySem.W.fnOf "need_deed" "need_deed" (defArgs s_need_deed) (defBody s_need_deed) (defScope s_need_deed) .none kV23 dc23 pm23 an23 cd23 ct23), sl23⟩) (c23 : PySem.W.codeIn K cd23 "need_deed" = true) (k23 : PySem.W.keepIn K (.ref f23) = true)
    (a24 : PySem.W.nsIn K mainGlobals "read_deed" = some (some (.ref f24))) (l24 : K.lookup f24 = some ⟨oc24, od24, .func (PySem.W.fnOf "read_deed" "read_deed" (defArgs s_read_deed) (defBody s_read_deed) (defScope s_read_deed) .none kV24 dc24 pm24 an24 cd24 ct24), sl24⟩) (c24 : PySem.W.codeIn K cd24 "read_deed" = true) (k24 : PySem.W.keepIn K (.ref f24) = true)
    (a25 : PySem.W.nsIn K mainGlobals "answer_deed" = some (some (.ref f25))) (l25 : K.lookup f25 = some ⟨oc25, od25, .func (PySem.W.fnOf "answer_deed" "answer_deed" (defArgs s_answer_deed) (defBody s_answer_deed) (defScope s_answer_deed) .none kV25 dc25 pm25 an25 cd25 ct25), sl25⟩) (c25 : PySem.W.codeIn K cd25 "answer_deed" = true) (k25 : PySem.W.keepIn K (.ref f25) = true)
    (a26 : PySem.W.nsIn K mainGlobals "answer" = some (some (.ref f26))) (l26 : K.lookup f26 = some ⟨oc26, od26, .func (PySem.W.fnOf "answer" "answer" (defArgs s_answer) (defBody s_answer) (defScope s_answer) .none kV26 dc26 pm26 an26 cd26 ct26), sl26⟩) (c26 : PySem.W.codeIn K cd26 "answer" = true) (k26 : PySem.W.keepIn K (.ref f26) = true)
    (a27 : PySem.W.nsIn K mainGlobals "_law_box" = some (some (.ref f27))) (l27 : K.lookup f27 = some ⟨oc27, od27, .func (PySem.W.fnOf "_law_box" "_law_box" (defArgs s_law_box) (defBody s_law_box) (defScope s_law_box) .none kV27 dc27 pm27 an27 cd27 ct27), sl27⟩) (c27 : PySem.W.codeIn K cd27 "_law_box" = true) (k27 : PySem.W.keepIn K (.ref f27) = true)
    (a28 : PySem.W.nsIn K mainGlobals "_law_mixed" = some (some (.ref f28))) (l28 : K.lookup f28 = some ⟨oc28, od28, .func (PySem.W.fnOf "_law_mixed" "_law_mixed" (defArgs s_law_mixed) (defBody s_law_mixed) (defScope s_law_mixed) .none kV28 dc28 pm28 an28 cd28 ct28), sl28⟩) (c28 : PySem.W.codeIn K cd28 "_law_mixed" = true) (k28 : PySem.W.keepIn K (.ref f28) = true)
    (a29 : PySem.W.nsIn K mainGlobals "_law_take" = some (some (.ref f29))) (l29 : K.lookup f29 = some ⟨oc29, od29, .func (PySem.W.fnOf "_law_take" "_law_take" (defArgs s_law_take) (defBody s_law_take) (defScope s_law_take) .none kV29 dc29 pm29 an29 cd29 ct29), sl29⟩) (c29 : PySem.W.codeIn K cd29 "_law_take" = true) (k29 : PySem.W.keepIn K (.ref f29) = true)
    (a30 : PySem.W.nsIn K mainGlobals "_law_clock" = some (some (.ref f30))) (l30 : K.lookup f30 = some ⟨oc30, od30, .func (PySem.W.fnOf "_law_clock" "_law_clock" (defArgs s_law_clock) (defBody s_law_clock) (defScope s_law_clock) .none kV30 dc30 pm30 an30 cd30 ct30), sl30⟩) (c30 : PySem.W.codeIn K cd30 "_law_clock" = true) (k30 : PySem.W.keepIn K (.ref f30) = true)
    (a31 : PySem.W.nsIn K mainGlobals "law" = some (some (.ref f31))) (l31 : K.lookup f31 = some ⟨oc31, od31, .func (PySem.W.fnOf "law" "law" (defArgs s_law) (defBody s_law) (defScope s_law) .none kV31 dc31 pm31 an31 cd31 ct31), sl31⟩) (c31 : PySem.W.codeIn K cd31 "law" = true) (k31 : PySem.W.keepIn K (.ref f31) = true)
    (a32 : PySem.W.findIn K (.ref C17) "__init__" = some (some (.ref f32))) (i32 : PySem.W.isFn K (.ref f32) = true) (l32 : K.lookup f32 = some ⟨oc32, od32, .func (PySem.W.fnOf "__init__" "Log.__init__" (defArgs s_Log_init) (defBody s_Log_init) (defScope s_Log_init) .none kV32 dc32 pm32 an32 cd32 ct32), sl32⟩) (c32 : PySem.W.codeIn K cd32 "Log.__init__" = true) (k32 : PySem.W.keepIn K (.ref f32) = true)
    (a33 : PySem.W.findIn K (.ref C17) "__len__" = some (some (.ref f33))) (i33 : PySem.W.isFn K (.ref f33) = true) (l33 : K.lookup f33 = some ⟨oc33, od33, .func (PySem.W.fnOf "__len__" "Log.__len__" (defArgs s_Log_len) (defBody s_Log_len) (defScope s_Log_len) .none kV33 dc33 pm33 an33 cd33 ct33), sl33⟩) (c33 : PySem.W.codeIn K cd33 "Log.__len__" = true) (k33 : PySem.W.keepIn K (.ref f33) = true)
    (a34 : PySem.W.findIn K (.ref C17) "need_entry" = some (some (.ref f34))) (i34 : PySem.W.isFn K (.ref f34) = true) (l34 : K.lookup f34 = some ⟨oc34, od34, .func (PySem.W.fnOf "need_entry" "Log.need_entry" (defArgs s_Log_need_entry) (defBody s_Log_need_entry) (defScope s_Log_need_entry) .none kV34 dc34 pm34 an34 cd34 ct34), sl34⟩) (c34 : PySem.W.codeIn K cd34 "Log.need_entry" = true) (k34 : PySem.W.keepIn K (.ref f34) = true)
    (a35 : PySem.W.findIn K (.ref C17) "add" = some (some (.ref f35))) (i35 : PySem.W.isFn K (.ref f35) = true) (l35 : K.lookup f35 = some ⟨oc35, od35, .func (PySem.W.fnOf "add" "Log.add" (defArgs s_Log_add) (defBody s_Log_add) (defScope s_Log_add) (.ref T35) kV35 dc35 pm35 an35 cd35 ct35), sl35⟩) (c35 : PySem.W.codeIn K cd35 "Log.add" = true) (k35 : PySem.W.keepIn K (.ref f35) = true)
    (dt35 : K.lookup T35 = some ⟨oT35, pT35, .seq #[.int (0) u35_0] nT35, sT35⟩)
    (a36 : PySem.W.findIn K (.ref C17) "right" = some (some (.ref f36))) (i36 : PySem.W.isFn K (.ref f36) = true) (l36 : K.lookup f36 = some ⟨oc36, od36, .func (PySem.W.fnOf "right" "Log.right" (defArgs s_Log_right) (defBody s_Log_right) (defScope s_Log_right) .none kV36 dc36 pm36 an36 cd36 ct36), sl36⟩) (c36 : PySem.W.codeIn K cd36 "Log.right" = true) (k36 : PySem.W.keepIn K (.ref f36) = true)
    (a37 : PySem.W.findIn K (.ref C17) "strike" = some (some (.ref f37))) (i37 : PySem.W.isFn K (.ref f37) = true) (l37 : K.lookup f37 = some ⟨oc37, od37, .func (PySem.W.fnOf "strike" "Log.strike" (defArgs s_Log_strike) (defBody s_Log_strike) (defScope s_Log_strike) .none kV37 dc37 pm37 an37 cd37 ct37), sl37⟩) (c37 : PySem.W.codeIn K cd37 "Log.strike" = true) (k37 : PySem.W.keepIn K (.ref f37) = true)
    (a38 : PySem.W.findIn K (.ref C17) "entries" = some (some (.ref f38))) (i38 : PySem.W.isFn K (.ref f38) = true) (l38 : K.lookup f38 = some ⟨oc38, od38, .func (PySem.W.fnOf "entries" "Log.entries" (defArgs s_Log_entries) (defBody s_Log_entries) (defScope s_Log_entries) .none kV38 dc38 pm38 an38 (.ref cO0) ct38), sl38⟩) (c38 : PySem.W.codeIn K (.ref cO0) "Log.entries" = true) (k38 : PySem.W.keepIn K (.ref f38) = true)
    (a39 : PySem.W.findIn K (.ref C17) "chart" = some (some (.ref f39))) (i39 : PySem.W.isFn K (.ref f39) = true) (l39 : K.lookup f39 = some ⟨oc39, od39, .func (PySem.W.fnOf "chart" "Log.chart" (defArgs s_Log_chart) (defBody s_Log_chart) (defScope s_Log_chart) (.ref T39) kV39 dc39 pm39 an39 cd39 ct39), sl39⟩) (c39 : PySem.W.codeIn K cd39 "Log.chart" = true) (k39 : PySem.W.keepIn K (.ref f39) = true)
    (dt39 : K.lookup T39 = some ⟨oT39, pT39, .seq #[.int (999) u39_0] nT39, sT39⟩)
    (a40 : PySem.W.findIn K (.ref C17) "twin" = some (some (.ref f40))) (i40 : PySem.W.isFn K (.ref f40) = true) (l40 : K.lookup f40 = some ⟨oc40, od40, .func (PySem.W.fnOf "twin" "Log.twin" (defArgs s_Log_twin) (defBody s_Log_twin) (defScope s_Log_twin) .none kV40 dc40 pm40 an40 cd40 ct40), sl40⟩) (c40 : PySem.W.codeIn K cd40 "Log.twin" = true) (k40 : PySem.W.keepIn K (.ref f40) = true)
    (a41 : PySem.W.findIn K (.ref C18) "__init__" = some (some (.ref f41))) (i41 : PySem.W.isFn K (.ref f41) = true) (l41 : K.lookup f41 = some ⟨oc41, od41, .func (PySem.W.fnOf "__init__" "Atlas.__init__" (defArgs s_Atlas_init) (defBody s_Atlas_init) (defScope s_Atlas_init) .none kV41 dc41 pm41 an41 cd41 ct41), sl41⟩) (c41 : PySem.W.codeIn K cd41 "Atlas.__init__" = true) (k41 : PySem.W.keepIn K (.ref f41) = true)
    (a42 : PySem.W.findIn K (.ref C18) "do" = some (some (.ref f42))) (i42 : PySem.W.isFn K (.ref f42) = true) (l42 : K.lookup f42 = some ⟨oc42, od42, .func (PySem.W.fnOf "do" "Atlas.do" (defArgs s_Atlas_do) (defBody s_Atlas_do) (defScope s_Atlas_do) .none kV42 dc42 pm42 an42 cd42 ct42), sl42⟩) (c42 : PySem.W.codeIn K cd42 "Atlas.do" = true) (k42 : PySem.W.keepIn K (.ref f42) = true)
    (a43 : PySem.W.findIn K (.ref C18) "twin" = some (some (.ref f43))) (i43 : PySem.W.isFn K (.ref f43) = true) (l43 : K.lookup f43 = some ⟨oc43, od43, .func (PySem.W.fnOf "twin" "Atlas.twin" (defArgs s_Atlas_twin) (defBody s_Atlas_twin) (defScope s_Atlas_twin) .none kV43 dc43 pm43 an43 cd43 ct43), sl43⟩) (c43 : PySem.W.codeIn K cd43 "Atlas.twin" = true) (k43 : PySem.W.keepIn K (.ref f43) = true)
    (a44 : PySem.W.findIn K (.ref C18) "log" = some (some (.ref f44))) (i44 : PySem.W.isFn K (.ref f44) = true) (l44 : K.lookup f44 = some ⟨oc44, od44, .func (PySem.W.fnOf "log" "Atlas.log" (defArgs s_Atlas_log) (defBody s_Atlas_log) (defScope s_Atlas_log) .none kV44 dc44 pm44 an44 cd44 ct44), sl44⟩) (c44 : PySem.W.codeIn K cd44 "Atlas.log" = true) (k44 : PySem.W.keepIn K (.ref f44) = true)
    (a45 : PySem.W.findIn K (.ref C19) "__init__" = some (some (.ref f45))) (i45 : PySem.W.isFn K (.ref f45) = true) (l45 : K.lookup f45 = some ⟨oc45, od45, .func (PySem.W.fnOf "__init__" "Desk.__init__" (defArgs s_Desk_init) (defBody s_Desk_init) (defScope s_Desk_init) .none kV45 dc45 pm45 an45 cd45 ct45), sl45⟩) (c45 : PySem.W.codeIn K cd45 "Desk.__init__" = true) (k45 : PySem.W.keepIn K (.ref f45) = true)
    (a46 : PySem.W.findIn K (.ref C19) "atlas" = some (some (.ref f46))) (i46 : PySem.W.isFn K (.ref f46) = true) (l46 : K.lookup f46 = some ⟨oc46, od46, .func (PySem.W.fnOf "atlas" "Desk.atlas" (defArgs s_Desk_atlas) (defBody s_Desk_atlas) (defScope s_Desk_atlas) .none kV46 dc46 pm46 an46 cd46 ct46), sl46⟩) (c46 : PySem.W.codeIn K cd46 "Desk.atlas" = true) (k46 : PySem.W.keepIn K (.ref f46) = true)
    (a47 : PySem.W.findIn K (.ref C19) "say" = some (some (.ref f47))) (i47 : PySem.W.isFn K (.ref f47) = true) (l47 : K.lookup f47 = some ⟨oc47, od47, .func (PySem.W.fnOf "say" "Desk.say" (defArgs s_Desk_say) (defBody s_Desk_say) (defScope s_Desk_say) .none kV47 dc47 pm47 an47 cd47 ct47), sl47⟩) (c47 : PySem.W.codeIn K cd47 "Desk.say" = true) (k47 : PySem.W.keepIn K (.ref f47) = true)
    (pg17 : PySem.W.plainGet K C17 Str.empty = true) (hd17 : PySem.W.hasDictIn K C17 = true) (po17 : PySem.W.plainOver K C17 = true) (sa17 : PySem.W.findIn K (.ref C17) "__setattr__" = some (some (.builtin "object.__setattr__"))) (mk17 : PySem.W.makesIn K C17 = true)
    (na17_0 : PySem.W.findIn K (.ref C17) "clock" = some none)
    (na17_1 : PySem.W.findIn K (.ref C17) "high" = some none)
    (na17_2 : PySem.W.findIn K (.ref C17) "wide" = some none)
    (na17_3 : PySem.W.findIn K (.ref C17) "kept" = some none)
    (na17_4 : PySem.W.findIn K (.ref C17) "next_number" = some none)
    (pg18 : PySem.W.plainGet K C18 Str.empty = true) (hd18 : PySem.W.hasDictIn K C18 = true) (po18 : PySem.W.plainOver K C18 = true) (sa18 : PySem.W.findIn K (.ref C18) "__setattr__" = some (some (.builtin "object.__setattr__"))) (mk18 : PySem.W.makesIn K C18 = true)
    (na18_0 : PySem.W.findIn K (.ref C18) "logs" = some none)
    (na18_1 : PySem.W.findIn K (.ref C18) "past" = some none)
    (na18_2 : PySem.W.findIn K (.ref C18) "ahead" = some none)
    (pg19 : PySem.W.plainGet K C19 Str.empty = true) (hd19 : PySem.W.hasDictIn K C19 = true) (po19 : PySem.W.plainOver K C19 = true) (sa19 : PySem.W.findIn K (.ref C19) "__setattr__" = some (some (.builtin "object.__setattr__"))) (mk19 : PySem.W.makesIn K C19 = true)
    (na19_0 : PySem.W.findIn K (.ref C19) "held" = some none)
    (q0 : PySem.W.nsIn K mainGlobals "LEAST_HOURS" = some (some (.int (3) t0)))
    (q1 : PySem.W.nsIn K mainGlobals "MOST_HOURS" = some (some (.int (15) t1)))
    (q2 : PySem.W.nsIn K mainGlobals "MOST_SQUARES" = some (some (.int (9) t2)))
    (q3 : PySem.W.nsIn K mainGlobals "LAND" = some (some (.int (-1) t3)))
    (q4 : PySem.W.nsIn K mainGlobals "UNTOLD" = some (some (.int (-2) t4)))
    (q5 : PySem.W.nsIn K mainGlobals "OUTSIDE_eyes" = some (some (.ref O5))) (qo5 : K.lookup O5 = some ⟨.type "tuple", pO5, .seq #[.int (-1) v5_0, .int (-1) v5_1] nO5, sO5⟩)
    (q6 : PySem.W.nsIn K mainGlobals "OUTSIDE_breaks" = some (some (.int (-1) t6)))
    (q7 : PySem.W.nsIn K mainGlobals "LETTERS" = some (some (.str "abcdefghijklmnopqrstuvwxyz" t7)))
    (q8 : PySem.W.nsIn K mainGlobals "FIGURES" = some (some (.str "0123456789" t8)))
    (q9 : PySem.W.nsIn K mainGlobals "MOST_LETTERS" = some (some (.int (8) t9)))
    (q10 : PySem.W.nsIn K mainGlobals "MOST_FIGURES" = some (some (.int (6) t10)))
    (q11 : PySem.W.nsIn K mainGlobals "LAST_DAY" = some (some (.int (999) t11)))
    (q12 : PySem.W.nsIn K mainGlobals "MOST_ENTRIES" = some (some (.int (200) t12)))
    (q13 : PySem.W.nsIn K mainGlobals "MOST_CHARTS" = some (some (.int (8) t13)))
    (q14 : PySem.W.nsIn K mainGlobals "HOUR_SIGNS" = some (some (.str "0123456789abcde" t14)))
    (q15 : PySem.W.nsIn K mainGlobals "LAND_SIGN" = some (some (.str "#" t15)))
    (q16 : PySem.W.nsIn K mainGlobals "UNTOLD_SIGN" = some (some (.str "." t16)))
    (q17 : PySem.W.nsIn K mainGlobals "TITLE" = some (some (.str "atlas" t17)))
    (qD0 : PySem.W.nsIn K mainGlobals "DEEDS" = some (some (.ref OD0))) (qk0 : K.lookup OD0 = some ⟨.type "dict", none, .dict (List.toArray [⟨hD0_0, .str "begin" kD0_0, .ref tD0_0⟩, ⟨hD0_1, .str "tell" kD0_1, .ref tD0_1⟩, ⟨hD0_2, .str "right" kD0_2, .ref tD0_2⟩, ⟨hD0_3, .str "strike" kD0_3, .ref tD0_3⟩, ⟨hD0_4, .str "drop" kD0_4, .ref tD0_4⟩, ⟨hD0_5, .str "lay" kD0_5, .ref tD0_5⟩]) nD0, #[]⟩) (ql0 : PySem.W.KeysLit w.params [⟨hD0_0, .str "begin" kD0_0, .ref tD0_0⟩, ⟨hD0_1, .str "tell" kD0_1, .ref tD0_1⟩, ⟨hD0_2, .str "right" kD0_2, .ref tD0_2⟩, ⟨hD0_3, .str "strike" kD0_3, .ref tD0_3⟩, ⟨hD0_4, .str "drop" kD0_4, .ref tD0_4⟩, ⟨hD0_5, .str "lay" kD0_5, .ref tD0_5⟩]) (qw0 : (OD0 == sysModules) = false)
    (qt0_0 : K.lookup tD0_0 = some ⟨.type "tuple", pD0_0, .seq #[.str "name" vD0_0_0, .str "number" vD0_0_1, .str "number" vD0_0_2, .str "number" vD0_0_3] nD0_0, sD0_0⟩)
    (qt0_1 : K.lookup tD0_1 = some ⟨.type "tuple", pD0_1, .seq #[.str "name" vD0_1_0, .str "number" vD0_1_1, .str "number" vD0_1_2, .str "what" vD0_1_3, .str "number" vD0_1_4] nD0_1, sD0_1⟩)
    (qt0_2 : K.lookup tD0_2 = some ⟨.type "tuple", pD0_2, .seq #[.str "name" vD0_2_0, .str "number" vD0_2_1, .str "what" vD0_2_2] nD0_2, sD0_2⟩)
    (qt0_3 : K.lookup tD0_3 = some ⟨.type "tuple", pD0_3, .seq #[.str "name" vD0_3_0, .str "number" vD0_3_1] nD0_3, sD0_3⟩)
    (qt0_4 : K.lookup tD0_4 = some ⟨.type "tuple", pD0_4, .seq #[.str "name" vD0_4_0] nD0_4, sD0_4⟩)
    (qt0_5 : K.lookup tD0_5 = some ⟨.type "tuple", pD0_5, .seq #[.str "name" vD0_5_0, .str "name" vD0_5_1, .str "number" vD0_5_2, .str "number" vD0_5_3, .str "number" vD0_5_4] nD0_5, sD0_5⟩)
    (qD1 : PySem.W.nsIn K mainGlobals "ACTIONS" = some (some (.ref OD1))) (qk1 : K.lookup OD1 = some ⟨.type "dict", none, .dict (List.toArray [⟨hD1_0, .str "begin" kD1_0, .ref f17⟩, ⟨hD1_1, .str "tell" kD1_1, .ref f18⟩, ⟨hD1_2, .str "right" kD1_2, .ref f19⟩, ⟨hD1_3, .str "strike" kD1_3, .ref f20⟩, ⟨hD1_4, .str "drop" kD1_4, .ref f21⟩, ⟨hD1_5, .str "lay" kD1_5, .ref f22⟩]) nD1, #[]⟩) (ql1 : PySem.W.KeysLit w.params [⟨hD1_0, .str "begin" kD1_0, .ref f17⟩, ⟨hD1_1, .str "tell" kD1_1, .ref f18⟩, ⟨hD1_2, .str "right" kD1_2, .ref f19⟩, ⟨hD1_3, .str "strike" kD1_3, .ref f20⟩, ⟨hD1_4, .str "drop" kD1_4, .ref f21⟩, ⟨hD1_5, .str "lay" kD1_5, .ref f22⟩]) (qw1 : (OD1 == sysModules) = false)
    (qD2 : PySem.W.nsIn K mainGlobals "LINES" = some (some (.ref OD2))) (qk2 : K.lookup OD2 = some ⟨.type "dict", none, .dict (List.toArray [⟨hD2_0, .str "undo" kD2_0, .ref tD2_0⟩, ⟨hD2_1, .str "redo" kD2_1, .ref tD2_1⟩, ⟨hD2_2, .str "names" kD2_2, .ref tD2_2⟩, ⟨hD2_3, .str "page" kD2_3, .ref tD2_3⟩, ⟨hD2_4, .str "log" kD2_4, .ref tD2_4⟩, ⟨hD2_5, .str "chart" kD2_5, .ref tD2_5⟩, ⟨hD2_6, .str "knots" kD2_6, .ref tD2_6⟩, ⟨hD2_7, .str "whole" kD2_7, .ref tD2_7⟩, ⟨hD2_8, .str "ages" kD2_8, .ref tD2_8⟩, ⟨hD2_9, .str "weight" kD2_9, .ref tD2_9⟩, ⟨hD2_10, .str "bar" kD2_10, .ref tD2_10⟩, ⟨hD2_11, .str "may" kD2_11, .ref tD2_11⟩]) nD2, #[]⟩) (ql2 : PySem.W.KeysLit w.params [⟨hD2_0, .str "undo" kD2_0, .ref tD2_0⟩, ⟨hD2_1, .str "redo" kD2_1, .ref tD2_1⟩, ⟨hD2_2, .str "names" kD2_2, .ref tD2_2⟩, ⟨hD2_3, .str "page" kD2_3, .ref tD2_3⟩, ⟨hD2_4, .str "log" kD2_4, .ref tD2_4⟩, ⟨hD2_5, .str "chart" kD2_5, .ref tD2_5⟩, ⟨hD2_6, .str "knots" kD2_6, .ref tD2_6⟩, ⟨hD2_7, .str "whole" kD2_7, .ref tD2_7⟩, ⟨hD2_8, .str "ages" kD2_8, .ref tD2_8⟩, ⟨hD2_9, .str "weight" kD2_9, .ref tD2_9⟩, ⟨hD2_10, .str "bar" kD2_10, .ref tD2_10⟩, ⟨hD2_11, .str "may" kD2_11, .ref tD2_11⟩]) (qw2 : (OD2 == sysModules) = false)
    (qt2_0 : K.lookup tD2_0 = some ⟨.type "tuple", pD2_0, .seq #[] nD2_0, sD2_0⟩)
    (qt2_1 : K.lookup tD2_1 = some ⟨.type "tuple", pD2_1, .seq #[] nD2_1, sD2_1⟩)
    (qt2_2 : K.lookup tD2_2 = some ⟨.type "tuple", pD2_2, .seq #[] nD2_2, sD2_2⟩)
    (qt2_3 : K.lookup tD2_3 = some ⟨.type "tuple", pD2_3, .seq #[] nD2_3, sD2_3⟩)
    (qt2_4 : K.lookup tD2_4 = some ⟨.type "tuple", pD2_4, .seq #[.str "name" vD2_4_0] nD2_4, sD2_4⟩)
    (qt2_5 : K.lookup tD2_5 = some ⟨.type "tuple", pD2_5, .seq #[.str "name" vD2_5_0, .str "number" vD2_5_1] nD2_5, sD2_5⟩)
    (qt2_6 : K.lookup tD2_6 = some ⟨.type "tuple", pD2_6, .seq #[.str "name" vD2_6_0, .str "number" vD2_6_1] nD2_6, sD2_6⟩)
    (qt2_7 : K.lookup tD2_7 = some ⟨.type "tuple", pD2_7, .seq #[.str "name" vD2_7_0, .str "number" vD2_7_1] nD2_7, sD2_7⟩)
    (qt2_8 : K.lookup tD2_8 = some ⟨.type "tuple", pD2_8, .seq #[.str "name" vD2_8_0, .str "number" vD2_8_1] nD2_8, sD2_8⟩)
    (qt2_9 : K.lookup tD2_9 = some ⟨.type "tuple", pD2_9, .seq #[.str "name" vD2_9_0, .str "number" vD2_9_1] nD2_9, sD2_9⟩)
    (qt2_10 : K.lookup tD2_10 = some ⟨.type "tuple", pD2_10, .seq #[.str "name" vD2_10_0, .str "number" vD2_10_1] nD2_10, sD2_10⟩)
    (qt2_11 : K.lookup tD2_11 = some ⟨.type "tuple", pD2_11, .seq #[.str "name" vD2_11_0, .str "number" vD2_11_1, .str "number" vD2_11_2, .str "number" vD2_11_3] nD2_11, sD2_11⟩)
    (z0 : PySem.W.nsIn K mainGlobals "all" = some none)
    (z1 : PySem.W.nsIn K mainGlobals "dict" = some none)
    (z2 : PySem.W.nsIn K mainGlobals "enumerate" = some none)
    (z3 : PySem.W.nsIn K mainGlobals "int" = some none)
    (z4 : PySem.W.nsIn K mainGlobals "len" = some none)
    (z5 : PySem.W.nsIn K mainGlobals "list" = some none)
    (z6 : PySem.W.nsIn K mainGlobals "range" = some none)
    (z7 : PySem.W.nsIn K mainGlobals "sorted" = some none)
    (z8 : PySem.W.nsIn K mainGlobals "str" = some none)
    (z9 : PySem.W.nsIn K mainGlobals "tuple" = some none)
    (z10 : PySem.W.nsIn K mainGlobals "zip" = some none)
    (ga0 : PySem.W.nsIn K mainGlobals "TideError" = some (some (.ref C0)))
    (gk0 : PySem.W.keepIn K (.ref C0) = true)
    (ga1 : PySem.W.nsIn K mainGlobals "BadClock" = some (some (.ref C1)))
    (gk1 : PySem.W.keepIn K (.ref C1) = true)
    (ga2 : PySem.W.nsIn K mainGlobals "BadHour" = some (some (.ref C2)))
    (gk2 : PySem.W.keepIn K (.ref C2) = true)
    (ga3 : PySem.W.nsIn K mainGlobals "BadChart" = some (some (.ref C3)))
    (gk3 : PySem.W.keepIn K (.ref C3) = true)
    (ga4 : PySem.W.nsIn K mainGlobals "BadSquare" = some (some (.ref C4)))
    (gk4 : PySem.W.keepIn K (.ref C4) = true)
    (ga5 : PySem.W.nsIn K mainGlobals "NoFill" = some (some (.ref C5)))
    (gk5 : PySem.W.keepIn K (.ref C5) = true)
    (ga6 : PySem.W.nsIn K mainGlobals "Unlike" = some (some (.ref C6)))
    (gk6 : PySem.W.keepIn K (.ref C6) = true)
    (ga7 : PySem.W.nsIn K mainGlobals "BadName" = some (some (.ref C7)))
    (gk7 : PySem.W.keepIn K (.ref C7) = true)
    (ga8 : PySem.W.nsIn K mainGlobals "Taken" = some (some (.ref C8)))
    (gk8 : PySem.W.keepIn K (.ref C8) = true)
    (ga9 : PySem.W.nsIn K mainGlobals "Full" = some (some (.ref C9)))
    (gk9 : PySem.W.keepIn K (.ref C9) = true)
    (ga10 : PySem.W.nsIn K mainGlobals "NoChart" = some (some (.ref C10)))
    (gk10 : PySem.W.keepIn K (.ref C10) = true)
    (ga11 : PySem.W.nsIn K mainGlobals "BadDay" = some (some (.ref C11)))
    (gk11 : PySem.W.keepIn K (.ref C11) = true)
    (ga12 : PySem.W.nsIn K mainGlobals "BadDeed" = some (some (.ref C12)))
    (gk12 : PySem.W.keepIn K (.ref C12) = true)
    (ga13 : PySem.W.nsIn K mainGlobals "NothingLeft" = some (some (.ref C13)))
    (gk13 : PySem.W.keepIn K (.ref C13) = true)
    (ga14 : PySem.W.nsIn K mainGlobals "Knotted" = some (some (.ref C14)))
    (gk14 : PySem.W.keepIn K (.ref C14) = true)
    (ga15 : PySem.W.nsIn K mainGlobals "BadText" = some (some (.ref C15)))
    (gk15 : PySem.W.keepIn K (.ref C15) = true)
    (ga16 : PySem.W.nsIn K mainGlobals "NoEntry" = some (some (.ref C16)))
    (gk16 : PySem.W.keepIn K (.ref C16) = true)
    (ga17 : PySem.W.nsIn K mainGlobals "Log" = some (some (.ref C17)))
    (gk17 : PySem.W.keepIn K (.ref C17) = true)
    (ga18 : PySem.W.nsIn K mainGlobals "Atlas" = some (some (.ref C18)))
    (gk18 : PySem.W.keepIn K (.ref C18) = true)
    (ga19 : PySem.W.nsIn K mainGlobals "Desk" = some (some (.ref C19)))
    (gk19 : PySem.W.keepIn K (.ref C19) = true)
    (te1 : PySem.W.subIn K (.ref C0) (.type "BaseException") = some true)
    (te2 : PySem.W.hasDictIn K C0 = true)
    (te3 : PySem.W.typeIn K (.ref C0) = some (.type "type"))
    (gx1 : PySem.W.excIn K C1 [.type "ValueError", .type "Exception", .type "BaseException", .type "object"] "ValueError.__new__" = true)
    (gs1 : PySem.W.subIn K (.ref C1) (.type "BaseException") = some true)
    (gt1 : PySem.W.typeIn K (.ref C1) = some (.type "type"))
    (gm1 : PySem.W.subIn K (.ref C1) (.ref C0) = some true)
    (gx2 : PySem.W.excIn K C2 [.type "ValueError", .type "Exception", .type "BaseException", .type "object"] "ValueError.__new__" = true)
    (gs2 : PySem.W.subIn K (.ref C2) (.type "BaseException") = some true)
    (gt2 : PySem.W.typeIn K (.ref C2) = some (.type "type"))
    (gm2 : PySem.W.subIn K (.ref C2) (.ref C0) = some true)
    (gx3 : PySem.W.excIn K C3 [.type "ValueError", .type "Exception", .type "BaseException", .type "object"] "ValueError.__new__" = true)
    (gs3 : PySem.W.subIn K (.ref C3) (.type "BaseException") = some true)
    (gt3 : PySem.W.typeIn K (.ref C3) = some (.type "type"))
    (gm3 : PySem.W.subIn K (.ref C3) (.ref C0) = some true)
    (gx4 : PySem.W.excIn K C4 [.type "ValueError", .type "Exception", .type "BaseException", .type "object"] "ValueError.__new__" = true)
    (gs4 : PySem.W.subIn K (.ref C4) (.type "BaseException") = some true)
    (gt4 : PySem.W.typeIn K (.ref C4) = some (.type "type"))
    (gm4 : PySem.W.subIn K (.ref C4) (.ref C0) = some true)
    (gx6 : PySem.W.excIn K C6 [.type "ValueError", .type "Exception", .type "BaseException", .type "object"] "ValueError.__new__" = true)
    (gs6 : PySem.W.subIn K (.ref C6) (.type "BaseException") = some true)
    (gt6 : PySem.W.typeIn K (.ref C6) = some (.type "type"))
    (gm6 : PySem.W.subIn K (.ref C6) (.ref C0) = some true)
    (gx7 : PySem.W.excIn K C7 [.type "ValueError", .type "Exception", .type "BaseException", .type "object"] "ValueError.__new__" = true)
    (gs7 : PySem.W.subIn K (.ref C7) (.type "BaseException") = some true)
    (gt7 : PySem.W.typeIn K (.ref C7) = some (.type "type"))
    (gm7 : PySem.W.subIn K (.ref C7) (.ref C0) = some true)
    (gx8 : PySem.W.excIn K C8 [.type "ValueError", .type "Exception", .type "BaseException", .type "object"] "ValueError.__new__" = true)
    (gs8 : PySem.W.subIn K (.ref C8) (.type "BaseException") = some true)
    (gt8 : PySem.W.typeIn K (.ref C8) = some (.type "type"))
    (gm8 : PySem.W.subIn K (.ref C8) (.ref C0) = some true)
    (gx9 : PySem.W.excIn K C9 [.type "ValueError", .type "Exception", .type "BaseException", .type "object"] "ValueError.__new__" = true)
    (gs9 : PySem.W.subIn K (.ref C9) (.type "BaseException") = some true)
    (gt9 : PySem.W.typeIn K (.ref C9) = some (.type "type"))
    (gm9 : PySem.W.subIn K (.ref C9) (.ref C0) = some true)
    (gx10 : PySem.W.excIn K C10 [.type "ValueError", .type "Exception", .type "BaseException", .type "object"] "ValueError.__new__" = true)
    (gs10 : PySem.W.subIn K (.ref C10) (.type "BaseException") = some true)
    (gt10 : PySem.W.typeIn K (.ref C10) = some (.type "type"))
    (gm10 : PySem.W.subIn K (.ref C10) (.ref C0) = some true)
    (gx11 : PySem.W.excIn K C11 [.type "ValueError", .type "Exception", .type "BaseException", .type "object"] "ValueError.__new__" = true)
    (gs11 : PySem.W.subIn K (.ref C11) (.type "BaseException") = some true)
    (gt11 : PySem.W.typeIn K (.ref C11) = some (.type "type"))
    (gm11 : PySem.W.subIn K (.ref C11) (.ref C0) = some true)
    (gx12 : PySem.W.excIn K C12 [.type "ValueError", .type "Exception", .type "BaseException", .type "object"] "ValueError.__new__" = true)
    (gs12 : PySem.W.subIn K (.ref C12) (.type "BaseException") = some true)
    (gt12 : PySem.W.typeIn K (.ref C12) = some (.type "type"))
    (gm12 : PySem.W.subIn K (.ref C12) (.ref C0) = some true)
    (gs15 : PySem.W.subIn K (.ref C15) (.type "BaseException") = some true)
    (gt15 : PySem.W.typeIn K (.ref C15) = some (.type "type"))
    (gm15 : PySem.W.subIn K (.ref C15) (.ref C0) = some true)
    (gs16 : PySem.W.subIn K (.ref C16) (.type "BaseException") = some true)
    (gt16 : PySem.W.typeIn K (.ref C16) = some (.type "type"))
    (hq1 : PySem.W.hasDictIn K C1 = true)
    (hm1 : PySem.W.subIn K (.ref C1) (.ref C1) = some true)
    (hq2 : PySem.W.hasDictIn K C2 = true)
    (hm2 : PySem.W.subIn K (.ref C2) (.ref C2) = some true)
    (hq4 : PySem.W.hasDictIn K C4 = true)
    (hm4 : PySem.W.subIn K (.ref C4) (.ref C4) = some true)
    (hq6 : PySem.W.hasDictIn K C6 = true)
    (hm6 : PySem.W.subIn K (.ref C6) (.ref C6) = some true)
    (hq8 : PySem.W.hasDictIn K C8 = true)
    (hm8 : PySem.W.subIn K (.ref C8) (.ref C8) = some true)
    (hq9 : PySem.W.hasDictIn K C9 = true)
    (hm9 : PySem.W.subIn K (.ref C9) (.ref C9) = some true)
    (hq10 : PySem.W.hasDictIn K C10 = true)
    (hm10 : PySem.W.subIn K (.ref C10) (.ref C10) = some true)
    (hq11 : PySem.W.hasDictIn K C11 = true)
    (hm11 : PySem.W.subIn K (.ref C11) (.ref C11) = some true)
    (Ji15 : PySem.W.findIn K (.ref C15) "__init__" = some (some (.ref If15)))
    (Il15 : K.lookup If15 = some ⟨Ioc15, Iod15, .func (PySem.W.fnOf "__init__" "BadText.__init__" (defArgs s_BadText_init) (defBody s_BadText_init) (defScope s_BadText_init) .none IkV15 Idc15 Ipm15 Ian15 Icd15 Ict15), Isl15⟩)
    (Ic15 : PySem.W.codeIn K Icd15 "BadText.__init__" = true)
    (Ik15 : PySem.W.keepIn K (.ref If15) = true)
    (Jl15 : K.lookup C15 = some (excClassObj Jn15 Jq15 C15 JN15 Jb15 JB15 true Js15 Ju15 Ja15 Jc15 Jd15 J015 J115 J215 J315 J515 "ValueError.__new__"))
    (Jr15 : PySem.HandSPX.refsVE JB15 = true)
    (Js15a : PySem.W.findIn K (.ref C15) "__setattr__" = some (some (.builtin "object.__setattr__")))
    (Jg15 : PySem.W.findIn K (.ref C15) "__getattribute__" = some (some (.builtin "BaseException.__getattribute__")))
    (Jh15 : PySem.W.findIn K (.ref C15) "__getattr__" = some none)
    (Jj15 : PySem.W.hasDictIn K C15 = true)
    (Jt15 : PySem.W.typeIn K (.ref If15) = some (.type "function"))
    (Jf15 : PySem.W.findIn K (.ref C15) "row" = some none)
    (Jm15 : PySem.W.subIn K (.ref C15) (.ref C15) = some true)
    (Kb15_1 : PySem.W.specialIn K (.ref C0) "__getattribute__" = some (some (.builtin "type.__getattribute__")))
    (Kb15_2 : PySem.W.readsIn K C0 (.type "type") = true)
    (Kb15_3 : PySem.W.findCls K (.ref C0) (.type "type") "__init__" = some (.val (.builtin "ValueError.__init__")))
    (Ji16 : PySem.W.findIn K (.ref C16) "__init__" = some (some (.ref If16)))
    (Il16 : K.lookup If16 = some ⟨Ioc16, Iod16, .func (PySem.W.fnOf "__init__" "NoEntry.__init__" (defArgs s_NoEntry_init) (defBody s_NoEntry_init) (defScope s_NoEntry_init) .none IkV16 Idc16 Ipm16 Ian16 Icd16 Ict16), Isl16⟩)
    (Ic16 : PySem.W.codeIn K Icd16 "NoEntry.__init__" = true)
    (Ik16 : PySem.W.keepIn K (.ref If16) = true)
    (Jl16 : K.lookup C16 = some (excClassObj Jn16 Jq16 C16 JN16 Jb16 lkTail true Js16 Ju16 Ja16 Jc16 Jd16 J016 J116 J216 J316 J516 "LookupError.__new__"))
    (Js16a : PySem.W.findIn K (.ref C16) "__setattr__" = some (some (.builtin "object.__setattr__")))
    (Jg16 : PySem.W.findIn K (.ref C16) "__getattribute__" = some (some (.builtin "BaseException.__getattribute__")))
    (Jh16 : PySem.W.findIn K (.ref C16) "__getattr__" = some none)
    (Jj16 : PySem.W.hasDictIn K C16 = true)
    (Jt16 : PySem.W.typeIn K (.ref If16) = some (.type "function"))
    (Jf16 : PySem.W.findIn K (.ref C16) "many" = some none)
    (Jm16 : PySem.W.subIn K (.ref C16) (.ref C16) = some true)
    (Jv16 : PySem.W.findCls K (.type "LookupError") (.type "type") "__init__" = some (.val (.builtin "LookupError.__init__")))
    (Jz16 : PySem.W.nsIn K mainGlobals "LookupError" = some none)
    (Jx16 : PySem.W.kitOne K (.ref C16) (.type "LookupError") = some true)
    (Jy16 : PySem.W.kitOne K (.ref C16) (.type "ValueError") = some false)
    (Jq1_16 : PySem.W.subIn K (.ref C1) (.ref C16) = some false)
    (Jq2_16 : PySem.W.subIn K (.ref C2) (.ref C16) = some false)
    (Jq3_16 : PySem.W.subIn K (.ref C3) (.ref C16) = some false)
    (Jq4_16 : PySem.W.subIn K (.ref C4) (.ref C16) = some false)
    (Jq6_16 : PySem.W.subIn K (.ref C6) (.ref C16) = some false)
    (Jq7_16 : PySem.W.subIn K (.ref C7) (.ref C16) = some false)
    (Jq8_16 : PySem.W.subIn K (.ref C8) (.ref C16) = some false)
    (Jq9_16 : PySem.W.subIn K (.ref C9) (.ref C16) = some false)
    (Jq10_16 : PySem.W.subIn K (.ref C10) (.ref C16) = some false)
    (Jq11_16 : PySem.W.subIn K (.ref C11) (.ref C16) = some false)
    (Jq12_16 : PySem.W.subIn K (.ref C12) (.ref C16) = some false)
    (Jq15_16 : PySem.W.subIn K (.ref C15) (.ref C16) = some false)
    (xm : ([C1, C2, C3, C4, C6, C7, C8, C9, C10, C11, C12, C15, C16] : List Addr).map (fun x => ([C11, C2, C4, C9, C8, C6, C10, C1, C13, C14, C16, C15] : List Addr).map fun y => PySem.W.exmOne K (.ref x) (.ref y)) = [[some false, some false, some false, some false, some false, some false, some false, some true, some false, some false, some false, some false], [some false, some true, some false, some false, some false, some false, some false, some false, some false, some false, some false, some false], [some false, some false, some false, some false, some false, some false, some false, some false, some false, some false, some false, some false], [some false, some false, some true, some false, some false, some false, some false, some false, some false, some false, some false, some false], [some false, some false, some false, some false, some false, some true, some false, some false, some false, some false, some false, some false], [some false, some false, some false, some false, some false, some false, some false, some false, some false, some false, some false, some false], [some false, some false, some false, some false, some true, some false, some false, some false, some false, some false, some false, some false], [some false, some false, some false, some true, some false, some false, some false, some false, some false, some false, some false, some false], [some false, some false, some false, some false, some false, some false, some true, some false, some false, some false, some false, some false], [some true, some false, some false, some false, some false, some false, some false, some false, some false, some false, some false, some false], [some false, some false, some false, some false, some false, some false, some false, some false, some false, some false, some false, some false], [some false, some false, some false, some false, some false, some false, some false, some false, some false, some false, some false, some true], [some false, some false, some false, some false, some false, some false, some false, some false, some false, some false, some true, some false]])
    (hT0 : h.get? PO0 = some { cls := .none, data := .fields #[] }) (nT0 : K.lookup PO0 = none) (cH0 : PySem.W.codeHdIn K cO0 PO0 = true)
    (tnd : ([PO0] : List Addr).Nodup), LamX.LawAtS l w K CX0 13 63 "_law_script" mg fa h) : PySem.Challenge.rw_cotide_k56_full_at_the_desk.Holds := by
  w_on; o_law
  refine PySem.W.holds_open (r := LightH.R) (q := LightH.qv) (loose := LightH.nms) (XP := PySem.W.XL LightH.qv []) (YP := LightH.hk.says) (d := HandSHeadRun.topDef LightH.R.prog 155) (kwd := [])
    (Cot.left_km (H := LightH.hk) (N := 30000) rfl LightH.lookF LightH.lookT LightH.seenF LightH.seenT LightH.objF LightH.objT) LightH.hk.of LightH.hk.keeps
    (fun _ z => PySem.W.xl_of _ (Bool.and_eq_true_iff.mp z).1) PySem.W.XL.keeps (by kernel_rfl) (by kernel_rfl) (by kernel_rfl) (fun _ z => PySem.W.recFacts_of (Bool.and_eq_true_iff.mp z).2) (by rfl) (by first | assumption | decide +kernel) (by decide +kernel) ⟨rfl, rfl, rfl, rfl, rfl, by decide +kernel⟩ ?hw ?hc
  (case hw => w_witness2)
  k_fill
  refine LamX.walk_ofTs (l := PySem.Challenge.rw_cotide_k56_full_at_the_desk) (n := 63) (k := 13) (x := "_law_script") (CX := fun _ => L2.CX0) rfl (by decide) rfl ⟨rfl, by decide, by decide⟩ (fun w h Y => PySem.W.km_in_of Y) ?F (fun _ _ _ _ _ h => h)
  case F =>
    intro w mg fa h Y KX G hmg
    replace hmg : mg ("law" : PySem.Str) = some (.ref fa) := by
      rw [show ("law" : PySem.Str) = (HandSHeadRun.topDef LightH.R.prog 155).name by kernel_rfl]
      exact hmg
    have hT := PySem.W.km_tabs_of Y
    refine' all_mk KX G hmg ?a0 ?l0 ?c0 ?k0 ?a1 ?l1 ?c1 ?k1 ?a2 ?l2 ?c2 ?k2 ?a3 ?l3 ?c3 ?k3 ?a4 ?l4 ?c4 ?k4 ?a5 ?l5 ?c5 ?k5 ?a6 ?l6 ?c6 ?k6 ?a7 ?l7 ?c7 ?k7 ?a8 ?l8 ?c8 ?k8 ?a9 ?l9 ?c9 ?k9 ?a10 ?l10 ?c10 ?k10 ?a11 ?l11 ?c11 ?k11 ?a12 ?l12 ?c12 ?k12 ?a13 ?l13 ?c13 ?k13 ?a14 ?l14 ?c14 ?k14 ?a15 ?l15 ?c15 ?k15 ?a16 ?l16 ?c16 ?k16 ?a17 ?l17 ?c17 ?k17 ?a18 ?l18 ?c18 ?k18 ?a19 ?l19 ?c19 ?k19 ?a20 ?l20 ?c20 ?k20 ?a21 ?l21 ?c21 ?k21 ?a22 ?l22 ?c22 ?k22 ?a23 ?l23 ?c23 ?k23 ?a24 ?l24 ?c24 ?k24 ?a25 ?l25 ?c25 ?k25 ?a26 ?l26 ?c26 ?k26 ?a27 ?l27 ?c27 ?k27 ?a28 ?l28 ?c28 ?k28 ?a29 ?l29 ?c29 ?k29 ?a30 ?l30 ?c30 ?k30 ?a31 ?l31 ?c31 ?k31 ?i32 ?a32 ?l32 ?c32 ?k32 ?i33 ?a33 ?l33 ?c33 ?k33 ?i34 ?a34 ?l34 ?c34 ?k34 ?i35 ?a35 ?l35 ?c35 ?k35 ?dt35 ?i36 ?a36 ?l36 ?c36 ?k36 ?i37 ?a37 ?l37 ?c37 ?k37 ?i38 ?a38 ?l38 ?c38 ?k38 ?i39 ?a39 ?l39 ?c39 ?k39 ?dt39 ?i40 ?a40 ?l40 ?c40 ?k40 ?i41 ?a41 ?l41 ?c41 ?k41 ?i42 ?a42 ?l42 ?c42 ?k42 ?i43 ?a43 ?l43 ?c43 ?k43 ?i44 ?a44 ?l44 ?c44 ?k44 ?i45 ?a45 ?l45 ?c45 ?k45 ?i46 ?a46 ?l46 ?c46 ?k46 ?i47 ?a47 ?l47 ?c47 ?k47 ?pg17 ?hd17 ?po17 ?sa17 ?mk17 ?na17_0 ?na17_1 ?na17_2 ?na17_3 ?na17_4 ?pg18 ?hd18 ?po18 ?sa18 ?mk18 ?na18_0 ?na18_1 ?na18_2 ?pg19 ?hd19 ?po19 ?sa19 ?mk19 ?na19_0 ?q0 ?q1 ?q2 ?q3 ?q4 ?q5 ?qo5 ?q6 ?q7 ?q8 ?q9 ?q10 ?q11 ?q12 ?q13 ?q14 ?q15 ?q16 ?q17 ?qD0 ?qk0 ?ql0 ?qw0 ?qt0_0 ?qt0_1 ?qt0_2 ?qt0_3 ?qt0_4 ?qt0_5 ?qD1 ?qk1 ?ql1 ?qw1 ?qD2 ?qk2 ?ql2 ?qw2 ?qt2_0 ?qt2_1 ?qt2_2 ?qt2_3 ?qt2_4 ?qt2_5 ?qt2_6 ?qt2_7 ?qt2_8 ?qt2_9 ?qt2_10 ?qt2_11 ?z0 ?z1 ?z2 ?z3 ?z4 ?z5 ?z6 ?z7 ?z8 ?z9 ?z10 ?ga0 ?gk0 ?ga1 ?gk1 ?ga2 ?gk2 ?ga3 ?gk3 ?ga4 ?gk4 ?ga5 ?gk5 ?ga6 ?gk6 ?ga7 ?gk7 ?ga8 ?gk8 ?ga9 ?gk9 ?ga10 ?gk10 ?ga11 ?gk11 ?ga12 ?gk12 ?ga13 ?gk13 ?ga14 ?gk14 ?ga15 ?gk15 ?ga16 ?gk16 ?ga17 ?gk17 ?ga18 ?gk18 ?ga19 ?gk19 ?te1 ?te2 ?te3 ?gx1 ?gs1 ?gt1 ?gm1 ?gx2 ?gs2 ?gt2 ?gm2 ?gx3 ?gs3 ?gt3 ?gm3 ?gx4 ?gs4 ?gt4 ?gm4 ?gx6 ?gs6 ?gt6 ?gm6 ?gx7 ?gs7 ?gt7 ?gm7 ?gx8 ?gs8 ?gt8 ?gm8 ?gx9 ?gs9 ?gt9 ?gm9 ?gx10 ?gs10 ?gt10 ?gm10 ?gx11 ?gs11 ?gt11 ?gm11 ?gx12 ?gs12 ?gt12 ?gm12 ?gs15 ?gt15 ?gm15 ?gs16 ?gt16 ?hq1 ?hm1 ?hq2 ?hm2 ?hq4 ?hm4 ?hq6 ?hm6 ?hq8 ?hm8 ?hq9 ?hm9 ?hq10 ?hm10 ?hq11 ?hm11 ?Ji15 ?Il15 ?Ic15 ?Ik15 ?Jl15 ?Jr15 ?Js15a ?Jg15 ?Jh15 ?Jj15 ?Jt15 ?Jf15 ?Jm15 ?Kb15_1 ?Kb15_2 ?Kb15_3 ?Ji16 ?Il16 ?Ic16 ?Ik16 ?Jl16 ?Js16a ?Jg16 ?Jh16 ?Jj16 ?Jt16 ?Jf16 ?Jm16 ?Jv16 ?Jz16 ?Jx16 ?Jy16 ?Jq1_16 ?Jq2_16 ?Jq3_16 ?Jq4_16 ?Jq6_16 ?Jq7_16 ?Jq8_16 ?Jq9_16 ?Jq10_16 ?Jq11_16 ?Jq12_16 ?Jq15_16 ?xm (hT _ List.mem_cons_self) ?nT0 ?cH0 ?tnd
    (case ga0 => k_is); (case ga1 => k_is); (case ga2 => k_is); (case ga3 => k_is); (case ga4 => k_is); (case ga5 => k_is); (case ga6 => k_is); (case ga7 => k_is); (case ga8 => k_is); (case ga9 => k_is); (case ga10 => k_is); (case ga11 => k_is); (case ga12 => k_is); (case ga13 => k_is); (case ga14 => k_is); (case ga15 => k_is); (case ga16 => k_is); (case ga17 => k_is); (case ga18 => k_is); (case ga19 => k_is); (case a0 => k_is); (case l0 => k_is); (case c0 => k_is); (case k0 => k_is); (case a1 => k_is); (case l1 => k_is); (case c1 => k_is); (case k1 => k_is); (case a2 => k_is); (case l2 => k_is); (case c2 => k_is); (case k2 => k_is); (case a3 => k_is); (case l3 => k_is); (case c3 => k_is); (case k3 => k_is); (case a4 => k_is); (case l4 => k_is); (case c4 => k_is); (case k4 => k_is); (case a5 => k_is); (case l5 => k_is); (case c5 => k_is); (case k5 => k_is); (case a6 => k_is); (case l6 => k_is); (case c6 => k_is); (case k6 => k_is); (case a7 => k_is); (case l7 => k_is); (case c7 => k_is); (case k7 => k_is); (case a8 => k_is); (case l8 => k_is); (case c8 => k_is); (case k8 => k_is); (case a9 => k_is); (case l9 => k_is); (case c9 => k_is); (case k9 => k_is); (case a10 => k_is); (case l10 => k_is); (case c10 => k_is); (case k10 => k_is); (case a11 => k_is); (case l11 => k_is); (case c11 => k_is); (case k11 => k_is); (case a12 => k_is); (case l12 => k_is); (case c12 => k_is); (case k12 => k_is); (case a13 => k_is); (case l13 => k_is); (case c13 => k_is); (case k13 => k_is); (case a14 => k_is); (case l14 => k_is); (case c14 => k_is); (case k14 => k_is); (case a15 => k_is); (case l15 => k_is); (case c15 => k_is); (case k15 => k_is); (case a16 => k_is); (case l16 => k_is); (case c16 => k_is); (case k16 => k_is); (case a17 => k_is); (case l17 => k_is); (case c17 => k_is); (case k17 => k_is); (case a18 => k_is); (case l18 => k_is); (case c18 => k_is); (case k18 => k_is); (case a19 => k_is); (case l19 => k_is); (case c19 => k_is); (case k19 => k_is); (case a20 => k_is); (case l20 => k_is); (case c20 => k_is); (case k20 => k_is); (case a21 => k_is); (case l21 => k_is); (case c21 => k_is); (case k21 => k_is); (case a22 => k_is); (case l22 => k_is); (case c22 => k_is); (case k22 => k_is); (case a23 => k_is); (case l23 => k_is); (case c23 => k_is); (case k23 => k_is); (case a24 => k_is); (case l24 => k_is); (case c24 => k_is); (case k24 => k_is); (case a25 => k_is); (case l25 => k_is); (case c25 => k_is); (case k25 => k_is); (case a26 => k_is); (case l26 => k_is); (case c26 => k_is); (case k26 => k_is); (case a27 => k_is); (case l27 => k_is); (case c27 => k_is); (case k27 => k_is); (case a28 => k_is); (case l28 => k_is); (case c28 => k_is); (case k28 => k_is); (case a29 => k_is); (case l29 => k_is); (case c29 => k_is); (case k29 => k_is); (case a30 => k_is); (case l30 => k_is); (case c30 => k_is); (case k30 => k_is); (case a31 => k_is); (case l31 => k_is); (case c31 => k_is); (case k31 => k_is); (case i32 => k_is); (case a32 => k_is); (case l32 => k_is); (case c32 => k_is); (case k32 => k_is); (case i33 => k_is); (case a33 => k_is); (case l33 => k_is); (case c33 => k_is); (case k33 => k_is); (case i34 => k_is); (case a34 => k_is); (case l34 => k_is); (case c34 => k_is); (case k34 => k_is); (case i35 => k_is); (case a35 => k_is); (case l35 => k_is); (case c35 => k_is); (case k35 => k_is); (case dt35 => k_is); (case i36 => k_is); (case a36 => k_is); (case l36 => k_is); (case c36 => k_is); (case k36 => k_is); (case i37 => k_is); (case a37 => k_is); (case l37 => k_is); (case c37 => k_is); (case k37 => k_is); (case i38 => k_is); (case a38 => k_is); (case l38 => k_is); (case c38 => k_is); (case k38 => k_is); (case i39 => k_is); (case a39 => k_is); (case l39 => k_is); (case c39 => k_is); (case k39 => k_is); (case dt39 => k_is); (case i40 => k_is); (case a40 => k_is); (case l40 => k_is); (case c40 => k_is); (case k40 => k_is); (case i41 => k_is); (case a41 => k_is); (case l41 => k_is); (case c41 => k_is); (case k41 => k_is); (case i42 => k_is); (case a42 => k_is); (case l42 => k_is); (case c42 => k_is); (case k42 => k_is); (case i43 => k_is); (case a43 => k_is); (case l43 => k_is); (case c43 => k_is); (case k43 => k_is); (case i44 => k_is); (case a44 => k_is); (case l44 => k_is); (case c44 => k_is); (case k44 => k_is); (case i45 => k_is); (case a45 => k_is); (case l45 => k_is); (case c45 => k_is); (case k45 => k_is); (case i46 => k_is); (case a46 => k_is); (case l46 => k_is); (case c46 => k_is); (case k46 => k_is); (case i47 => k_is); (case a47 => k_is); (case l47 => k_is); (case c47 => k_is); (case k47 => k_is); (case pg17 => k_is); (case hd17 => k_is); (case po17 => k_is); (case sa17 => k_is); (case mk17 => k_is); (case na17_0 => k_is); (case na17_1 => k_is); (case na17_2 => k_is); (case na17_3 => k_is); (case na17_4 => k_is); (case pg18 => k_is); (case hd18 => k_is); (case po18 => k_is); (case sa18 => k_is); (case mk18 => k_is); (case na18_0 => k_is); (case na18_1 => k_is); (case na18_2 => k_is); (case pg19 => k_is); (case hd19 => k_is); (case po19 => k_is); (case sa19 => k_is); (case mk19 => k_is); (case na19_0 => k_is); (case q0 => k_is); (case q1 => k_is); (case q2 => k_is); (case q3 => k_is); (case q4 => k_is); (case q5 => k_is); (case qo5 => k_is); (case q6 => k_is); (case q7 => k_is); (case q8 => k_is); (case q9 => k_is); (case q10 => k_is); (case q11 => k_is); (case q12 => k_is); (case q13 => k_is); (case q14 => k_is); (case q15 => k_is); (case q16 => k_is); (case q17 => k_is); (case qD0 => k_is); (case qk0 => k_is); (case ql0 => k_keys); (case qw0 => first | rfl | decide | k_is); (case qt0_0 => k_is); (case qt0_1 => k_is); (case qt0_2 => k_is); (case qt0_3 => k_is); (case qt0_4 => k_is); (case qt0_5 => k_is); (case qD1 => k_is); (case qk1 => k_is); (case ql1 => k_keys); (case qw1 => first | rfl | decide | k_is); (case qD2 => k_is); (case qk2 => k_is); (case ql2 => k_keys); (case qw2 => first | rfl | decide | k_is); (case qt2_0 => k_is); (case qt2_1 => k_is); (case qt2_2 => k_is); (case qt2_3 => k_is); (case qt2_4 => k_is); (case qt2_5 => k_is); (case qt2_6 => k_is); (case qt2_7 => k_is); (case qt2_8 => k_is); (case qt2_9 => k_is); (case qt2_10 => k_is); (case qt2_11 => k_is); (case z0 => k_is); (case z1 => k_is); (case z2 => k_is); (case z3 => k_is); (case z4 => k_is); (case z5 => k_is); (case z6 => k_is); (case z7 => k_is); (case z8 => k_is); (case z9 => k_is); (case z10 => k_is); (case gk0 => k_is); (case gk1 => k_is); (case gk2 => k_is); (case gk3 => k_is); (case gk4 => k_is); (case gk5 => k_is); (case gk6 => k_is); (case gk7 => k_is); (case gk8 => k_is); (case gk9 => k_is); (case gk10 => k_is); (case gk11 => k_is); (case gk12 => k_is); (case gk13 => k_is); (case gk14 => k_is); (case gk15 => k_is); (case gk16 => k_is); (case gk17 => k_is); (case gk18 => k_is); (case gk19 => k_is); (case te1 => k_is); (case te2 => k_is); (case te3 => k_is); (case gx1 => k_exc); (case gs1 => k_is); (case gt1 => k_is); (case gm1 => k_is); (case gx2 => k_exc); (case gs2 => k_is); (case gt2 => k_is); (case gm2 => k_is); (case gx3 => k_exc); (case gs3 => k_is); (case gt3 => k_is); (case gm3 => k_is); (case gx4 => k_exc); (case gs4 => k_is); (case gt4 => k_is); (case gm4 => k_is); (case gx6 => k_exc); (case gs6 => k_is); (case gt6 => k_is); (case gm6 => k_is); (case gx7 => k_exc); (case gs7 => k_is); (case gt7 => k_is); (case gm7 => k_is); (case gx8 => k_exc); (case gs8 => k_is); (case gt8 => k_is); (case gm8 => k_is); (case gx9 => k_exc); (case gs9 => k_is); (case gt9 => k_is); (case gm9 => k_is); (case gx10 => k_exc); (case gs10 => k_is); (case gt10 => k_is); (case gm10 => k_is); (case gx11 => k_exc); (case gs11 => k_is); (case gt11 => k_is); (case gm11 => k_is); (case gx12 => k_exc); (case gs12 => k_is); (case gt12 => k_is); (case gm12 => k_is); (case gs15 => k_is); (case gt15 => k_is); (case gm15 => k_is); (case gs16 => k_is); (case gt16 => k_is); (case hq1 => k_is); (case hm1 => k_is); (case hq2 => k_is); (case hm2 => k_is); (case hq4 => k_is); (case hm4 => k_is); (case hq6 => k_is); (case hm6 => k_is); (case hq8 => k_is); (case hm8 => k_is); (case hq9 => k_is); (case hm9 => k_is); (case hq10 => k_is); (case hm10 => k_is); (case hq11 => k_is); (case hm11 => k_is); (case Ji15 => k_is); (case Il15 => k_is); (case Ic15 => k_is); (case Ik15 => k_is); (case Jl15 => k_is); (case Jr15 => decide +kernel); (case Js15a => k_is); (case Jg15 => k_is); (case Jh15 => k_is); (case Jj15 => k_is); (case Jt15 => k_is); (case Jf15 => k_is); (case Jm15 => k_is); (case Kb15_1 => k_is); (case Kb15_2 => k_is); (case Kb15_3 => k_is); (case Ji16 => k_is); (case Il16 => k_is); (case Ic16 => k_is); (case Ik16 => k_is); (case Jl16 => k_is); (case Js16a => k_is); (case Jg16 => k_is); (case Jh16 => k_is); (case Jj16 => k_is); (case Jt16 => k_is); (case Jf16 => k_is); (case Jm16 => k_is); (case Jv16 => k_is); (case Jz16 => k_is); (case Jx16 => kit_is); (case Jy16 => kit_is); (case Jq1_16 => k_is); (case Jq2_16 => k_is); (case Jq3_16 => k_is); (case Jq4_16 => k_is); (case Jq6_16 => k_is); (case Jq7_16 => k_is); (case Jq8_16 => k_is); (case Jq9_16 => k_is); (case Jq10_16 => k_is); (case Jq11_16 => k_is); (case Jq12_16 => k_is); (case Jq15_16 => k_is); (case xm => kernel_rfl); (case nT0 => kernel_rfl); (case cH0 => kernel_rfl); (case tnd => decide)
end C_k56
namespace Cot
open PySem L2 Evl
section
variable {K : PySem.W.Frag} {H H' Hd Hn H1 H2 Hm : Hp}
mutual
theorem dp_mono (e : Ex H H') : ∀ (d : PyData) {v : V}, Dp K H v d → Dp K H' v d
  | .none, _, h => by cases h; exact .non
  | .bool b, _, h => by cases h; exact .bl b
  | .int i, _, h => by cases h; exact .int i
  | .str x, _, h => by cases h; exact .str x
  | .list ds, _, h => by
    cases h with
    | lst hs ha => exact .lst (ex_l e hs) (dpa_mono e ds ha)
  | .tuple ds, _, h => by
    cases h with
    | tup hs ha => exact .tup (ex_t e hs) (dpa_mono e ds ha)
  | .dict _, _, h => by cases h
theorem dpa_mono (e : Ex H H') : ∀ (ds : List PyData) {vs : List V}, DpAll K H vs ds → DpAll K H' vs ds
  | [], _, h => by cases h; exact .nil
  | d :: ds, _, h => by
    cases h with
    | cons h1 h2 => exact .cons (dp_mono e d h1) (dpa_mono e ds h2)
end
theorem dpa_len : ∀ {vs : List V} {ds : List PyData}, DpAll K H vs ds → vs.length = ds.length
  | _, [], h => by cases h; rfl
  | _, d :: ds, h => by
    cases h with
    | cons h1 h2 => rw [List.length_cons, List.length_cons, dpa_len h2]
theorem dpa_get : ∀ {ds : List PyData} {vs : List V} {i : Nat} {d : PyData}, DpAll K H vs ds → ds[i]? = some d → ∃ v, vs[i]? = some v ∧ Dp K H v d
  | [], _, i, d, h, e => by simp at e
  | d0 :: ds, _, 0, d, h, e => by
    cases h with
    | cons h1 h2 =>
      have e' : d0 = d := Option.some.inj e
      subst e'
      exact ⟨_, rfl, h1⟩
  | d0 :: ds, _, i + 1, d, h, e => by
    cases h with
    | cons h1 h2 =>
      obtain ⟨v, q1, q2⟩ := dpa_get (i := i) h2 (by simpa using e)
      exact ⟨v, by simpa using q1, q2⟩
theorem dpa_get2 : ∀ {ds : List PyData} {vs : List V} {i : Nat} {v : V}, DpAll K H vs ds → vs[i]? = some v → ∃ d, ds[i]? = some d ∧ Dp K H v d
  | [], _, i, d, h, e => by cases h; simp at e
  | d0 :: ds, _, 0, v, h, e => by
    cases h with
    | cons h1 h2 =>
      have e' := Option.some.inj e
      subst e'
      exact ⟨_, rfl, h1⟩
  | d0 :: ds, _, i + 1, v, h, e => by
    cases h with
    | cons h1 h2 =>
      obtain ⟨v, q1, q2⟩ := dpa_get2 (i := i) h2 (by simpa using e)
      exact ⟨v, by simpa using q1, q2⟩
theorem dpa_at {ds : List PyData} {vs : List V} {i : Int} {d : PyData} (h : DpAll K H vs ds) (e : atI ds i = some d) : ∃ v, atI vs i = some v ∧ Dp K H v d := by
  unfold atI at e ⊢
  rw [dpa_len h]
  cases hx : ixN ds.length i with
  | none => rw [hx] at e; cases e
  | some j =>
    rw [hx] at e
    exact dpa_get h e
theorem dpa_app : ∀ {ds es : List PyData} {vs ws : List V}, DpAll K H vs ds → DpAll K H ws es → DpAll K H (vs ++ ws) (ds ++ es)
  | [], _, _, _, h, h2 => by cases h; exact h2
  | d :: ds, es, _, ws, h, h2 => by
    cases h with
    | cons a b => exact .cons a (dpa_app b h2)
theorem dpa_take : ∀ (n : Nat) {ds : List PyData} {vs : List V}, DpAll K H vs ds → DpAll K H (vs.take n) (ds.take n)
  | 0, _, _, _ => by rw [List.take_zero, List.take_zero]; exact .nil
  | n + 1, [], _, h => by cases h; exact .nil
  | n + 1, d :: ds, _, h => by
    cases h with
    | cons a b => exact .cons a (dpa_take n b)
theorem dpa_drop : ∀ (n : Nat) {ds : List PyData} {vs : List V}, DpAll K H vs ds → DpAll K H (vs.drop n) (ds.drop n)
  | 0, _, _, h => h
  | n + 1, [], _, h => by cases h; exact .nil
  | n + 1, d :: ds, _, h => by
    cases h with
    | cons a b => exact dpa_drop n b
theorem dpa_ints : ∀ (ns : List Int), DpAll K H (ns.map V.int) (ns.map PyData.int)
  | [] => .nil
  | n :: ns => .cons (.int n) (dpa_ints ns)
theorem dpa_ints_inv : ∀ {ns : List Int} {vs : List V}, DpAll K H vs (ns.map PyData.int) → vs = ns.map V.int
  | [], _, h => by cases h; rfl
  | n :: ns, _, h => by
    cases h with
    | cons a b =>
      cases a
      rw [dpa_ints_inv b]
      rfl
theorem dpa_bools_inv : ∀ {ns : List Bool} {vs : List V}, DpAll K H vs (ns.map PyData.bool) → vs = ns.map V.bl
  | [], _, h => by cases h; rfl
  | n :: ns, _, h => by
    cases h with
    | cons a b =>
      cases a
      rw [dpa_bools_inv b]
      rfl
/-- Hd grows to Hn by new places alone, H to H2 -/
structure Gr (Hd H Hn H2 : Hp) : Prop where
  ex : Ex H H2
  dx : Ex Hd Hn
  sub : Ex Hn H2
  fr : ∀ a o, H a = some o → Hd a = none → Hn a = none
theorem Gr.refl (s : Ex Hd H) : Gr Hd H Hd H := ⟨Ex.refl _, Ex.refl _, s, fun _ _ _ h => h⟩
theorem Gr.trans (g1 : Gr Hd H Hn H1) (g2 : Gr Hn H1 Hm H2) : Gr Hd H Hm H2 := ⟨g1.ex.trans g2.ex, g1.dx.trans g2.dx, g2.sub, fun a o ha hd => g2.fr a o (g1.ex a o ha) (g1.fr a o ha hd)⟩
theorem Gr.ext (s : Ex Hd H) (e : Ex H H2) : Gr Hd H Hd H2 := ⟨e, Ex.refl _, s.trans e, fun _ _ _ h => h⟩
theorem Gr.pre (e : Ex H H1) (g : Gr Hd H1 Hn H2) : Gr Hd H Hn H2 := ⟨e.trans g.ex, g.dx, g.sub, fun a o ha hd => g.fr a o (e a o ha) hd⟩
theorem Gr.post (g : Gr Hd H Hn H1) (e : Ex H1 H2) : Gr Hd H Hn H2 := ⟨g.ex.trans e, g.dx, g.sub.trans e, g.fr⟩
theorem ex_upd2 {p : Addr} {o : HO} (s : Ex Hd H) : Ex (upd Hd p o) (upd H p o) := fun a u h => by
  by_cases e : a = p
  · subst e
    rw [upd_same] at h ⊢
    exact h
  · rw [upd_ne e] at h ⊢
    exact s a u h
theorem Gr.new {p : Addr} {o : HO} (s : Ex Hd H) (h : H p = none) : Gr Hd H (upd Hd p o) (upd H p o) :=
  ⟨Ex.new h, Ex.new (fresh_back s h), ex_upd2 s, fun a u ha hd => by rw [upd_ne (ne_of_none ha h)]; exact hd⟩
/-- a new place that is no data -/
theorem Gr.alloc {p : Addr} {o : HO} (s : Ex Hd H) (h : H p = none) : Gr Hd H Hd (upd H p o) := Gr.ext s (Ex.new h)
def un (A B : Hp) : Hp := fun a => match A a with | some o => some o | none => B a
theorem un_l {A B : Hp} : Ex A (un A B) := fun a o h => by unfold un; rw [h]
theorem un_r {A B C : Hp} (a : Ex A C) (b : Ex B C) : Ex B (un A B) := fun x o h => by
  unfold un
  cases hA : A x with
  | none => exact h
  | some u =>
    have h1 := a x u hA
    rw [b x o h] at h1
    exact h1.symm
theorem un_sub {A B C : Hp} (a : Ex A C) (b : Ex B C) : Ex (un A B) C := fun x o h => by
  unfold un at h
  cases hA : A x with
  | none => rw [hA] at h; exact b x o h
  | some u => rw [hA] at h; exact a x o (hA.trans h)
theorem Gr.up {Hd' : Hp} (e : Ex Hd Hd') (s : Ex Hd' H) (g : Gr Hd H Hn H2) : Gr Hd' H (un Hd' Hn) H2 :=
  ⟨g.ex, un_l, un_sub (s.trans g.ex) g.sub, fun a o ha hd => by
    unfold un
    rw [hd]
    exact g.fr a o ha (fresh_back e hd)⟩
theorem Gr.upr {Hd' : Hp} (e : Ex Hd Hd') (s : Ex Hd' H) (g : Gr Hd H Hn H2) : Ex Hn (un Hd' Hn) := un_r (s.trans g.ex) g.sub
def EvD (K : PySem.W.Frag) (te : TE) (σ : L2.St) (Hd : Hp) (d : PyData) : Prop := ∀ H, Ex Hd H → ∀ Q : VK, (∀ v H2 Hn, Gr Hd H Hn H2 → Dp K Hn v d → Q v H2) → te σ H Q
def EvDA (K : PySem.W.Frag) (ta : TA) (σ : L2.St) (Hd : Hp) (ds : List PyData) : Prop := ∀ H, Ex Hd H → ∀ Q : List V → Hp → Prop, (∀ vs H2 Hn, Gr Hd H Hn H2 → DpAll K Hn vs ds → Q vs H2) → ta σ H Q
/-- a new list -/
def EvN (K : PySem.W.Frag) (te : TE) (σ : L2.St) (Hd : Hp) (ds : List PyData) : Prop := ∀ H, Ex Hd H → ∀ Q : VK, (∀ p xs H2 Hn, Gr Hd H Hn H2 → H p = none → Hn p = none → H2 p = some (.lst xs) → DpAll K Hn xs ds → Q (.ref p) H2) → te σ H Q
end
section
variable {K : PySem.W.Frag} {σ : L2.St} {H H' Hd Hd' Hn H1 H2 : Hp} {ta tb te tx : TE} {t u : TT} {x y z v : V} {r : R2} {d : PyData} {ds : List PyData} {tr : TA}
theorem EvD.mono (e : Ex Hd Hd') (h : EvD K te σ Hd d) : EvD K te σ Hd' d := fun H s Q q => h H (e.trans s) Q fun v H2 Hn g hd => q v H2 _ (g.up e s) (dp_mono (g.upr e s) d hd)
theorem EvDA.mono (e : Ex Hd Hd') (h : EvDA K tr σ Hd ds) : EvDA K tr σ Hd' ds := fun H s Q q => h H (e.trans s) Q fun v H2 Hn g hd => q v H2 _ (g.up e s) (dpa_mono (g.upr e s) ds hd)
theorem EvN.mono (e : Ex Hd Hd') (h : EvN K te σ Hd ds) : EvN K te σ Hd' ds := fun H s Q q => h H (e.trans s) Q fun p xs H2 Hn g hp hn h2 hd => q p xs H2 _ (g.up e s) hp (by
  unfold un
  rw [fresh_back s hp]
  exact hn) h2 (dpa_mono (g.upr e s) ds hd)
theorem ed_ev (h : Ev te σ Hd v) (hd : Dp K Hd v d) : EvD K te σ Hd d := fun H s Q q => h H s Q fun H2 e => q v H2 Hd (Gr.ext s e) hd
theorem ed_var {i : Nat} (h : σ[i]? = some (some v)) (hd : Dp K Hd v d) : EvD K (tVar i) σ Hd d := ed_ev (ev_var h) hd
theorem ev_int {i : Int} (h : EvD K te σ Hd (.int i)) : Ev te σ Hd (.int i) := fun H s Q q => h H s Q fun v H2 Hn g hd => by cases hd; exact q H2 g.ex
theorem ev_str {i : Str} (h : EvD K te σ Hd (.str i)) : Ev te σ Hd (.str i) := fun H s Q q => h H s Q fun v H2 Hn g hd => by cases hd; exact q H2 g.ex
theorem ed_int {i : Int} (h : Ev te σ Hd (.int i)) : EvD K te σ Hd (.int i) := ed_ev h (.int i)
theorem ed_bool {i : Bool} (h : Ev te σ Hd (.bl i)) : EvD K te σ Hd (.bool i) := ed_ev h (.bl i)
theorem ed_str {i : Str} (h : Ev te σ Hd (.str i)) : EvD K te σ Hd (.str i) := ed_ev h (.str i)
theorem ed_non (h : Ev te σ Hd .non) : EvD K te σ Hd .none := ed_ev h .non
theorem eda_nil : EvDA K tNil σ Hd [] := fun H s _ q => q [] H Hd (Gr.refl s) .nil
theorem eda_cons (h : EvD K ta σ Hd d) (hr : EvDA K tr σ Hd ds) : EvDA K (tCons ta tr) σ Hd (d :: ds) := fun H s _ q =>
  h H s _ fun v H1 Hn g hd => hr.mono g.dx H1 g.sub _ fun vs H2 Hm g2 hds => q (v :: vs) H2 Hm (g.trans g2) (.cons (dp_mono g2.dx d hd) hds)
theorem ed_tup (h : EvDA K tr σ Hd ds) (hl : ds.length ≤ 100000) : EvD K (tTup tr) σ Hd (.tuple ds) := fun H s _ q =>
  h H s _ fun vs H1 Hn g hd => ⟨sz_of (by rw [dpa_len hd]; exact hl), fun p hp => q (.ref p) _ _ (g.trans (Gr.new g.sub hp)) (.tup (st_of upd_same) (dpa_mono (Ex.new (fresh_back g.sub hp)) ds hd))⟩
theorem en_lst (h : EvDA K tr σ Hd ds) (hl : ds.length ≤ 100000) : EvN K (tLst tr) σ Hd ds := fun H s _ q =>
  h H s _ fun vs H1 Hn g hd => ⟨sz_of (by rw [dpa_len hd]; exact hl), fun p hp => q p vs _ Hn (g.trans (Gr.alloc g.sub hp)) (fresh_back g.ex hp) (fresh_back g.sub hp) upd_same hd⟩
theorem ed_new (h : EvN K te σ Hd ds) : EvD K te σ Hd (.list ds) := fun H s _ q =>
  h H s _ fun p xs H2 Hn g hp hn h2 hd => q (.ref p) H2 (upd Hn p (.lst xs)) ⟨g.ex, g.dx.trans (Ex.new hn), fun a o ha => by
    by_cases e : a = p
    · subst e
      rw [upd_same] at ha
      exact h2.trans ha
    · rw [upd_ne e] at ha
      exact g.sub a o ha, fun a o ha hda => by
    rw [upd_ne (ne_of_none ha hp)]
    exact g.fr a o ha hda⟩ (.lst (sq_of upd_same) (dpa_mono (Ex.new hn) ds hd))
theorem ed_ixT {i : Int} (ha : EvD K ta σ Hd (.tuple ds)) (hi : Ev tb σ Hd (.int i)) (he : atI ds i = some d) : EvD K (tOp (rIxT K) ta tb) σ Hd d := fun H s Q q =>
  ha H s _ fun v H1 Hn g hd => hi.mono g.dx H1 g.sub _ fun H2 e2 => by
    cases hd with
    | @tup p xs ds hs hall =>
      obtain ⟨w, h1, h2⟩ := dpa_at hall he
      exact ⟨p, xs, i, w, rfl, rfl, ex_t (g.sub.trans e2) hs, h1, q w H2 Hn (g.post e2) h2⟩
theorem ed_ixL {i : Int} (ha : EvD K ta σ Hd (.list ds)) (hi : Ev tb σ Hd (.int i)) (he : atI ds i = some d) : EvD K (tOp (rIxL K) ta tb) σ Hd d := fun H s Q q =>
  ha H s _ fun v H1 Hn g hd => hi.mono g.dx H1 g.sub _ fun H2 e2 => by
    cases hd with
    | @lst p xs ds hs hall =>
      obtain ⟨w, h1, h2⟩ := dpa_at hall he
      exact ⟨p, xs, i, w, rfl, rfl, ex_l (g.sub.trans e2) hs, h1, q w H2 Hn (g.post e2) h2⟩
theorem ev_lenT (ha : EvD K ta σ Hd (.tuple ds)) : Ev (tCB (rLenS K) (tCons ta tNil)) σ Hd (.int (ds.length : Int)) := fun H s Q q =>
  ha H s _ fun v H1 Hn g hd => by
    cases hd with
    | @tup p xs ds hs hall => exact ⟨p, xs, rfl, Or.inr (ex_t g.sub hs), by rw [dpa_len hall]; exact q H1 g.ex⟩
theorem ev_lenL (ha : EvD K ta σ Hd (.list ds)) : Ev (tCB (rLenS K) (tCons ta tNil)) σ Hd (.int (ds.length : Int)) := fun H s Q q =>
  ha H s _ fun v H1 Hn g hd => by
    cases hd with
    | @lst p xs ds hs hall => exact ⟨p, xs, rfl, Or.inl (ex_l g.sub hs), by rw [dpa_len hall]; exact q H1 g.ex⟩
def spF (K : PySem.W.Frag) (R : List PyData → PyData → Prop) : Sp := fun vs H Q _ => ∃ Hd ds d, Ex Hd H ∧ DpAll K Hd vs ds ∧ R ds d ∧ ∀ v H2 Hn, Gr Hd H Hn H2 → Dp K Hn v d → Q v H2
theorem ed_call {R : List PyData → PyData → Prop} {E : XK} (h : EvDA K tr σ Hd ds) (hr : R ds d) : EvD K (tCall (spF K R) [] E tr) σ Hd d := fun H s Q q =>
  h H s _ fun vs H2 Hn g hd => ⟨Hn, ds, d, g.sub, by rw [List.append_nil]; exact hd, hr, fun v H3 Hm g2 hv => q v H3 Hm (g.trans g2) hv⟩
variable {D : Ends} {tu tw tz : TS} {g : TG} {i : Nat}
def Go (t : TS) (D : Ends) (σ : L2.St) (H : Hp) : Prop := ∀ H2, Ex H H2 → t D σ H2
theorem Go.go (h : Go tz D σ H) : tz D σ H := h H (Ex.refl H)
theorem go_asg (h : Ev te σ H v) (k : Go tz D (σ.set i (some v)) H) : Go (tSeq (tAsg te (gName i)) tz) D σ H := fun H1 e1 => h H1 e1 _ fun H2 e2 => k H2 (e1.trans e2)
theorem go_asgD (s : Ex Hd H) (h : EvD K te σ Hd d) (k : ∀ v H' Hn, Gr Hd H Hn H' → Dp K Hn v d → Go tz D (σ.set i (some v)) H') : Go (tSeq (tAsg te (gName i)) tz) D σ H := fun H1 e1 =>
  h H1 (s.trans e1) _ fun v H2 Hn g hd => k v H2 Hn (g.pre e1) hd H2 (Ex.refl _)
theorem go_if {b : Bool} (h : EvT t σ H b) (h1 : b = true → Go tu { D with nx := tz D } σ H) (h2 : b = false → Go tw { D with nx := tz D } σ H) : Go (tSeq (tIfS t tu tw) tz) D σ H := fun H1 e1 => h H1 e1 _ fun H2 e2 => by
  cases b with
  | true =>
    show tu { D with nx := tz D } σ H2
    exact h1 rfl H2 (e1.trans e2)
  | false =>
    show tw { D with nx := tz D } σ H2
    exact h2 rfl H2 (e1.trans e2)
theorem go_when {b : Bool} (h : EvT t σ H b) (h1 : b = true → Go tu { D with nx := tz D } σ H) (h2 : b = false → Go tz D σ H) : Go (tSeq (tIfS t tu tNext) tz) D σ H := go_if h h1 h2
theorem go_next (k : ∀ H', Ex H H' → D.nx σ H') : Go tNext D σ H := k
theorem go_ret (s : Ex Hd H) (h : EvD K te σ Hd d) (k : ∀ v H' Hn, Gr Hd H Hn H' → Dp K Hn v d → D.rt v H') : Go (tSeq (tRet te) tz) D σ H := fun H1 e1 => h H1 (s.trans e1) _ fun v H2 Hn g hd => k v H2 Hn (g.pre e1) hd
theorem go_retV (h : Ev te σ H v) (k : ∀ H', Ex H H' → D.rt v H') : Go (tSeq (tRet te) tz) D σ H := fun H1 e1 => h H1 e1 _ fun H2 e2 => k H2 (e1.trans e2)
theorem go_drop (h : Ev te σ H v) (k : Go tz D σ H) : Go (tSeq (tDrop te) tz) D σ H := fun H1 e1 => h H1 e1 _ fun H2 e2 => k H2 (e1.trans e2)
theorem Go.mono (e : Ex H H') (h : Go tz D σ H) : Go tz D σ H' := fun H2 e2 => h H2 (e.trans e2)
/-- a chain of two comparisons of ints -/
theorem ev_chain {r' : R2} {tc : TE} {k : Bool} (ha : Ev ta σ H x) (hb : Ev tb σ H y) (hr : RV r x y H (.bl k)) (hc : k = true → Ev tc σ H z) (hr' : k = true → RV r' y z H v) (hv : k = false → v = .bl false) : Ev (tChain r r' ta tb tc) σ H v := fun H1 e1 Q q =>
  ha H1 e1 _ fun H2 e2 => hb H2 (e1.trans e2) _ fun H3 e3 => hr H3 ((e1.trans e2).trans e3) _ fun H4 e4 => ⟨k, rfl, by
    cases k with
    | true =>
      show tc σ H4 fun w' H5 => r' y w' H5 Q
      exact hc rfl H4 (((e1.trans e2).trans e3).trans e4) _ fun H5 e5 => hr' rfl H5 ((((e1.trans e2).trans e3).trans e4).trans e5) _ fun H6 e6 => q H6 ((((e2.trans e3).trans e4).trans e5).trans e6)
    | false =>
      show Q (.bl false) H4
      rw [← hv rfl]
      exact q H4 ((e2.trans e3).trans e4)⟩
end
end Cot
namespace Cot
open PySem L2 Evl
def spS (R : List V → V → Prop) : Sp := fun vs H Q _ => ∃ v, R vs v ∧ ∀ H2, Ex H H2 → Q v H2
section
variable {K : PySem.W.Frag} {σ : L2.St} {H H' Hd Hd' Hn H1 H2 : Hp} {ta tb tc te tx : TE} {t u : TT} {x y z v v' : V} {r r' : R2} {d : PyData} {ds : List PyData} {tr : TA} {D : Ends} {tu tw tz : TS} {g : TG} {i : Nat}
theorem ev_callS {R : List V → V → Prop} {vs : List V} {E : XK} (h : EvA tr σ H vs) (hr : R vs v) : Ev (tCall (spS R) [] E tr) σ H v := fun H1 e Q q =>
  h H1 e _ fun H2 e2 => ⟨v, by rw [List.append_nil]; exact hr, fun H3 e3 => q H3 (e2.trans e3)⟩
theorem go_retE (h : Ev te σ H v') (e : v' = v) (k : ∀ H', Ex H H' → D.rt v H') : Go (tSeq (tRet te) tz) D σ H := go_retV (by rw [← e]; exact h) k
theorem ev_chainB {k k' : Bool} (ha : Ev ta σ H x) (hb : Ev tb σ H y) (hr : RV r x y H (.bl k)) (hc : Ev tc σ H z) (hr' : RV r' y z H (.bl k')) : Ev (tChain r r' ta tb tc) σ H (.bl (k && k')) :=
  ev_chain ha hb hr (fun _ => hc) (fun e => by subst e; exact hr') (fun e => by subst e; rfl)
theorem ev_ifB {b : Bool} (h : EvT t σ H b) (h1 : Ev ta σ H x) (h2 : Ev tb σ H y) : Ev (tIf t ta tb) σ H (if b = true then x else y) := by
  refine ev_if h (fun e => ?_) (fun e => ?_)
  · rw [if_pos e]; exact h1
  · rw [if_neg (by rw [e]; decide)]; exact h2
theorem et_andB {a b : Bool} (h1 : EvT t σ H a) (h2 : EvT u σ H b) : EvT (tAnd t u) σ H (a && b) := et_and h1 fun _ => h2
theorem et_orB {a b : Bool} (h1 : EvT t σ H a) (h2 : EvT u σ H b) : EvT (tOr t u) σ H (a || b) := et_or h1 fun _ => h2
theorem ev_andB {a b : Bool} (h1 : Ev ta σ H (.bl a)) (h2 : Ev tb σ H (.bl b)) : Ev (tAndV ta tb) σ H (.bl (a && b)) := ev_andV h1 fun _ => h2
theorem ev_orB {a b : Bool} (h1 : Ev ta σ H (.bl a)) (h2 : Ev tb σ H (.bl b)) : Ev (tOrV ta tb) σ H (.bl (a || b)) := ev_orV h1 fun _ => h2
theorem rv_isN : RV (fun x y H Q => y = .non ∧ Q (.bl (decide (x = .non))) H) x .non H (.bl (decide (x = .non))) := fun H1 _ _ q => ⟨rfl, q H1 (Ex.refl H1)⟩
end
end Cot
set_option Elab.async false
set_option linter.all false
set_option maxRecDepth 100000
set_option maxHeartbeats 4000000
namespace Cot
open PySem L2 Evl
section
variable {K : PySem.W.Frag} {X : Cx}
theorem call_lenQ : CallR X (.builtin "len") (rLenS X.K) := call_len_seq
theorem call_listQ : CallR X (.type "list") (rListS X.K) := call_list_of
def BoxL (xs : List V) (ca : Addr) : Prop := ∃ pos rest turn seed : Int, xs = [.ref ca, .int pos, .int rest, .int turn, .int seed] ∧ 0 ≤ pos
/-- a box: its own place, and that of its cells -/
structure Bid where
  b : Addr
  ca : Addr
def Bx (H : Hp) (b : Bid) : Prop := ∃ (cells : List Int) (xs : List V), H b.b = some (.lst xs) ∧ BoxL xs b.ca ∧ H b.ca = some (.lst (cells.map V.int)) ∧ cells.length ≤ 63
theorem Bx.mono {H H' : Hp} {b : Bid} (e : Ex H H') (B : Bx H b) : Bx H' b := by
  obtain ⟨cells, xs, h1, h2, h3, h4⟩ := B
  exact ⟨cells, xs, e _ _ h1, h2, e _ _ h3, h4⟩
theorem Bx.some {H : Hp} {b : Bid} (B : Bx H b) : ∃ o, H b.b = Option.some o := by
  obtain ⟨cells, xs, h1, h2, h3, h4⟩ := B
  exact ⟨_, h1⟩
theorem Bx.keep {H : Hp} {b : Bid} {l : Addr} {o : HO} (B : Bx H b) (n1 : l ≠ b.b) (n2 : l ≠ b.ca) : Bx (upd H l o) b := by
  obtain ⟨cells, xs, h1, h2, h3, h4⟩ := B
  exact ⟨cells, xs, by rw [upd_ne n1.symm]; exact h1, h2, by rw [upd_ne n2.symm]; exact h3, h4⟩
theorem Bx.cell {H : Hp} {b : Bid} (B : Bx H b) : ∃ o, H b.ca = Option.some o := by
  obtain ⟨cells, xs, h1, h2, h3, h4⟩ := B
  exact ⟨_, h3⟩
structure GrB (b : Bid) (Hd H Hn H2 : Hp) : Prop where
  exb : ∀ a o, a ≠ b.b → H a = some o → H2 a = some o
  dx : Ex Hd Hn
  sub : Ex Hn H2
  fr : ∀ a o, H a = some o → Hd a = none → Hn a = none
  bx : Bx H2 b
variable {b : Bid} {H H' Hd Hd' Hn H1 H2 Hm : Hp}
theorem GrB.bn (g : GrB b Hd H Hn H2) (hb : Hd b.b = none) (B : Bx H b) : Hn b.b = none := by
  obtain ⟨o, h⟩ := B.some
  exact g.fr b.b o h hb
theorem GrB.of (g : Gr Hd H Hn H2) (B : Bx H b) : GrB b Hd H Hn H2 := ⟨fun a o _ h => g.ex a o h, g.dx, g.sub, g.fr, B.mono g.ex⟩
theorem GrB.trans (g1 : GrB b Hd H Hn H1) (g2 : GrB b Hn H1 Hm H2) (hb : Hd b.b = none) (B : Bx H b) : GrB b Hd H Hm H2 :=
  ⟨fun a o n h => g2.exb a o n (g1.exb a o n h), g1.dx.trans g2.dx, g2.sub, fun a o h hd => by
    by_cases e : a = b.b
    · rw [e]
      exact g2.bn (g1.bn hb B) g1.bx
    · exact g2.fr a o (g1.exb a o e h) (g1.fr a o h hd), g2.bx⟩
theorem GrB.pre (e : Ex H H1) (g : GrB b Hd H1 Hn H2) : GrB b Hd H Hn H2 := ⟨fun a o n h => g.exb a o n (e a o h), g.dx, g.sub, fun a o ha hd => g.fr a o (e a o ha) hd, g.bx⟩
theorem GrB.up (e : Ex Hd Hd') (s : Ex Hd' H) (hb : Hd' b.b = none) (g : GrB b Hd H Hn H2) : GrB b Hd' H (un Hd' Hn) H2 ∧ Ex Hn (un Hd' Hn) := by
  have s2 : Ex Hd' H2 := fun a o h => g.exb a o (ne_of_none h hb) (s a o h)
  exact ⟨⟨g.exb, un_l, un_sub s2 g.sub, fun a o ha hd => by
    unfold un
    rw [hd]
    exact g.fr a o ha (fresh_back e hd), g.bx⟩, un_r s2 g.sub⟩
def EvB (K : PySem.W.Frag) (b : Bid) (te : TE) (σ : L2.St) (Hd : Hp) (P : PyData → Prop) : Prop := Hd b.b = none → ∀ H, Ex Hd H → Bx H b → ∀ Q : VK, (∀ v H2 Hn d, GrB b Hd H Hn H2 → Dp K Hn v d → P d → Q v H2) → te σ H Q
def EvBA (K : PySem.W.Frag) (b : Bid) (ta : TA) (σ : L2.St) (Hd : Hp) (P : List PyData → Prop) : Prop := Hd b.b = none → ∀ H, Ex Hd H → Bx H b → ∀ Q : List V → Hp → Prop, (∀ vs H2 Hn ds, GrB b Hd H Hn H2 → DpAll K Hn vs ds → P ds → Q vs H2) → ta σ H Q
def isI (p : Int → Prop) (d : PyData) : Prop := ∃ i, d = .int i ∧ p i
/-- a def that draws: its first argument the box -/
def spB (K : PySem.W.Frag) (Pre : List PyData → Prop) (P : List PyData → PyData → Prop) : Sp := fun vs H Q _ => ∃ b ws Hd ds, vs = .ref b.b :: ws ∧ Hd b.b = none ∧ Ex Hd H ∧ Bx H b ∧ DpAll K Hd ws ds ∧ Pre ds ∧ ∀ v H2 Hn d, GrB b Hd H Hn H2 → Dp K Hn v d → P ds d → Q v H2
variable {σ : L2.St} {ta tb tc te tx : TE} {t u : TT} {x y z v v' : V} {r r' : R2} {d : PyData} {ds : List PyData} {tr : TA} {D : Ends} {tu tw tz : TS} {i : Nat} {P P' : PyData → Prop} {Ps : List PyData → Prop} {p p' : Int → Prop}
theorem EvB.mono (e : Ex Hd Hd') (h : EvB K b te σ Hd P) : EvB K b te σ Hd' P := fun hb H s B Q q => h (fresh_back e hb) H (e.trans s) B Q fun v H2 Hn d g hd hp =>
  q v H2 _ d (g.up e s hb).1 (dp_mono (g.up e s hb).2 d hd) hp
theorem EvBA.mono (e : Ex Hd Hd') (h : EvBA K b tr σ Hd Ps) : EvBA K b tr σ Hd' Ps := fun hb H s B Q q => h (fresh_back e hb) H (e.trans s) B Q fun v H2 Hn d g hd hp =>
  q v H2 _ d (g.up e s hb).1 (dpa_mono (g.up e s hb).2 d hd) hp
theorem EvB.imp (h : EvB K b te σ Hd P) (k : ∀ d, P d → P' d) : EvB K b te σ Hd P' := fun hb H s B Q q => h hb H s B Q fun v H2 Hn d g hd hp => q v H2 Hn d g hd (k d hp)
theorem eb_ed (h : EvD K te σ Hd d) : EvB K b te σ Hd (fun d' => d' = d) := fun hb H s B Q q => h H s Q fun v H2 Hn g hd => q v H2 Hn d (GrB.of g B) hd rfl
theorem eb_ev {n : Int} (h : Ev te σ Hd (.int n)) : EvB K b te σ Hd (isI fun m => m = n) := (eb_ed (ed_int h)).imp fun d e => ⟨n, e, rfl⟩
theorem eba_nil : EvBA K b tNil σ Hd (fun ds => ds = []) := fun hb H s B Q q => q [] H Hd [] (GrB.of (Gr.refl s) B) .nil rfl
theorem eba_cons (h : EvB K b ta σ Hd P) (hr : EvBA K b tr σ Hd Ps) : EvBA K b (tCons ta tr) σ Hd (fun ds => ∃ d es, ds = d :: es ∧ P d ∧ Ps es) := fun hb H s B Q q =>
  h hb H s B _ fun v H1 Hn d g hd hp => hr.mono g.dx (g.bn hb B) H1 g.sub g.bx _ fun vs H2 Hm es g2 hes hps => q (v :: vs) H2 Hm (d :: es) (g.trans g2 hb B) (.cons (dp_mono g2.dx d hd) hes) ⟨d, es, rfl, hp, hps⟩
theorem eb_call {Pre : List PyData → Prop} {R : List PyData → PyData → Prop} {E : XK} (ha : Ev ta σ Hd (.ref b.b)) (h : EvBA K b tr σ Hd Ps) (hp : ∀ ds, Ps ds → Pre ds) : EvB K b (tCall (spB K Pre R) [] E (tCons ta tr)) σ Hd (fun d => ∃ ds, Ps ds ∧ R ds d) := fun hb H s B Q q =>
  ha H s _ fun H1 e1 => h hb H1 (s.trans e1) (B.mono e1) _ fun vs H2 Hn ds g hds hps => ⟨b, vs, Hn, ds, by rw [List.append_nil], g.bn hb (B.mono e1), g.sub, g.bx, hds, hp ds hps, fun v H3 Hm d g2 hd hR =>
    q v H3 Hm d ((g.trans g2 hb (B.mono e1)).pre e1) hd ⟨ds, hps, hR⟩⟩
theorem eb_opI {gg : Int → Int → V} {f : Int → Int → Int} (hg : ∀ i j, gg i j = .int (f i j)) {C : Int → Int → Prop} (ha : EvB K b ta σ Hd (isI p)) (hb' : EvB K b tb σ Hd (isI p')) (hc : ∀ i j, p i → p' j → C i j) : EvB K b (tOp (rI C gg) ta tb) σ Hd (isI fun k => ∃ i j, p i ∧ p' j ∧ k = f i j) := fun hb H s B Q q =>
  ha hb H s B _ fun v H1 Hn d g hd hp => hb'.mono g.dx (g.bn hb B) H1 g.sub g.bx _ fun v2 H2 Hm d2 g2 hd2 hp2 => by
    obtain ⟨i, rfl, pi⟩ := hp
    obtain ⟨j, rfl, pj⟩ := hp2
    cases hd
    cases hd2
    refine ⟨i, j, rfl, rfl, hc i j pi pj, ?_⟩
    rw [hg]
    exact q _ H2 Hm (.int (f i j)) (g.trans g2 hb B) (.int _) ⟨_, rfl, i, j, pi, pj, rfl⟩
theorem eb_opI0 {gg : Int → Int → V} {f : Int → Int → Int} (hg : ∀ i j, gg i j = .int (f i j)) (ha : EvB K b ta σ Hd (isI p)) (hb' : EvB K b tb σ Hd (isI p')) : EvB K b (tOp (rI0 gg) ta tb) σ Hd (isI fun k => ∃ i j, p i ∧ p' j ∧ k = f i j) := fun hb H s B Q q =>
  ha hb H s B _ fun v H1 Hn d g hd hp => hb'.mono g.dx (g.bn hb B) H1 g.sub g.bx _ fun v2 H2 Hm d2 g2 hd2 hp2 => by
    obtain ⟨i, rfl, pi⟩ := hp
    obtain ⟨j, rfl, pj⟩ := hp2
    cases hd
    cases hd2
    refine ⟨i, j, rfl, rfl, ?_⟩
    rw [hg]
    exact q _ H2 Hm (.int (f i j)) (g.trans g2 hb B) (.int _) ⟨_, rfl, i, j, pi, pj, rfl⟩
theorem go_retB (hb : Hd b.b = none) (s : Ex Hd H) (B : Bx H b) (h : EvB K b te σ Hd P) (k : ∀ v H' Hn d, GrB b Hd H Hn H' → Dp K Hn v d → P d → D.rt v H') : Go (tSeq (tRet te) tz) D σ H := fun H1 e1 =>
  h hb H1 (s.trans e1) (B.mono e1) _ fun v H2 Hn d g hd hp => k v H2 Hn d (g.pre e1) hd hp
theorem go_setL {l : Addr} {xs : List V} {j : Nat} (hl : H l = some (.lst xs)) (h : Ev te σ H v) (ho : Ev ta σ H (.ref l)) (hi : Ev tb σ H (.int (j : Int))) (hj : j < xs.length) (k : Go tz D σ (upd H l (.lst (xs.set j v)))) :
    Go (tSeq (tAsg te (gSub ta tb rSetL)) tz) D σ H := fun H1 e1 => q_setL (e1 _ _ hl) (h.mono e1) (ho.mono e1) (hi.mono e1) hj fun H2 e2 => k _ (ex_upd2 (e1.trans e2))
end
end Cot
set_option Elab.async false
set_option linter.all false
set_option maxRecDepth 100000
set_option maxHeartbeats 4000000
namespace Cot
open PySem L2 Evl RZ
section
variable {K : PySem.W.Frag} {X : Cx} {H H' Hd Hd' Hn H1 H2 Hm : Hp} {σ : L2.St} {ta tb tc te tx tl : TE} {t u tt : TT} {x y z v v' : V} {d : PyData} {ds es : List PyData} {tr : TA} {D : Ends} {tu tw tz : TS} {i j j2 n : Nat} {wi : TI} {g : TG}
/-- what is walked: n turns; S tells the slots behind the target, by the turn and the slots ahead -/
def EvI (K : PySem.W.Frag) (wi : TI) (g : TG) (σ : L2.St) (Hd : Hp) (n : Nat) (S : Nat → L2.St → L2.St → Hp → Prop) : Prop := ∀ H, Ex Hd H → ∀ R : It → Hp → Prop,
  (∀ J H2 Hn (G : Hp → Prop) (Y : Nat → Hp → V → Hp → Prop), Gr Hd H Hn H2 → Walk J n G Y → (∀ H', Ex Hn H' → G H') →
    (∀ (i : Nat) (x : V) (H' H'' : Hp) (σ' : L2.St) (k : L2.St → Hp → Prop), i < n → Ex Hn H' → Y i H' x H'' → (∀ σ2 H3, Ex H' H3 → S i σ' σ2 Hn → k σ2 H3) → g x σ' H'' k) → R J H2) → wi σ H R
def SName (K : PySem.W.Frag) (j : Nat) (ds : List PyData) (i : Nat) (σ' σ2 : L2.St) (Hn : Hp) : Prop := ∃ v d, ds[i]? = some d ∧ Dp K Hn v d ∧ σ2 = σ'.set j (some v)
def SPair (K : PySem.W.Frag) (j j2 : Nat) (f f2 : Nat → Option PyData) (i : Nat) (σ' σ2 : L2.St) (Hn : Hp) : Prop := ∃ v v2 d d2, f i = some d ∧ f2 i = some d2 ∧ Dp K Hn v d ∧ Dp K Hn v2 d2 ∧ σ2 = (σ'.set j (some v)).set j2 (some v2)
def SInt (j : Nat) (lo : Int) (i : Nat) (σ' σ2 : L2.St) (_ : Hp) : Prop := σ2 = σ'.set j (some (.int (lo + (i : Int))))
theorem ei_list (h : EvD K tl σ Hd (.list ds)) : EvI K (iList K tl) (gName j) σ Hd ds.length (SName K j ds) := fun H s R r =>
  h H s _ fun v H2 Hn g hd => by
    cases hd with
    | @lst a xs ds hs hall =>
      refine ⟨a, rfl, ⟨xs, ex_l g.sub hs⟩, r _ H2 Hn _ _ g (by rw [← dpa_len hall]; exact walk_list) (fun H' e => ex_l e hs) fun i x H' H'' σ' k hi e y q => ?_⟩
      obtain ⟨rfl, hx⟩ := y
      obtain ⟨d, h1, h2⟩ := dpa_get2 hall hx
      exact q _ _ (Ex.refl _) ⟨x, d, h1, h2, rfl⟩
theorem ei_tup (h : EvD K tl σ Hd (.tuple ds)) : EvI K (iTup K tl) (gName j) σ Hd ds.length (SName K j ds) := fun H s R r =>
  h H s _ fun v H2 Hn g hd => by
    cases hd with
    | @tup a xs ds hs hall =>
      refine ⟨a, rfl, ⟨xs, ex_t g.sub hs⟩, r _ H2 Hn _ _ g (by rw [← dpa_len hall]; exact walk_tup) (fun H' e => ex_t e hs) fun i x H' H'' σ' k hi e y q => ?_⟩
      obtain ⟨rfl, hx⟩ := y
      obtain ⟨d, h1, h2⟩ := dpa_get2 hall hx
      exact q _ _ (Ex.refl _) ⟨x, d, h1, h2, rfl⟩
theorem ei_range1 {m : Int} (h : EvA tr σ Hd [.int m]) (hm : -100000 ≤ m ∧ m ≤ 100000) : EvI K (iRng1 tr) (gName j) σ Hd m.toNat (SInt j 0) := fun H s R r =>
  h H s _ fun H2 e2 => ⟨m, rfl, by omega, by omega, r _ H2 Hd _ _ (Gr.ext s e2) walk_range (fun _ _ => trivial) fun i x H' H'' σ' k hi e y q => by
    obtain ⟨rfl, rfl⟩ := y
    exact q _ _ (Ex.refl _) rfl⟩
/-- the target of a pair: two names -/
abbrev g2 (K : PySem.W.Frag) (j j2 : Nat) : TG := gTup K 2 (gCons (gName j) (gCons (gName j2) gNil))
theorem pair_turn {f f2 : Nat → Option V} {fd fd2 : Nat → Option PyData} {x : V} {H' H'' : Hp} {σ' : L2.St} {k : L2.St → Hp → Prop} (hf : ∀ v, f i = some v → ∃ d, fd i = some d ∧ Dp K Hn v d) (hf2 : ∀ v, f2 i = some v → ∃ d, fd2 i = some d ∧ Dp K Hn v d)
    (y : YPair f f2 i H' x H'') (q : ∀ σ2 H3, Ex H' H3 → SPair K j j2 fd fd2 i σ' σ2 Hn → k σ2 H3) : g2 K j j2 x σ' H'' k := by
  obtain ⟨T, a, b, rfl, hT, rfl, h1, h2⟩ := y
  obtain ⟨d, e1, q1⟩ := hf a h1
  obtain ⟨d2, e2, q2⟩ := hf2 b h2
  exact ⟨T, [a, b], rfl, st_of upd_same, rfl, a, [b], rfl, b, [], rfl, rfl, q _ _ (Ex.new hT) ⟨a, b, d, d2, e1, e2, q1, q2, rfl⟩⟩
def givenD (n : Nat) (f : Nat → Bool) (v : Nat → PyData) : List PyData := ((List.range n).filter f).map v
theorem givenD_yes {f : Nat → Bool} {v : Nat → PyData} (h : f n = true) : givenD (n + 1) f v = givenD n f v ++ [v n] := by
  unfold givenD
  rw [List.range_succ, List.filter_append, List.map_append, List.filter_cons, if_pos h] <;> rfl
theorem givenD_no {f : Nat → Bool} {v : Nat → PyData} (h : f n = false) : givenD (n + 1) f v = givenD n f v := by
  unfold givenD
  rw [List.range_succ, List.filter_append, List.map_append, List.filter_cons, if_neg (by rw [h]; decide)]
  show _ ++ [] = _
  rw [List.append_nil]
theorem givenD_len (n : Nat) (f : Nat → Bool) (v : Nat → PyData) : (givenD n f v).length ≤ n := by
  unfold givenD
  rw [List.length_map]
  have h := List.length_filter_le f (List.range n)
  rw [List.length_range] at h
  exact h
theorem givenD_all (n : Nat) (v : Nat → PyData) : givenD n (fun _ => true) v = (List.range n).map v := by
  unfold givenD
  rw [List.filter_eq_self.mpr (fun _ _ => rfl)]
theorem et_yes : EvT tYes σ H true := fun H1 e Q q => q H1 (Ex.refl H1)
theorem en_lc {S : Nat → L2.St → L2.St → Hp → Prop} {vs : List Nat} (h : EvI K wi g σ Hd n S) (hn : n ≤ 40000) (f : Nat → Bool) (v : Nat → PyData)
    (ht : ∀ (i : Nat) (σ2 : L2.St) (Hn : Hp), i < n → Ex Hd Hn → S i (wipe σ vs) σ2 Hn → wipe σ2 vs = wipe σ vs ∧ EvT tt σ2 Hn (f i) ∧ (f i = true → EvD K te σ2 Hn (v i))) : EvN K (tLc wi g tt te vs) σ Hd (givenD n f v) := fun H s Q q =>
  h H s _ fun J H1 Hn G Y gr w hG hY Dl hD => by
    refine lc_it w (fun i H' => i ≤ n ∧ ∃ Hm acc, Gr Hn H1 Hm H' ∧ Hm Dl = none ∧ H' Dl = some (.lst acc) ∧ DpAll K Hm acc (givenD i f v)) ⟨Nat.zero_le _, Hn, [], Gr.alloc gr.sub hD, fresh_back gr.sub hD, upd_same, .nil⟩ (fun i H' _ p => ?_) (fun i x H' H'' hi p y => ?_) (fun H' p => ?_)
    · obtain ⟨_, Hm, acc, g1, _⟩ := p
      exact hG H' (g1.dx.trans g1.sub)
    · obtain ⟨_, Hm, acc, g1, hm, h2, hac⟩ := p
      refine hY i x H' H'' _ _ hi (g1.dx.trans g1.sub) y fun σ2 H3 e3 hS => ?_
      obtain ⟨hw, hT, hE⟩ := ht i σ2 Hn hi gr.dx hS
      refine ⟨hw, hT H3 ((g1.dx.trans g1.sub).trans e3) _ fun H4 e4 => ?_⟩
      have al : acc.length < sizeLine := sz_lt (by have := givenD_len i f v; rw [dpa_len hac]; omega)
      cases hf : f i with
      | false =>
        show (i + 1 ≤ n ∧ _)
        refine ⟨hi, Hm, acc, g1.post (e3.trans e4), hm, (e3.trans e4) _ _ h2, ?_⟩
        rw [givenD_no hf]
        exact hac
      | true =>
        show te σ2 H4 _
        refine ((hE hf).mono g1.dx) H4 ((g1.sub.trans e3).trans e4) _ fun y H5 Ho g5 hy => ?_
        have h4 : H4 Dl = some (.lst acc) := (e3.trans e4) _ _ h2
        have ho : Ho Dl = none := g5.fr _ _ h4 hm
        have hD1 : H1 Dl = none := hD
        refine ⟨acc, g5.ex _ _ h4, al, hi, Ho, acc ++ [y], ⟨Ex.mut ((g1.ex.trans (e3.trans e4)).trans g5.ex) hD1, g1.dx.trans g5.dx, Ex.mut g5.sub ho, fun a o ha hd => g5.fr a o ((e3.trans e4) a o (g1.ex a o ha)) (g1.fr a o ha hd)⟩, ho, upd_same, ?_⟩
        rw [givenD_yes hf]
        exact dpa_app (dpa_mono g5.dx _ hac) (.cons hy .nil)
    · obtain ⟨_, Hm, acc, g1, hm, h2, hac⟩ := p
      exact q Dl acc H' Hm (gr.trans g1) (fresh_back gr.ex hD) hm h2 hac
theorem ev_all {bs : List Bool} (h : EvD K ta σ Hd (.list (bs.map .bool))) : Ev (tCB (rAll K) (tCons ta tNil)) σ Hd (.bl (bs.all id)) := fun H s Q q =>
  h H s _ fun v H2 Hn g hd => by
    cases hd with
    | @lst a xs ds hs hall =>
      have e := dpa_bools_inv hall
      subst e
      exact ⟨a, bs, rfl, ex_l g.sub hs, q H2 g.ex⟩
def tyN : PyData → String
  | .none => "NoneType"
  | .bool _ => "bool"
  | .int _ => "int"
  | .str _ => "str"
  | .list _ => "list"
  | .tuple _ => "tuple"
  | .dict _ => "dict"
theorem dp_ty (h : Dp K H v d) : TyX K H v (.type (tyN d)) := by
  cases h with
  | non => exact .base .non
  | bl b => exact .base (.bl b)
  | int i => exact .base (.int i)
  | str z => exact .base (.str z)
  | lst hs _ =>
    rcases hs with (h | ⟨o, h⟩) | ⟨o, its, n, h1, h2, _⟩
    · exact .base (.lst h)
    · exact .base (.frz h)
    · exact .kList h1 h2
  | tup hs _ =>
    rcases hs with (h | ⟨o, h⟩) | ⟨o, its, n, h1, h2, _⟩
    · exact .base (.tup h)
    · exact .fTuple h
    · exact .kTuple h1 h2
theorem ev_isi {T : String} {b : Bool} (ha : EvD K ta σ Hd d) (k : kitB (tyN d) T = some b) : Ev (tCB (rIsi K) (tCons ta (tCons (tC (.ty T)) tNil))) σ Hd (.bl b) := fun H s Q q =>
  ha H s _ fun v H2 Hn g hd => ⟨v, .ty T, _, _, b, rfl, .ty T, dp_ty (dp_mono g.sub _ hd), kit_ty k, q H2 g.ex⟩
theorem ev_isiT2 {T T2 : String} {b b2 : Bool} (ha : EvD K ta σ Hd d) (k : kitB (tyN d) T = some b) (k2 : kitB (tyN d) T2 = some b2) : Ev (tCB (rIsiT K) (tCons ta (tCons (tTup (tCons (tC (.ty T)) (tCons (tC (.ty T2)) tNil))) tNil))) σ Hd (.bl (b || b2)) := fun H s Q q =>
  ha H s _ fun v H2 Hn g hd => ⟨by show 2 ≤ sizeLine; decide, fun p hp => ⟨v, p, [.ty T, .ty T2], _, [.type T, .type T2], b || b2, rfl, upd_same, .cons (.ty T) (.cons (.ty T2) .nil), dp_ty (dp_mono (g.sub.trans (Ex.new hp)) _ hd), by
    refine kitAny_cons (kit_ty k) (fun e => kitAny_cons (kit_ty k2) (fun e2 => ?_) (fun e2 => ?_)) (fun e => ?_)
    · rw [e, e2]; rfl
    · rw [e2, Bool.or_true]
    · rw [e]; rfl, q _ (g.ex.trans (Ex.new hp))⟩⟩
theorem ev_eqD {e : PyData} (ha : EvD K ta σ Hd d) (hb : EvD K tb σ Hd e) (hd : SeqAt.shaped d = true) (he : SeqAt.shaped e = true) : Ev (tOp (rEqD K) ta tb) σ Hd (.bl (PyData.eqv d e)) := fun H s Q q =>
  ha H s _ fun v H2 Hn g h1 => hb.mono g.dx H2 g.sub _ fun v2 H3 Hm g2 h2 => ⟨d, e, dp_mono (g2.dx.trans g2.sub) _ h1, dp_mono g2.sub _ h2, hd, he, q H3 (g.ex.trans g2.ex)⟩
theorem ev_neD {e : PyData} (ha : EvD K ta σ Hd d) (hb : EvD K tb σ Hd e) (hd : SeqAt.shaped d = true) (he : SeqAt.shaped e = true) : Ev (tOp (rNeD K) ta tb) σ Hd (.bl (!PyData.eqv d e)) := fun H s Q q =>
  ha H s _ fun v H2 Hn g h1 => hb.mono g.dx H2 g.sub _ fun v2 H3 Hm g2 h2 => ⟨d, e, dp_mono (g2.dx.trans g2.sub) _ h1, dp_mono g2.sub _ h2, hd, he, q H3 (g.ex.trans g2.ex)⟩
end
end Cot
namespace Cot
open PySem L2 Evl
theorem kb_NoneType_bool : kitB "NoneType" "bool" = some false := by decide +kernel
theorem kb_NoneType_int : kitB "NoneType" "int" = some false := by decide +kernel
theorem kb_NoneType_str : kitB "NoneType" "str" = some false := by decide +kernel
theorem kb_NoneType_list : kitB "NoneType" "list" = some false := by decide +kernel
theorem kb_NoneType_tuple : kitB "NoneType" "tuple" = some false := by decide +kernel
theorem kb_bool_bool : kitB "bool" "bool" = some true := by decide +kernel
theorem kb_bool_int : kitB "bool" "int" = some true := by decide +kernel
theorem kb_bool_str : kitB "bool" "str" = some false := by decide +kernel
theorem kb_bool_list : kitB "bool" "list" = some false := by decide +kernel
theorem kb_bool_tuple : kitB "bool" "tuple" = some false := by decide +kernel
theorem kb_int_bool : kitB "int" "bool" = some false := by decide +kernel
theorem kb_int_int : kitB "int" "int" = some true := by decide +kernel
theorem kb_int_str : kitB "int" "str" = some false := by decide +kernel
theorem kb_int_list : kitB "int" "list" = some false := by decide +kernel
theorem kb_int_tuple : kitB "int" "tuple" = some false := by decide +kernel
theorem kb_str_bool : kitB "str" "bool" = some false := by decide +kernel
theorem kb_str_int : kitB "str" "int" = some false := by decide +kernel
theorem kb_str_str : kitB "str" "str" = some true := by decide +kernel
theorem kb_str_list : kitB "str" "list" = some false := by decide +kernel
theorem kb_str_tuple : kitB "str" "tuple" = some false := by decide +kernel
theorem kb_list_bool : kitB "list" "bool" = some false := by decide +kernel
theorem kb_list_int : kitB "list" "int" = some false := by decide +kernel
theorem kb_list_str : kitB "list" "str" = some false := by decide +kernel
theorem kb_list_list : kitB "list" "list" = some true := by decide +kernel
theorem kb_list_tuple : kitB "list" "tuple" = some false := by decide +kernel
theorem kb_tuple_bool : kitB "tuple" "bool" = some false := by decide +kernel
theorem kb_tuple_int : kitB "tuple" "int" = some false := by decide +kernel
theorem kb_tuple_str : kitB "tuple" "str" = some false := by decide +kernel
theorem kb_tuple_list : kitB "tuple" "list" = some false := by decide +kernel
theorem kb_tuple_tuple : kitB "tuple" "tuple" = some true := by decide +kernel
section
variable {K : PySem.W.Frag} {X : Cx} {H H' Hd Hd' Hn H1 H2 Hm : Hp} {σ : L2.St} {ta tb tc te tx tl : TE} {t u tt : TT} {x y z v v' : V} {d : PyData} {ds es : List PyData} {tr : TA} {D : Ends} {tu tw tz : TS} {i j j2 n : Nat} {wi : TI} {g : TG}
theorem go_whenT (h : EvT t σ H true) (h1 : Go tu { D with nx := tz D } σ H) : Go (tSeq (tIfS t tu tNext) tz) D σ H := go_when h (fun _ => h1) (fun e => by cases e)
theorem go_whenF (h : EvT t σ H false) (h2 : Go tz D σ H) : Go (tSeq (tIfS t tu tNext) tz) D σ H := go_when h (fun e => by cases e) (fun _ => h2)
end
end Cot
namespace Cot
open PySem L2 Evl
section
variable {K : PySem.W.Frag} {X : Cx} {H H' Hd Hd' Hn H1 H2 Hm : Hp} {σ : L2.St} {ta tb tc te tx tl : TE} {t u tt : TT} {x y z v v' : V} {d : PyData} {ds es : List PyData} {tr : TA} {D : Ends} {tu tw tz : TS} {i j j2 n : Nat} {wi : TI} {g : TG}
theorem go_for {S : Nat → L2.St → L2.St → Hp → Prop} (s : Ex Hd H) (h : EvI K wi g σ Hd n S) (Pv : Hp → Nat → L2.St → Hp → Prop) (h0 : ∀ H' Hn, Gr Hd H Hn H' → Pv Hn 0 σ H') (hE : ∀ Hn i σ' H', Pv Hn i σ' H' → Ex Hn H')
    (hs : ∀ Hn i σ' σ2 H', Ex Hd Hn → i < n → Pv Hn i σ' H' → S i σ' σ2 Hn → Go tu { D with nx := Pv Hn (i + 1), ct := Pv Hn (i + 1), bk := tz D } σ2 H')
    (hd : ∀ Hn σ' H', Ex Hd Hn → Pv Hn n σ' H' → Go tz D σ' H') : Go (tSeq (tFor wi g tu) tz) D σ H := fun H1 e1 =>
  h H1 (s.trans e1) _ fun J H2 Hn G Y gr w hG hY => by
    refine for_it w (Pv Hn) (h0 H2 Hn (gr.pre e1)) (fun i σ' H' _ p => hG H' (hE Hn i σ' H' p)) (fun i x σ' H' H'' hi p y => ?_) (fun σ' H' p => hd Hn σ' H' gr.dx p H' (Ex.refl _))
    exact hY i x H' H'' σ' _ hi (hE Hn i σ' H' p) y fun σ2 H3 e3 hS => hs Hn i σ' σ2 H' gr.dx hi p hS H3 e3
end
end Cot
namespace Cot
open PySem L2 Evl
section
variable {K : PySem.W.Frag} {b : Bid} {H H' Hd Hd' Hn H1 H2 Hm : Hp} {σ : L2.St} {ta tb te : TE} {tr : TA} {n : Nat} {p : Int → Prop}
theorem eb_int {q : Int → Prop} {m : Int} (h : Ev te σ Hd (.int m)) (hq : q m) : EvB K b te σ Hd (isI q) := (eb_ev h).imp fun d ⟨i, e, e2⟩ => ⟨i, e, by rw [e2]; exact hq⟩
end
end Cot
namespace Cot
open PySem L2 Evl
end Cot
namespace Cot
open PySem L2 Evl
section
variable {K : PySem.W.Frag} {x qual : Str} {params : Arguments} {body : List Stmt} {scope : Scope} {dvs : List V} {kws : List (Str × V)} {f : Addr} {fd : FuncData} {ps : List Str}
theorem bindsAll (F : FunD K x qual params body scope dvs kws f fd) (n : Nat) (hd : dvs ≠ []) (hn : n = ps.length)
    (h : ∀ (T : Addr) (kV doc pm : Value) (an : Option Addr) (cdv ct : Value) (us its : List Value), us.length = n → its.length = dvs.length →
      ∃ k, bindArgs (PySem.W.fnOf x qual params body scope (.ref T) kV doc pm an cdv ct) ⟨us, []⟩ = seqItems? (.ref T) >>= k ∧ k (some its.toArray) = pure (ps.zip us)) : Binds K fd ps [] := by
  obtain ⟨ds, v, b⟩ := F.binds1 (ps := ps) n dvs.length hd (by omega) (fun T kV doc pm an cdv ct us its hu hi => by
    obtain ⟨k, h1, h2⟩ := h T kV doc pm an cdv ct us its hu hi
    refine ⟨k, h1, ?_⟩
    rw [List.drop_of_length_le (by omega), List.append_nil]
    exact h2)
  rw [List.drop_of_length_le (Nat.le_refl _)] at v
  cases v
  exact b
end
end Cot
set_option Elab.async false
set_option linter.all false
set_option maxRecDepth 100000
set_option maxHeartbeats 4000000
namespace Cot
open PySem L2 Evl
def okE : Nat → PyData → Prop
  | _, .none => True
  | _, .bool _ => True
  | _, .int _ => True
  | _, .str x => PyData.strOk x = true
  | _, .dict _ => False
  | 0, .list ds => ds = []
  | 0, .tuple ds => ds = []
  | n + 1, .list ds => ∀ e ∈ ds, okE n e
  | n + 1, .tuple ds => ∀ e ∈ ds, okE n e
theorem canAll : ∀ {ds : List PyData}, (∀ e ∈ ds, e.canLay0 = true) → PyData.canLayAll0 ds = true
  | [], _ => by unfold PyData.canLayAll0; rfl
  | d :: ds, h => by
    unfold PyData.canLayAll0
    rw [h d List.mem_cons_self, canAll fun e he => h e (List.mem_cons_of_mem _ he)]
    rfl
theorem depAll {n : Nat} : ∀ {ds : List PyData}, (∀ e ∈ ds, e.depth ≤ n) → PyData.depthAll ds ≤ n
  | [], _ => by unfold PyData.depthAll; omega
  | d :: ds, h => by
    unfold PyData.depthAll
    have h1 := h d List.mem_cons_self
    have h2 := depAll fun e he => h e (List.mem_cons_of_mem _ he)
    omega
theorem okE_lay : ∀ (n : Nat) (d : PyData), okE n d → d.canLay0 = true ∧ d.depth ≤ n + 1
  | n, .none, _ => ⟨by unfold PyData.canLay0; rfl, by unfold PyData.depth; omega⟩
  | n, .bool _, _ => ⟨by unfold PyData.canLay0; rfl, by unfold PyData.depth; omega⟩
  | n, .int _, _ => ⟨by unfold PyData.canLay0; rfl, by unfold PyData.depth; omega⟩
  | n, .str x, h => ⟨by unfold PyData.canLay0; cases n <;> exact h, by unfold PyData.depth; omega⟩
  | n, .dict _, h => by cases n <;> exact h.elim
  | 0, .list ds, h => by
    have e : ds = [] := h
    subst e
    exact ⟨by unfold PyData.canLay0; exact canAll (fun _ h => by cases h), by unfold PyData.depth PyData.depthAll; omega⟩
  | 0, .tuple ds, h => by
    have e : ds = [] := h
    subst e
    exact ⟨by unfold PyData.canLay0; exact canAll (fun _ h => by cases h), by unfold PyData.depth PyData.depthAll; omega⟩
  | n + 1, .list ds, h => ⟨by unfold PyData.canLay0; exact canAll fun e he => (okE_lay n e (h e he)).1, by
      unfold PyData.depth
      have := depAll (n := n + 1) (ds := ds) fun e he => (okE_lay n e (h e he)).2
      omega⟩
  | n + 1, .tuple ds, h => ⟨by unfold PyData.canLay0; exact canAll fun e he => (okE_lay n e (h e he)).1, by
      unfold PyData.depth
      have := depAll (n := n + 1) (ds := ds) fun e he => (okE_lay n e (h e he)).2
      omega⟩
theorem okE_shaped {n : Nat} {d : PyData} (h : okE n d) (hn : n ≤ 63) : SeqAt.shaped d = true := by
  have h1 := okE_lay n d h
  unfold SeqAt.shaped
  rw [h1.1, decide_eq_true (by omega)]
  rfl
section
variable {K : PySem.W.Frag} {X : Cx} {b : Bid} {l : Addr} {H H' Hd Hd' Hn H1 H2 Hm : Hp} {σ : L2.St} {ta tb te : TE} {tl th : TO} {tr : TA} {n i j : Nat} {p : Int → Prop} {P : PyData → Prop} {D : Ends} {tu tz : TS} {ds es : List PyData} {xs : List V} {lo hi : Option Int}
/-- a list that stands in the heap -/
def EvM (K : PySem.W.Frag) (te : TE) (σ : L2.St) (Hd : Hp) (ds : List PyData) : Prop := ∀ H, Ex Hd H → ∀ Q : VK, (∀ p xs H2 Hn, Gr Hd H Hn H2 → H2 p = some (.lst xs) → DpAll K Hn xs ds → Q (.ref p) H2) → te σ H Q
theorem EvM.mono (e : Ex Hd Hd') (h : EvM K te σ Hd ds) : EvM K te σ Hd' ds := fun H s Q q => h H (e.trans s) Q fun p xs H2 Hn g h2 hd => q p xs H2 _ (g.up e s) h2 (dpa_mono (g.upr e s) ds hd)
theorem em_new (h : EvN K te σ Hd ds) : EvM K te σ Hd ds := fun H s Q q => h H s Q fun p xs H2 Hn g _ _ h2 hd => q p xs H2 Hn g h2 hd
theorem em_ref (h : Ev te σ Hd (.ref l)) (hl : Hd l = some (.lst xs)) (hd : DpAll K Hd xs ds) : EvM K te σ Hd ds := fun H s Q q => h H s Q fun H2 e => q l xs H2 Hd (Gr.ext s e) (e _ _ (s _ _ hl)) hd
theorem en_cat (ha : EvM K ta σ Hd ds) (hb : EvM K tb σ Hd es) (hl : ds.length + es.length ≤ 100000) : EvN K (tOp rCat ta tb) σ Hd (ds ++ es) := fun H s Q q =>
  ha H s _ fun p xs H2 Hn g h2 hd => hb.mono g.dx H2 g.sub _ fun p' ys H3 Hm g3 h3 hd3 => ⟨p, p', xs, ys, rfl, rfl, g3.ex _ _ h2, h3, sz_of (by rw [dpa_len hd, dpa_len hd3]; exact hl), fun r hr =>
    q r _ _ Hm ((g.trans g3).trans (Gr.alloc g3.sub hr)) (fresh_back (g.ex.trans g3.ex) hr) (fresh_back g3.sub hr) upd_same (dpa_app (dpa_mono g3.dx _ hd) hd3)⟩
theorem en_slice (h : EvD K te σ Hd (.list ds)) (h1 : EvO tl σ Hd lo) (h2 : EvO th σ Hd hi) : EvN K (tSl (rSlL K) te tl th) σ Hd ((ds.drop (HT.sIx ds.length 0 lo)).take (HT.sIx ds.length ds.length hi - HT.sIx ds.length 0 lo)) := fun H s Q q =>
  h H s _ fun v H2 Hn g hd => by
    cases hd with
    | @lst a xs ds hs hall =>
      have e0 : ∀ {H3}, Ex H2 H3 → Ex Hd H3 := fun e => (g.dx.trans g.sub).trans e
      refine h1 H2 (g.dx.trans g.sub) _ fun H3 e3 => h2 H3 (e0 e3) _ fun H4 e4 => ⟨a, xs, rfl, ex_l ((g.sub.trans e3).trans e4) hs, fun r hr => ?_⟩
      refine q r _ _ Hn ((g.post (e3.trans e4)).trans (Gr.alloc (g.sub.trans (e3.trans e4)) hr)) (fresh_back (g.ex.trans (e3.trans e4)) hr) (fresh_back (g.sub.trans (e3.trans e4)) hr) upd_same ?_
      unfold cutV
      rw [dpa_len hall]
      exact dpa_take _ (dpa_drop _ hall)
end
end Cot
namespace Cot
open PySem L2 Evl
section
variable {K : PySem.W.Frag} {b : Bid} {H H' Hd Hd' Hn H1 H2 Hm : Hp} {σ : L2.St} {ta tb te : TE} {tl th : TO} {tr : TA} {Ps Ps' : List PyData → Prop} {ds : List PyData}
theorem EvBA.imp (h : EvBA K b tr σ Hd Ps) (k : ∀ d, Ps d → Ps' d) : EvBA K b tr σ Hd Ps' := fun hb H s B Q q => h hb H s B Q fun v H2 Hn d g hd hp => q v H2 Hn d g hd (k d hp)
theorem en_from {j : Nat} (h : EvD K te σ Hd (.list ds)) (h1 : Ev ta σ Hd (.int (j : Int))) : EvN K (tSl (rSlL K) te (tPart ta) tNoPart) σ Hd (ds.drop j) := by
  have h2 := en_slice h (eo_some h1) (eo_none (σ := σ) (H := Hd))
  rw [HT.sIx_none, HT.sIx_nat] at h2
  by_cases hj : j ≤ ds.length
  · rw [Nat.min_eq_left hj, List.take_of_length_le (by rw [List.length_drop]; omega)] at h2
    exact h2
  · rw [Nat.min_eq_right (by omega), Nat.sub_self, List.take_zero] at h2
    rw [List.drop_of_length_le (by omega)]
    exact h2
end
end Cot
set_option Elab.async false
set_option linter.all false
set_option maxRecDepth 100000
set_option maxHeartbeats 4000000
namespace Cot
open PySem L2 Evl PyProof.Rows
section
variable {X : Cx}
def rTupS (K : PySem.W.Frag) : List V → Hp → VK → Prop := fun xs H Q => ∃ p ys, xs = [.ref p] ∧ ((SqL K H p ys ∧ ∀ l, H l = none → Q (.ref l) (upd H l (.tup ys))) ∨ (SqT K H p ys ∧ Q (.ref p) H))
theorem call_tupleQ : CallR X (.type "tuple") (rTupS X.K) := call_tuple_of
end
section
variable {K : PySem.W.Frag} {b : Bid} {l : Addr} {H H' Hd Hd' Hn H1 H2 Hm : Hp} {σ : L2.St} {ta tb te : TE} {t u : TT} {tl th : TO} {tr : TA} {n i j j2 : Nat} {p : Int → Prop} {P : PyData → Prop} {D : Ends} {tu tw tz : TS} {d d1 d2 : PyData} {ds es : List PyData} {xs : List V} {lo hi : Option Int} {wi : TI} {g : TG} {x : V}
theorem ed_tupleL (h : EvD K te σ Hd (.list ds)) : EvD K (tCB (rTupS K) (tCons te tNil)) σ Hd (.tuple ds) := fun H s Q q =>
  h H s _ fun v H2 Hn g hd => by
    cases hd with
    | @lst a xs ds hs hall => exact ⟨a, xs, rfl, Or.inl ⟨ex_l g.sub hs, fun r hr => q (.ref r) _ _ (g.trans (Gr.new g.sub hr)) (.tup (st_of upd_same) (dpa_mono (Ex.new (fresh_back g.sub hr)) _ hall))⟩⟩
/-- a, b = e -/
theorem go_two (s : Ex Hd H) (h : EvD K te σ Hd (.tuple [d1, d2])) (k : ∀ v1 v2 H' Hn, Gr Hd H Hn H' → Dp K Hn v1 d1 → Dp K Hn v2 d2 → Go tz D ((σ.set i (some v1)).set j (some v2)) H') : Go (tSeq (tAsg te (gTup K 2 (gCons (gName i) (gCons (gName j) gNil)))) tz) D σ H := fun H1 e1 =>
  h H1 (s.trans e1) _ fun v H2 Hn g hd => by
    cases hd with
    | @tup a xs ds hs hall =>
      cases hall with
      | cons h1 h2 =>
        cases h2 with
        | cons h2 h3 =>
          cases h3
          exact ⟨a, _, rfl, ex_t g.sub hs, rfl, _, _, rfl, _, _, rfl, rfl, k _ _ H2 Hn (g.pre e1) h1 h2 H2 (Ex.refl _)⟩
theorem ex_add {o : HO} (s : Ex Hd H) (h : H l = some o) : Ex (upd Hd l o) H := fun a u ha => by
  by_cases e : a = l
  · subst e
    rw [upd_same] at ha
    exact h.trans ha
  · rw [upd_ne e] at ha
    exact s a u ha
/-- a test that draws -/
def EvBT (K : PySem.W.Frag) (b : Bid) (t : TT) (σ : L2.St) (Hd : Hp) : Prop := Hd b.b = none → ∀ H, Ex Hd H → Bx H b → ∀ Q : Bool → Hp → Prop, (∀ c H2 Hn, GrB b Hd H Hn H2 → Q c H2) → t σ H Q
theorem EvBT.mono (e : Ex Hd Hd') (h : EvBT K b t σ Hd) : EvBT K b t σ Hd' := fun hb H s B Q q => h (fresh_back e hb) H (e.trans s) B Q fun c H2 Hn g => q c H2 _ (g.up e s hb).1
end
end Cot
namespace Cot
open PySem L2 Evl
section
variable {K : PySem.W.Frag} {b : Bid} {l : Addr} {o : HO} {H H' Hd Hg Hd' Hn H1 H2 Hm : Hp}
theorem GrB.fresh (G : GrB b Hd H Hg H') (h : H' l = none) : H l = none := by
  obtain ⟨ob, hob⟩ := G.bx.some
  have n : l ≠ b.b := (ne_of_none hob h).symm
  cases e : H l with
  | none => rfl
  | some u =>
    rw [G.exb l u n e] at h
    cases h
theorem GrB.mut (G : GrB b Hd H Hg H') (h0 : H l = none) (hg : Hg l = none) (n1 : l ≠ b.b) (n2 : l ≠ b.ca) : GrB b Hd H Hg (upd H' l o) :=
  ⟨fun a u na ha => by rw [upd_ne (ne_of_none ha h0)]; exact G.exb a u na ha, G.dx, Ex.mut G.sub hg, G.fr, G.bx.keep n1 n2⟩
theorem GrB.add (G : GrB b Hd H Hg H') (h0 : H l = none) (hg : Hg l = none) (hl : H' l = some o) : GrB b Hd H (upd Hg l o) H' :=
  ⟨G.exb, G.dx.trans (Ex.new hg), ex_add G.sub hl, fun a u ha hd => by rw [upd_ne (ne_of_none ha h0)]; exact G.fr a u ha hd, G.bx⟩
theorem GrB.low (e : Ex Hg Hd') (g : GrB b Hd' H Hn H2) : GrB b Hg H Hg H2 := ⟨g.exb, Ex.refl _, (e.trans g.dx).trans g.sub, fun _ _ _ h => h, g.bx⟩
theorem GrB.post (g : GrB b Hd H Hn H1) (e : Ex H1 H2) : GrB b Hd H Hn H2 := ⟨fun a o n h => e a o (g.exb a o n h), g.dx, g.sub.trans e, g.fr, g.bx.mono e⟩
end
end Cot
set_option Elab.async false
set_option linter.all false
set_option maxRecDepth 100000
set_option maxHeartbeats 4000000
namespace Cot
open PySem PySem.Spec PyProof.Rows L2 Evl
abbrev tupItO (t : Addr) : Obj := { cls := .type "tuple_iterator", data := .fields #[.ref t, .int 0 0] }
abbrev enumO (k : Addr) : Obj := { cls := .type "enumerate", data := .fields #[.none, .bool false, .ref k, rawInt 0, .none, .none] }
set_option maxHeartbeats 1000000 in
theorem enumT_new (t : Addr) (items : Array Value) :
    Meets (Builtin.«enumerate.__new__» ⟨[.type "enumerate", .ref t], []⟩) (fun _ R s => s.heap.IsTuple t items ∧ R (.ok (.ret (.ref (s.heap.push (tupItO t)).objs.size))) { s with heap := (s.heap.push (tupItO t)).push (enumO s.heap.objs.size) }) :=
  .of_wp fun prog w A R s hh => by
    obtain ⟨hp, gs, dr, tk, os⟩ := s
    obtain ⟨hT, hh⟩ := hh
    have sb := sub_enumerate
    wp_walk
    refine wpAny_stack_any fun st => wpAny_pure ?_
    split
    · rename_i cc _ _ _ _ _
      cases (cc == Value.type "enumerate") <;> (wp_walk using wpAny_pyIter_tuple hT; exact ⟨_, rfl, hh⟩)
    · wp_walk using wpAny_pyIter_tuple hT
      exact ⟨_, rfl, hh⟩
section
variable {prog : Program} {w : World} {A : Around} {E : Value → Shared → Prop} {s : Shared}
theorem call_enumT {t : Addr} {items : Array Value} {Q : Value → Shared → Prop} (hT : s.heap.IsTuple t items)
    (hq : ∀ h', IsEnum h' (s.heap.objs.size + 1) s.heap.objs.size 0 .none → h'.IsTupleIter s.heap.objs.size t 0 → (∀ b o, s.heap.get? b = some o → h'.get? b = some o) → Q (.ref (s.heap.objs.size + 1)) { s with heap := h' }) :
    wpAny (model prog w) A (call (.type "enumerate") [.ref t]) Q E s := by
  refine callType_new F.called_enumerate (by decide) (F.typeCall_enumerate_1 _) (F.newCall_enumerate_1 _) (fun ob => F.args_object_init_2 ob _) F.entry_enumerate_new (enumT_new t items) ⟨hT, ?_⟩
  have hz : (s.heap.push (tupItO t)).objs.size = s.heap.objs.size + 1 := Heap.size_push ..
  have he : IsEnum ((s.heap.push (tupItO t)).push (enumO s.heap.objs.size)) (s.heap.objs.size + 1) s.heap.objs.size 0 .none := by
    have z := Heap.get?_push_size (s.heap.push (tupItO t)) (o := enumO s.heap.objs.size) rfl
    rw [hz] at z
    exact z
  show _ ∧ _
  rw [hz]
  exact ⟨⟨_, he, rfl⟩, hq _ he ⟨_, Heap.get?_push_of_some _ (Heap.get?_push_size _ rfl), rfl, rfl⟩ fun b o x => Heap.get?_push_of_some _ (Heap.get?_push_of_some _ x)⟩
end
/-- a tuple's items, each in a new pair with its place -/
def IteT (K : PySem.W.Frag) (a : Addr) : It :=
  ⟨fun i H => ∃ (xs : List V) (x : V), SqT K H a xs ∧ xs[i]? = some x, fun i H v H' => ∃ T x, v = .ref T ∧ H T = none ∧ H' = upd H T (.tup [.int (i : Nat), x]) ∧ ∀ xs, SqT K H a xs → xs[i]? = some x, fun i H => ∃ xs : List V, SqT K H a xs ∧ xs.length = i⟩
theorem turn_enumT {P : Program} {w : World} {K : PySem.W.Frag} {elts : List Expr} {kk : Nat} {tpos : Pos} (a e it : Addr) :
    Turn P w K (.Tuple elts kk tpos) (IteT K a) [e, it] e (fun i h => (∃ old, IsEnum h e it ((i : Nat) : Int) old) ∧ h.IsTupleIter it a i ∧ e ≠ it) where
  mem := by simp
  obj := fun i h st b hb => by
    obtain ⟨⟨old, he⟩, ⟨o, ho, hc, hd⟩, _⟩ := st
    rcases (show b = e ∨ b = it by simpa using hb) with z | z
    · rw [z]; exact ⟨_, he, fun v q => nomatch q⟩
    · rw [z]; exact ⟨o, ho, fun v q => by rw [hd] at q; cases q⟩
  keep := fun i h h' st k => by
    obtain ⟨⟨old, he⟩, ⟨o, ho, hc⟩, hne⟩ := st
    exact ⟨⟨old, k e (by simp) _ he⟩, ⟨o, k it (by simp) _ ho, hc⟩, hne⟩
  item := by
    intro X hP hw hK hc i pins s σ H E I hf st hg
    subst hP hw hK
    obtain ⟨⟨old, he⟩, hit, hne⟩ := st
    obtain ⟨xs, x, hq, hx⟩ := hg
    obtain ⟨its, rv, p, hz⟩ := I.tuple hq
    obtain ⟨u, hu, ru⟩ := rv.get hx
    have hel : e < s.heap.objs.size := Heap.lt_size he
    have hil : it < s.heap.objs.size := by
      obtain ⟨_, q, _⟩ := hit
      exact Heap.lt_size q
    have nai : a ≠ it := fun z => by
      subst z
      obtain ⟨o1, h1, c1, _⟩ := p
      obtain ⟨o2, h2, c2, _⟩ := hit
      rw [h1] at h2
      cases h2
      rw [c1] at c2
      exact absurd (Value.type.inj c2) (by decide)
    have nae : a ≠ e := fun z => by
      subst z
      obtain ⟨o1, h1, c1, _⟩ := p
      have he' := he
      unfold IsEnum at he'
      rw [h1] at he'
      cases he'
      exact absurd (Value.type.inj c1) (by decide)
    have lti : i < its.toArray.size := by
      have := (List.getElem?_eq_some_iff.mp hu).1
      simpa using this
    have D : Draws X.prog X.w X.A.in1 it [it, a] its.toArray.size (fun i v => its.toArray[i]? = some v) (fun i h => h.IsTupleIter it a i ∧ h.IsTuple a its.toArray) := Draws.tuple (show X.A.in1.handled = none from I.ok.hd hc) it a nai its.toArray
    refine wpAny_pyNext_enum_itemD D he ⟨hit, p⟩ lti hne (by simp [hne, nae.symm]) fun y h' tk hy ho hit' hT hsz hk => ?_
    have ey : y = u := by
      have h2 : its.toArray[i]? = some u := by simpa using hu
      rw [h2] at hy
      cases hy
      rfl
    subst ey
    refine ⟨_, rfl, wpAny_letOwnedTupleGo_enum (s := { s with heap := h', toks := tk + 1 }) ho fun h2 he2 sb => ?_⟩
    have hT2 : h2.get? s.heap.objs.size = some { cls := .type "tuple", data := .seq #[.int i tk, y] } := (sb.2 _ (Nat.ne_of_gt hel)).trans hT
    have new : ObjOk X.prog X.w (upd H s.heap.objs.size (.tup [.int (i : Nat), x])) h2 s.heap.objs.size (.tup [.int (i : Nat), x]) :=
      ⟨by show 2 ≤ sizeLine; decide, [.int i tk, y], .cons ⟨_, rfl⟩ (.cons ru .nil), ⟨_, hT2, rfl, _, rfl⟩⟩
    have I1 : Inv X pins σ (upd H s.heap.objs.size (.tup [.int (i : Nat), x])) { s with heap := h2, toks := tk + 1 } :=
      I.turnedNew (ch := [e, it]) (fun b ob hb q => (sb.2 b (fun z => hb (by simp [z]))).trans (hk b ob (fun z => hb (by simp [z])) (fun z => hb (by simp [z])) q)) hf (Nat.le_refl _) new
    refine ⟨.ref s.heap.objs.size, _, I1, rfl, ⟨_, x, rfl, I.hok.fresh (Nat.le_refl _), rfl, fun ys hy => by rw [I.tuple_inj hy hq]; exact hx⟩, ⟨⟨y, ?_⟩, ?_, hne⟩, fun b hb => ?_⟩
    · have e1 : ((i + 1 : Nat) : Int) = (i : Int) + 1 := by omega
      rw [e1]
      exact he2
    · obtain ⟨o3, h3, r3⟩ := hit'.1
      exact ⟨o3, (sb.2 it (Ne.symm hne)).trans h3, r3⟩
    · have hb' : b < s.heap.objs.size := by
        rcases (show b = e ∨ b = it by simpa using hb) with z | z
        · rw [z]; exact hel
        · rw [z]; exact hil
      rw [upd_ne (Nat.ne_of_lt hb')]
      exact (hf b hb).1
  done := by
    intro X hP hw hK hc i pins s σ H E I hf st hg
    subst hP hw hK
    obtain ⟨⟨old, he⟩, hit, hne⟩ := st
    obtain ⟨xs, hq, hx⟩ := hg
    obtain ⟨its, rv, p, hz⟩ := I.tuple hq
    obtain ⟨f0, f1, f2, f3, f4, f5⟩ := hf it (by simp)
    have hl := rv.length
    have nai : a ≠ it := fun z => by
      subst z
      obtain ⟨o1, h1, c1, _⟩ := p
      obtain ⟨o2, h2, c2, _⟩ := hit
      rw [h1] at h2
      cases h2
      rw [c1] at c2
      exact absurd (Value.type.inj c2) (by decide)
    have D : Draws X.prog X.w X.A.in1 it [it, a] its.toArray.size (fun i v => its.toArray[i]? = some v) (fun i h => h.IsTupleIter it a i ∧ h.IsTuple a its.toArray) := Draws.tuple (show X.A.in1.handled = none from I.ok.hd hc) it a nai its.toArray
    have ei : its.toArray.size = i := by
      rw [List.size_toArray, ← hl]
      exact hx
    refine wpAny_pyNext_enum_endD D he (by rw [ei]; exact ⟨hit, p⟩) fun h' eb => ⟨rfl, I.turned (t' := s.toks) (fun b o hb q => eb b o hb q) f0 f1 f3 f4 f5⟩
  self := fun A i s Q E st h => let ⟨⟨_, he⟩, _⟩ := st; wpAny_pyIter_enum he h
def iEnumT (K : PySem.W.Frag) (ta : TA) : TI := fun σ H R => ta σ H fun vs H1 => ∃ a xs, vs = [.ref a] ∧ SqT K H1 a xs ∧ R (IteT K a) H1
theorem pi_enumT {X : Cx} {e : Expr} {ta : TA} {p pos tpos : Pos} {elts : List Expr} {kk : Nat} (hg : Gl X "enumerate") (hm : X.mg "enumerate" = none) (ha : PA X [e] ta) (hs : starEach [e] X.env = [(false, eval e X.env)] := by rfl) :
    PI X (.Tuple elts kk tpos) (.Call (.Name "enumerate" p) [e] [] pos) (iEnumT X.K ta) := by
  refine ⟨fun pins s σ H R I hw => ?_⟩
  refine Call_ (ld_blt I hg hm boot_enumerate (PyProof.Rows.callWith_type1 (thn (ha.run pos pins s σ H _ I hw) fun us s1 hh => ?_) hs rfl))
  obtain ⟨vs, H1, I1, r1, a, xs, rfl, hq, q⟩ := hh
  cases r1 with
  | cons ra rr =>
    cases rr
    cases ra
    obtain ⟨its, rv, pt, _⟩ := I1.tuple hq
    refine call_enumT pt fun h' he hit hk => wpAny_pyIter_enum he ?_
    have I2 : Inv X pins σ H1 { s1 with heap := h' } := I1.kept (t' := s1.toks) hk
    refine ⟨s1.heap.objs.size + 1, [s1.heap.objs.size + 1, s1.heap.objs.size], _, _, H1, rfl, I2, turn_enumT a (s1.heap.objs.size + 1) s1.heap.objs.size, ⟨⟨.none, he⟩, hit, Nat.succ_ne_self _⟩, fun b hb => ?_, q⟩
    have hle : s1.heap.objs.size ≤ b := by
      rcases (show b = s1.heap.objs.size + 1 ∨ b = s1.heap.objs.size by simpa using hb) with z | z
      · rw [z]; exact Nat.le_succ _
      · rw [z]; exact Nat.le_refl _
    exact I1.fpOk hle (I1.hok.fresh hle)
section
variable {K : PySem.W.Frag} {H H' Hd Hd' Hn H1 H2 Hm : Hp} {σ : L2.St} {ta tb te : TE} {tr : TA} {n i j j2 : Nat} {ds es : List PyData} {a : Addr} {xs : List V}
theorem walk_enumT : Walk (IteT K a) xs.length (fun H => SqT K H a xs) (YPair (fun i => some (.int (i : Nat))) (fun i => xs[i]?)) := by
  refine ⟨fun i _ hi q => ⟨xs, xs[i], q, by simp [hi]⟩, fun _ q => ⟨xs, q, rfl⟩, fun i H v H' _ q y => ?_⟩
  obtain ⟨T, x, h1, h2, h3, h4⟩ := y
  exact ⟨T, .int (i : Nat), x, h1, h2, h3, rfl, h4 xs q⟩
end
end Cot
namespace Cot
open PySem PySem.Spec PyProof.Rows L2 Evl
end Cot
set_option Elab.async false
set_option linter.all false
set_option maxRecDepth 100000
set_option maxHeartbeats 4000000
namespace Cot
open PySem PySem.Spec PyProof.Rows L2 L2H HotX
end Cot
set_option Elab.async false
set_option linter.all false
set_option maxRecDepth 100000
set_option maxHeartbeats 4000000
namespace Cot
open PySem PySem.Spec PyProof.Rows L2 LamX
/-- the lambda's context, exceptions as L2N tells them -/
def lamN (X : Cx) (A : Around) (outer : List Env) (s : Shared) (H : Hp) (E : XK) (scope : Scope) (f c' : Addr) : Cx :=
  (lamCx X A outer s H E scope f c').wish fun e s1 => wpAny (model X.prog X.w) (A.deeper (lamEnv X scope s.heap.objs.size f c')) (leaving (lamEnv X scope s.heap.objs.size f c') e) (fun _ s2 => L2N.CX X.prog X.w outer H s E e s2) (fun e2 s2 => L2N.CX X.prog X.w outer H s E e2 s2) s1
end Cot
set_option Elab.async false
set_option linter.all false
set_option maxRecDepth 100000
set_option maxHeartbeats 4000000
namespace Cot
open PySem PySem.Spec PyProof.Rows L2 L2H
end Cot
set_option Elab.async false
set_option linter.all false
set_option maxRecDepth 100000
set_option maxHeartbeats 4000000
namespace Cot
open PySem PySem.Spec PyProof.Rows L2 L2H Evl RZ
section
variable {P : Program} {w : World} {K : PySem.W.Frag} {mg : Str → Option Value} {base : Heap}
theorem okN {x ql : Str} {st : Stmt} {f : Addr} {fd : FuncData} {N ps : List Str} {k : Nat} {sp : Sp} (F : Fun K x ql st f fd) (S : FnScope N ps (defScope st)) (ln : ∀ vs H Q E, sp vs H Q E → vs.length = ps.length)
    (hb : ∀ (cdv : Value) (A : Around) (st2 : List Env) (s : Shared) (H : Hp) (vs : List V) (Q : VK) (E : XK), Room k (A.deeper (envOfC ql (defScope st) s.heap.objs.size f cdv)) → sp vs H Q E →
      ∃ t, PSs (cxOf (L2N.CX P w) P w K mg base N ql (defScope st) f cdv A st2 s H E) (defBody st) t ∧ t { nx := fun _ H1 => Q .non H1, rt := Q } (L2.start N vs) H) : FnOk P w K mg base (L2N.CX P w) (k + 1) f fd ps sp := by
  obtain ⟨_, _, _, _, _, _, cdv, _, _, rfl, lk, hcd⟩ := F.ex
  exact fn_of lk hcd S ln fun A st2 s H vs Q E hr h => hb cdv A st2 s H vs Q E hr h
end
/-- a class of errors, by its name -/
structure ExB (K : PySem.W.Frag) (mg : Str → Option Value) (x : Str) (C : Addr) : Prop where
  g : mg x = some (.ref C)
  kp : PySem.W.keepIn K (.ref C) = true
/-- one under ValueError, without an own __init__ -/
structure Exn (K : PySem.W.Frag) (mg : Str → Option Value) (x : Str) (C : Addr) : Prop extends ExB K mg x C where
  xi : PySem.W.excIn K C [.type "ValueError", .type "Exception", .type "BaseException", .type "object"] "ValueError.__new__" = true
  sb : PySem.W.subIn K (.ref C) (.type "BaseException") = some true
  ty : PySem.W.typeIn K (.ref C) = some (.type "type")
/-- isinstance of an instance of D, class by class -/
inductive KRow (K : PySem.W.Frag) (D : Addr) : List Value → List Bool → Prop
  | nil : KRow K D [] []
  | cons {c : Value} {b : Bool} {cs : List Value} {bs : List Bool} (h : PySem.W.kitOne K (.ref D) c = some b) (r : KRow K D cs bs) : KRow K D (c :: cs) (b :: bs)
theorem KRow.get {K : PySem.W.Frag} {D : Addr} {cs : List Value} {bs : List Bool} (r : KRow K D cs bs) : ∀ (i : Nat) (c : Value), cs[i]? = some c → PySem.W.kitOne K (.ref D) c = some (bs.getD i false) := by
  induction r with
  | nil => intro i c e; simp at e
  | cons h _ ih =>
    intro i c e
    cases i with
    | zero =>
      cases e
      exact h
    | succ i => exact ih i c e
theorem Exn.pmk {X : Cx} {x m : Str} {C : Addr} {j : Nat} {p p2 pos : Pos} (e : Exn X.K X.mg x C) (hg : Gl X x) (hdb : (x == ("__debug__" : Str)) = false := by decide) : L2N.PMk X (.Call (.Name x p) [.Constant (.str m) j p2] [] pos) (fun _ H Q => Q (.ref C) none H) :=
  L2N.pmk_own PySem.F.excBase_ValueError e.xi e.g e.kp (raises_own e.sb e.ty) hg hdb
section
variable {K : PySem.W.Frag} {X : Cx} {H H' Hd Hd' Hn H1 H2 Hm : Hp} {σ : L2.St} {ta tb tc te tx tl to : TE} {d : PyData} {ds es : List PyData} {tr : TA} {i j j2 n : Nat}
def rJo (K : PySem.W.Frag) : V → List V → Hp → VK → Prop := fun x xs H Q => ∃ a p, ∃ ys : List Str, x = .str a ∧ xs = [.ref p] ∧ (SqL K H p (ys.map V.str) ∨ SqT K H p (ys.map V.str)) ∧ (ys.map (·.length)).sum + ys.length * a.length ≤ 16777216 ∧ Q (.str (Txt.join a ys)) H
theorem pe_jo {o e : Expr} {apos pos : Pos} (ho : PE X o to) (he : PE X e te) (hs : starEach [e] X.env = [(false, eval e X.env)] := by rfl) (hbase : attributeBase o "join" X.env (eval o X.env) = eval o X.env := by rfl) (hline : (apos.endLine == pos.line) = true := by rfl) :
    PE X (.Call (.Attribute o "join" apos) [e] [] pos) (tM1 (rJo X.K) to te) := pe_join ho he hs hbase hline
theorem dpa_strs_inv : ∀ {ns : List Str} {vs : List V}, DpAll K H vs (ns.map PyData.str) → vs = ns.map V.str
  | [], _, h => by cases h; rfl
  | n :: ns, _, h => by
    cases h with
    | cons a b =>
      cases a
      rw [dpa_strs_inv b]
      rfl
theorem ev_jo {a : Str} {ys : List Str} (ho : Ev to σ Hd (.str a)) (h : EvD K te σ Hd (.list (ys.map .str))) (hl : (ys.map (·.length)).sum + ys.length * a.length ≤ 16777216) : Ev (tM1 (rJo K) to te) σ Hd (.str (Txt.join a ys)) := fun H s Q q =>
  ho H s _ fun H1 e1 => ⟨⟨a, rfl⟩, h H1 (s.trans e1) _ fun v H2 Hn g hd => by
    cases hd with
    | @lst p xs ds hs hall =>
      have e := dpa_strs_inv hall
      subst e
      exact ⟨a, p, ys, rfl, rfl, .inl (ex_l g.sub hs), hl, q H2 (e1.trans g.ex)⟩⟩
end
end Cot
set_option Elab.async false
set_option linter.all false
set_option maxRecDepth 100000
set_option maxHeartbeats 4000000
namespace Cot
open PySem PySem.Spec PyProof.Rows L2 Evl
/-- an answer by R, or an error of a class by Rx -/
def spX (K : PySem.W.Frag) (R : List PyData → PyData → Prop) (Rx : List PyData → Addr → Prop) : Sp := fun vs H Q E => ∃ Hd ds, Ex Hd H ∧ DpAll K Hd vs ds ∧
  ((∃ d, R ds d ∧ ∀ v H2 Hn, Gr Hd H Hn H2 → Dp K Hn v d → Q v H2) ∨ ∃ C, Rx ds C ∧ ∀ H2, Ex H H2 → E (.ref C) none H2)
section
variable {K : PySem.W.Frag} {H Hd : Hp} {σ : L2.St} {tr : TA} {D : Ends} {tz : TS} {ds : List PyData} {d : PyData} {C : Addr} {E : XK} {R : List PyData → PyData → Prop} {Rx : List PyData → Addr → Prop} {Q : VK} {dv : List V} {dd : List PyData}
theorem tx_ok (s : Ex Hd H) (h : EvDA K tr σ Hd ds) (hv : ∀ H, DpAll K H dv dd) (hr : R (ds ++ dd) d) (k : ∀ v H2 Hn, Gr Hd H Hn H2 → Dp K Hn v d → Q v H2) : tCall (spX K R Rx) dv E tr σ H Q :=
  h H s _ fun vs H2 Hn g hd => ⟨Hn, ds ++ dd, g.sub, dpa_app hd (hv Hn), .inl ⟨d, hr, fun v H3 Hm g3 hv => k v H3 Hm (g.trans g3) hv⟩⟩
theorem tx_no (s : Ex Hd H) (h : EvDA K tr σ Hd ds) (hv : ∀ H, DpAll K H dv dd) (hr : Rx (ds ++ dd) C) (k : ∀ H2, Ex H H2 → E (.ref C) none H2) : tCall (spX K R Rx) dv E tr σ H Q :=
  h H s _ fun vs H2 Hn g hd => ⟨Hn, ds ++ dd, g.sub, dpa_app hd (hv Hn), .inr ⟨C, hr, fun H3 e3 => k H3 (g.ex.trans e3)⟩⟩
theorem go_dropOk (s : Ex Hd H) (h : EvDA K tr σ Hd ds) (hr : R ds d) (k : ∀ v H2 Hn, Gr Hd H Hn H2 → Dp K Hn v d → Go tz D σ H2) : Go (tSeq (tDrop (tCall (spX K R Rx) [] E tr)) tz) D σ H := fun H1 e1 =>
  tx_ok (s.trans e1) h (fun _ => .nil) (by rw [List.append_nil]; exact hr) fun v H2 Hn g hd => k v H2 Hn (g.pre e1) hd H2 (Ex.refl _)
theorem go_dropNo (s : Ex Hd H) (h : EvDA K tr σ Hd ds) (hr : Rx ds C) (k : ∀ H2, Ex H H2 → E (.ref C) none H2) : Go (tSeq (tDrop (tCall (spX K R Rx) [] E tr)) tz) D σ H := fun H1 e1 =>
  tx_no (s.trans e1) h (fun _ => .nil) (by rw [List.append_nil]; exact hr) fun H2 e2 => k H2 (e1.trans e2)
theorem go_raise (k : ∀ H2, Ex H H2 → E (.ref C) none H2) : Go (tSeq (fun _ σ H => (fun _ H1 Q1 => Q1 (Value.ref C) none H1 : L2.St → Hp → XK → Prop) σ H fun cls d H1 => E cls d H1) tz) D σ H := fun H1 e1 => k H1 e1
end
end Cot
set_option Elab.async false
set_option linter.all false
set_option maxRecDepth 100000
set_option maxHeartbeats 4000000
namespace Cot
open PySem PySem.Spec PyProof.Rows L2 Evl LamX
def hp0 : Hp := fun _ => none
theorem ex0 {H : Hp} : Ex hp0 H := fun _ _ h => nomatch h
section
variable {K : PySem.W.Frag} {b : Bid} {l : Addr} {H H1 H2 Hd Hn : Hp} {Tt : List (Addr × Str)} {xs : List V} {o : HO}
theorem tabs_but (hl : H l = some (.lst xs)) (k : ∀ a o, a ≠ l → H a = some o → H2 a = some o) (t : Tabs Tt H) : Tabs Tt H2 := fun p hp => by
  obtain ⟨ps, h1, h2, h3⟩ := t p hp
  refine ⟨ps, k _ _ (fun z => ?_) h1, h2, fun pos cv hc => ?_⟩
  · rw [z, hl] at h1
    cases h1
  · obtain ⟨c, e, hcd⟩ := h3 pos cv hc
    refine ⟨c, e, k _ _ (fun z => ?_) hcd⟩
    rw [z, hl] at hcd
    unfold CodeO at hcd
    cases hcd
theorem tabs_box (t : Tabs Tt H) (B : Bx H b) (g : GrB b Hd H Hn H2) : Tabs Tt H2 := by
  obtain ⟨cells, xs, h1, _⟩ := B
  exact tabs_but h1 (fun a o n h => g.exb a o n h) t
end
section
variable {K : PySem.W.Frag} {H : Hp} {σ : L2.St} {ta te : TE} {tr : TA} {D : Ends} {tu tz : TS} {j : Nat} {m : Int}
theorem go_forN (h : EvA tr σ H [.int m]) (hm : -100000 ≤ m ∧ m ≤ 100000) (Pv : Nat → L2.St → Hp → Prop) (h0 : ∀ H', Ex H H' → Pv 0 σ H') (hs : ∀ i σ' H', i < m.toNat → Pv i σ' H' → Go tu { D with nx := Pv (i + 1), ct := Pv (i + 1), bk := tz D } (σ'.set j (some (.int (i : Int)))) H')
    (hd : ∀ σ' H', Pv m.toNat σ' H' → Go tz D σ' H') : Go (tSeq (tFor (iRng1 tr) (gName j) tu) tz) D σ H := fun H1 e1 =>
  h H1 e1 _ fun H2 e2 => by
    refine ⟨m, rfl, by omega, by omega, for_it (walk_range (lo := 0) (n := m.toNat)) Pv (h0 H2 (e1.trans e2)) (fun _ _ _ _ _ => trivial) (fun i x σ' H' H'' hi q y => ?_) (fun σ' H' q => hd σ' H' q H' (Ex.refl _))⟩
    obtain ⟨rfl, rfl⟩ := y
    have e0 : (0 : Int) + (i : Int) = (i : Int) := Int.zero_add _
    show tu _ (σ'.set j (some (.int ((0 : Int) + (i : Int))))) _
    rw [e0]
    exact hs i σ' _ hi q _ (Ex.refl _)
end
end Cot
set_option Elab.async false
set_option linter.all false
set_option maxRecDepth 100000
set_option maxHeartbeats 4000000
namespace Cot
open PySem PySem.Spec PyProof.Rows L2 Evl LamX
def noT (H : Hp) : Hp := fun a => match H a with
  | some (.tbl _) => none
  | o => o
section
variable {K : PySem.W.Frag} {H H2 Hd : Hp} {a : Addr} {o : HO} {xs : List V}
theorem noT_some (h : noT H a = some o) : H a = some o ∧ ∀ ps, o ≠ .tbl ps := by
  unfold noT at h
  split at h
  · cases h
  · rename_i hn
    refine ⟨h, fun ps z => ?_⟩
    subst z
    exact hn _ h
theorem noT_of (h : H a = some o) (n : ∀ ps, o ≠ .tbl ps) : noT H a = some o := by
  unfold noT
  split
  · rename_i ps hp
    rw [h] at hp
    exact absurd (Option.some.inj hp) (n ps)
  · exact h
theorem noT_none (h : H a = none) : noT H a = none := by
  cases e : noT H a with
  | none => rfl
  | some o =>
    have := (noT_some e).1
    rw [h] at this
    cases this
theorem noT_ex : Ex (noT H) H := fun a o h => (noT_some h).1
theorem noT_l (h : SqL K H a xs) : SqL K (noT H) a xs := by
  rcases h with (h | ⟨o, h⟩) | h
  · exact .inl (.inl (noT_of h fun ps z => by cases z))
  · exact .inl (.inr ⟨o, noT_of h fun ps z => by cases z⟩)
  · exact .inr h
theorem noT_t (h : SqT K H a xs) : SqT K (noT H) a xs := by
  rcases h with (h | ⟨o, h⟩) | h
  · exact .inl (.inl (noT_of h fun ps z => by cases z))
  · exact .inl (.inr ⟨o, noT_of h fun ps z => by cases z⟩)
  · exact .inr h
mutual
theorem dp_noT : ∀ (d : PyData) {v : V}, Dp K H v d → Dp K (noT H) v d
  | .none, _, h => by cases h; exact .non
  | .bool b, _, h => by cases h; exact .bl b
  | .int i, _, h => by cases h; exact .int i
  | .str x, _, h => by cases h; exact .str x
  | .list ds, _, h => by
    cases h with
    | lst hs ha => exact .lst (noT_l hs) (dpa_noT ds ha)
  | .tuple ds, _, h => by
    cases h with
    | tup hs ha => exact .tup (noT_t hs) (dpa_noT ds ha)
  | .dict _, _, h => by cases h
theorem dpa_noT : ∀ (ds : List PyData) {vs : List V}, DpAll K H vs ds → DpAll K (noT H) vs ds
  | [], _, h => by cases h; exact .nil
  | d :: ds, _, h => by
    cases h with
    | cons h1 h2 => exact .cons (dp_noT d h1) (dpa_noT ds h2)
end
end
end Cot
set_option Elab.async false
set_option linter.all false
set_option maxRecDepth 100000
set_option maxHeartbeats 4000000
namespace Cot
open PySem PySem.Spec PyProof.Rows L2 Evl
/-- the key, the place of its tuple, the value -/
abbrev Dkv := List (List Int × Addr × V)
def valD (m : Dkv) (k : List Int) : Option V := (m.find? fun e => decide (e.1 = k)).map fun e => e.2.2
def putD (m : Dkv) (k : List Int) (b : Addr) (v : V) : Dkv := if (valD m k).isSome then m.map (fun e => if e.1 = k then (e.1, e.2.1, v) else e) else m ++ [(k, b, v)]
abbrev DRel : Dkv → List (List Int × Addr × Value) → Prop := Paired fun p q => p.1 = q.1 ∧ p.2.1 = q.2.1 ∧ RelV p.2.2 q.2.2
def DicP (P : Program) (w : World) (h : Heap) (a : Addr) (m : Dkv) : Prop := m.length ≤ sizeLine ∧ (a == sysModules) = false ∧ ∃ xs : List (List Int × Addr × Value), DRel m xs ∧ (xs.map (·.1)).Nodup ∧
  ∃ o es ep, h.get? a = some o ∧ o.ExactDict ∧ o.data = .dict es ep ∧ es.toList = xs.map (entryOfKey (TK P w))
/-- the dict at a -/
def DicO (P : Program) (w : World) (a : Addr) (m : Dkv) : HO := .ext fun h => DicP P w h a m
def KeysAt (K : PySem.W.Frag) (H : Hp) (m : Dkv) : Prop := ∀ e ∈ m, SqT K H e.2.1 (e.1.map V.int)
theorem KeysAt.mono {K : PySem.W.Frag} {H H' : Hp} {m : Dkv} (e : Ex H H') (k : KeysAt K H m) : KeysAt K H' m := fun x hx => ex_t e (k x hx)
theorem KeysAt.put {K : PySem.W.Frag} {H : Hp} {m : Dkv} {k : List Int} {b : Addr} {v : V} (h : KeysAt K H m) (hb : SqT K H b (k.map V.int)) : KeysAt K H (putD m k b v) := by
  intro e he
  unfold putD at he
  split at he
  · obtain ⟨e0, h0, rfl⟩ := List.mem_map.mp he
    split
    · exact h e0 h0
    · exact h e0 h0
  · rcases List.mem_append.mp he with he | he
    · exact h e he
    · rcases List.mem_cons.mp he with rfl | he
      · exact hb
      · cases he
def DiAt (K : PySem.W.Frag) (P : Program) (w : World) (H : Hp) (a : Addr) (m : Dkv) : Prop := H a = some (DicO P w a m) ∧ KeysAt K H m
/-- the dict at a while a loop walks it: its object stays -/
def DicF (P : Program) (w : World) (a : Addr) (m : Dkv) (o : Obj) : HO := .ext fun h => h.get? a = some o ∧ DicP P w h a m
/-- a dict that can be read -/
def DiR (K : PySem.W.Frag) (P : Program) (w : World) (H : Hp) (a : Addr) (m : Dkv) : Prop := (H a = some (DicO P w a m) ∨ ∃ o, H a = some (DicF P w a m o)) ∧ KeysAt K H m
theorem DiR.mono {K : PySem.W.Frag} {P : Program} {w : World} {H H' : Hp} {a : Addr} {m : Dkv} (e : Ex H H') (d : DiR K P w H a m) : DiR K P w H' a m := ⟨d.1.elim (fun h => .inl (e _ _ h)) fun ⟨o, h⟩ => .inr ⟨o, e _ _ h⟩, d.2.mono e⟩
theorem DiAt.mono {K : PySem.W.Frag} {P : Program} {w : World} {H H' : Hp} {a : Addr} {m : Dkv} (e : Ex H H') (d : DiAt K P w H a m) : DiAt K P w H' a m := ⟨e _ _ d.1, d.2.mono e⟩
end Cot
namespace Cot
open PySem L2 Evl
end Cot
namespace Cot
open PySem L2 Evl
end Cot
set_option Elab.async false
set_option linter.all false
set_option maxRecDepth 100000
set_option maxHeartbeats 4000000
namespace Cot
open PySem PySem.Spec PyProof.Rows L2 Evl
end Cot
namespace Cot
open PySem L2 Evl
def del (H : Hp) (l : Addr) : Hp := fun a => if a = l then none else H a
theorem del_same {H : Hp} {l : Addr} : del H l l = none := by unfold del; rw [if_pos rfl]
theorem del_ne {H : Hp} {l a : Addr} (h : a ≠ l) : del H l a = H a := by unfold del; rw [if_neg h]
theorem ex_del {H : Hp} {l : Addr} : Ex (del H l) H := fun a o h => by
  by_cases e : a = l
  · rw [e, del_same] at h; cases h
  · rw [del_ne e] at h; exact h
section
variable {K : PySem.W.Frag} {b : Bid} {H H' Hd Hd' Hn H1 H2 : Hp} {σ : L2.St} {ta td te tl th : TE} {t : TT} {tr : TA} {D : Ends} {tz : TS} {l : Addr} {o : HO} {v : V} {xs : List V} {d : PyData} {ds es : List PyData} {i : Nat} {P : PyData → Prop} {Ps : List PyData → Prop}
theorem Gr.del (g : Gr (upd Hd l o) H Hn H2) (hl : Hd l = none) : Gr Hd H (del Hn l) H2 :=
  ⟨g.ex, fun a u ha => by
    have n : a ≠ l := fun e => by rw [e, hl] at ha; cases ha
    rw [del_ne n]
    exact g.dx a u (by rw [upd_ne n]; exact ha), ex_del.trans g.sub, fun a u ha hd => by
    by_cases e : a = l
    · rw [e]; exact del_same
    · rw [del_ne e]
      exact g.fr a u ha (by rw [upd_ne e]; exact hd)⟩
theorem GrB.del (g : GrB b (upd Hd l o) H Hn H2) (hl : Hd l = none) : GrB b Hd H (del Hn l) H2 :=
  ⟨g.exb, fun a u ha => by
    have n : a ≠ l := fun e => by rw [e, hl] at ha; cases ha
    rw [del_ne n]
    exact g.dx a u (by rw [upd_ne n]; exact ha), ex_del.trans g.sub, fun a u ha hd => by
    by_cases e : a = l
    · rw [e]; exact del_same
    · rw [del_ne e]
      exact g.fr a u ha (by rw [upd_ne e]; exact hd), g.bx⟩
theorem ed_if {c : Bool} (h : EvT t σ Hd c) (h1 : c = true → EvD K ta σ Hd d) (h2 : c = false → EvD K te σ Hd d) : EvD K (tIf t ta te) σ Hd d := fun H s Q q => h H s _ fun H2 e2 => by
  cases c with
  | true => exact h1 rfl H2 (s.trans e2) Q fun v H3 Hn g hv => q v H3 Hn (g.pre e2) hv
  | false => exact h2 rfl H2 (s.trans e2) Q fun v H3 Hn g hv => q v H3 Hn (g.pre e2) hv
end
end Cot
namespace Cot
open PySem L2 Evl
/-- a def that is handed data and tells a scalar -/
def spD (K : PySem.W.Frag) (R : List PyData → V → Prop) : Sp := fun vs H Q _ => ∃ ds v, DpAll K H vs ds ∧ R ds v ∧ ∀ H2, Ex H H2 → Q v H2
section
variable {K : PySem.W.Frag} {Hd : Hp} {σ : L2.St} {tr : TA} {ds : List PyData} {v : V} {E : XK} {R : List PyData → V → Prop}
theorem ev_callD (h : EvDA K tr σ Hd ds) (hr : R ds v) : Ev (tCall (spD K R) [] E tr) σ Hd v := fun H s Q q =>
  h H s _ fun vs H2 Hn g hd => ⟨ds, v, by rw [List.append_nil]; exact dpa_mono g.sub _ hd, hr, fun H3 e3 => q H3 (g.ex.trans e3)⟩
end
end Cot
set_option Elab.async false
set_option linter.all false
set_option maxRecDepth 100000
set_option maxHeartbeats 4000000
namespace Cot
open PySem PySem.Spec PyProof.Rows L2 Evl
section
variable {K : PySem.W.Frag} {l : Addr} {H H' Hd Hd' Hn H1 H2 Hm Hg : Hp} {σ : L2.St} {ta tb te : TE} {tr tk : TA} {D : Ends} {tz : TS} {d : PyData} {ds es : List PyData} {xs : List V}
/-- a list that grows: it is no data yet, its things are -/
def LsAt (K : PySem.W.Frag) (Hg H' : Hp) (p : Addr) (ds : List PyData) : Prop := Hg p = none ∧ ∃ vs, H' p = some (.lst vs) ∧ DpAll K Hg vs ds
theorem LsAt.ext (h : LsAt K Hg H' l ds) (e : Ex H' H2) : LsAt K Hg H2 l ds := by
  obtain ⟨h1, vs, h2, h3⟩ := h
  exact ⟨h1, vs, e _ _ h2, h3⟩
/-- a list of places that are no data yet -/
def RfAt (Hg H' : Hp) (p : Addr) (xs : List V) : Prop := Hg p = none ∧ H' p = some (.lst xs)
theorem RfAt.ext (h : RfAt Hg H' l xs) (e : Ex H' H2) : RfAt Hg H2 l xs := ⟨h.1, e _ _ h.2⟩
/-- it is data from here on -/
theorem LsAt.add (h : LsAt K Hg H' l ds) (s : Ex Hg H') : ∃ Hn, Ex Hg Hn ∧ Ex Hn H' ∧ Dp K Hn (.ref l) (.list ds) ∧ ∀ q, q ≠ l → Hg q = none → Hn q = none := by
  obtain ⟨h1, vs, h2, h3⟩ := h
  exact ⟨upd Hg l (.lst vs), Ex.new h1, ex_add s h2, .lst (sq_of upd_same) (dpa_mono (Ex.new h1) _ h3), fun q n hq => by rw [upd_ne n]; exact hq⟩
theorem RfAt.add (h : RfAt Hg H' l xs) (s : Ex Hg H') (hd : DpAll K Hg xs ds) : ∃ Hn, Ex Hg Hn ∧ Ex Hn H' ∧ Dp K Hn (.ref l) (.list ds) := ⟨upd Hg l (.lst xs), Ex.new h.1, ex_add s h.2, .lst (sq_of upd_same) (dpa_mono (Ex.new h.1) _ hd)⟩
end
theorem look_relabel {env : Env} : ∀ {names : List (Str × NameKind)} {x : Str}, names.lookup x = some .cell ∨ names.lookup x = some .free →
    (names.map fun (n, k) => if (k == NameKind.free && env.scope.kind == .function && env.kindOf n == some .cell) then (n, NameKind.cell) else (n, k)).lookup x = some .cell ∨
    (names.map fun (n, k) => if (k == NameKind.free && env.scope.kind == .function && env.kindOf n == some .cell) then (n, NameKind.cell) else (n, k)).lookup x = some .free
  | [], _, h => by simp at h
  | (n, k) :: r, x, h => by
    have ih := look_relabel (env := env) (names := r) (x := x)
    rw [List.map_cons]
    generalize List.map (fun (x : Str × NameKind) => match x with | (n, k) => if (k == NameKind.free && env.scope.kind == ScopeKind.function && env.kindOf n == some NameKind.cell) then (n, NameKind.cell) else (n, k)) r = r' at ih ⊢
    dsimp only
    by_cases hc : (k == NameKind.free && env.scope.kind == .function && env.kindOf n == some .cell) = true
    · rw [if_pos hc, List.lookup_cons]
      rw [List.lookup_cons] at h
      cases hx : x == n
      · rw [hx] at h
        exact ih h
      · exact .inl rfl
    · rw [if_neg hc, List.lookup_cons]
      rw [List.lookup_cons] at h
      cases hx : x == n
      · rw [hx] at h
        exact ih h
      · rw [hx] at h
        exact h
theorem blkIn_by {N : List Str} {env : Env} {sc scope : Scope} {own : List (Str × Nat)} (h : blkC N sc scope own = true) : BlkOk N (relabel sc env) scope own := by
  have b := blkOk_by h
  exact ⟨b.kind, b.uniq, b.ix, fun y hy e => look_relabel (b.free y hy e), b.own⟩
end Cot
set_option Elab.async false
set_option linter.all false
set_option maxRecDepth 100000
set_option maxHeartbeats 4000000
namespace Cot
open PySem PySem.Spec PyProof.Rows L2 Evl
section
variable {K : PySem.W.Frag} {a p : Addr} {ps : List Addr} {rs : List (List Int)} {r ns : List Int} {H H' Hd Hn H1 H2 : Hp} {σ : L2.St} {ta tb te tl : TE} {tlo thi : TO} {tr tk : TA} {D : Ends} {tz : TS} {d : PyData} {ds es : List PyData} {i j : Nat} {lo hi : Int}
/-- a list of lists of ints, each its own -/
structure LL (H : Hp) (a : Addr) (ps : List Addr) (rs : List (List Int)) : Prop where
  top : H a = some (.lst (ps.map .ref))
  len : ps.length = rs.length
  nd : ps.Nodup
  out : a ∉ ps
  row : ∀ (i : Nat) (p : Addr) (r : List Int), ps[i]? = some p → rs[i]? = some r → H p = some (.lst (r.map .int))
theorem LL.ext (h : LL H a ps rs) (e : Ex H H2) : LL H2 a ps rs := ⟨e _ _ h.top, h.len, h.nd, h.out, fun i p r h1 h2 => e _ _ (h.row i p r h1 h2)⟩
theorem LL.put (h : LL H a ps rs) (hp : ps[i]? = some p) (r' : List Int) : LL (upd H p (.lst (r'.map .int))) a ps (rs.set i r') := by
  have hm := List.mem_of_getElem? hp
  refine ⟨by rw [upd_ne (show a ≠ p from fun e => h.out (by rw [e]; exact hm))]; exact h.top, by rw [List.length_set]; exact h.len, h.nd, h.out, fun k q r h1 h2 => ?_⟩
  by_cases e : k = i
  · subst e
    rw [h1] at hp
    cases hp
    have hk : k < rs.length := by
      have := List.getElem?_eq_some_iff.mp h1
      rw [← h.len]
      exact this.1
    rw [List.getElem?_set_self hk] at h2
    cases h2
    exact upd_same
  · rw [List.getElem?_set_ne (fun e2 => e e2.symm)] at h2
    have hne : q ≠ p := by
      intro e2
      subst e2
      have a1 := List.getElem?_eq_some_iff.mp h1
      have a2 := List.getElem?_eq_some_iff.mp hp
      exact e ((List.getElem_inj h.nd).mp (a1.2.trans a2.2.symm))
    rw [upd_ne hne]
    exact h.row k q r h1 h2
theorem ll_data : ∀ {ps : List Addr} {rs : List (List Int)}, ps.length = rs.length → (∀ (i : Nat) (p : Addr) (r : List Int), ps[i]? = some p → rs[i]? = some r → H p = some (.lst (r.map .int))) → DpAll K H (ps.map .ref) (rs.map fun r => .list (r.map .int))
  | [], [], _, _ => .nil
  | [], _ :: _, h, _ => by cases h
  | _ :: _, [], h, _ => by cases h
  | p :: ps, r :: rs, h, k => .cons (.lst (sq_of (k 0 p r rfl rfl)) (dpa_ints r)) (ll_data (by simpa using h) fun i p r h1 h2 => k (i + 1) p r h1 h2)
theorem LL.data (h : LL H a ps rs) (s : Ex Hd H) (na : Hd a = none) (np : ∀ p ∈ ps, Hd p = none) : ∃ Hn, Ex Hd Hn ∧ Ex Hn H ∧ Dp K Hn (.ref a) (.list (rs.map fun r => .list (r.map .int))) ∧ ∀ q, q ≠ a → q ∉ ps → Hn q = Hd q := by
  refine ⟨fun x => if x = a ∨ x ∈ ps then H x else Hd x, fun x o hx => ?_, fun x o hx => ?_, .lst (xs := ps.map .ref) (sq_of ?_) (ll_data h.len fun i p r h1 h2 => ?_), fun q n m => if_neg (fun h => h.elim n m)⟩
  · show (if x = a ∨ x ∈ ps then H x else Hd x) = some o
    split
    · exact s x o hx
    · exact hx
  · have hx' : (if x = a ∨ x ∈ ps then H x else Hd x) = some o := hx
    split at hx'
    · exact hx'
    · exact s x o hx'
  · show (if a = a ∨ a ∈ ps then H a else Hd a) = _
    rw [if_pos (.inl rfl)]
    exact h.top
  · show (if p = a ∨ p ∈ ps then H p else Hd p) = _
    rw [if_pos (.inr (List.mem_of_getElem? h1))]
    exact h.row i p r h1 h2
def EvLL (te : TE) (σ : L2.St) (Hd : Hp) (rs : List (List Int)) : Prop := ∀ H, Ex Hd H → ∀ Q : VK, (∀ a ps H2, Ex H H2 → H a = none → (∀ p ∈ ps, H p = none) → LL H2 a ps rs → Q (.ref a) H2) → te σ H Q
theorem go_asgLL (s : Ex Hd H) (h : EvLL te σ Hd rs) (k : ∀ a ps H', Ex H H' → H a = none → (∀ p ∈ ps, H p = none) → LL H' a ps rs → Go tz D (σ.set i (some (.ref a))) H') : Go (tSeq (tAsg te (gName i)) tz) D σ H := fun H1 e1 =>
  h H1 (s.trans e1) _ fun a ps H2 e2 n m l => k a ps H2 (e1.trans e2) (fresh_back e1 n) (fun p hp => fresh_back e1 (m p hp)) l _ (Ex.refl _)
end
end Cot
set_option Elab.async false
set_option linter.all false
set_option maxRecDepth 100000
set_option maxHeartbeats 4000000
namespace Cot
open PySem PySem.Spec PyProof.Rows L2 Evl
/-- a mask whose runs come to every slot -/
structure Cov (m : Nat) : Prop where
  run : ∀ (h : Int) (j : Nat), j ≤ m → ∃ n, n < SetTable.turns m ∧ runI m (SetTable.bits h) n = j
  odd : m % 2 = 1
  low : m ≤ 511
theorem Cov.way {m : Nat} (c : Cov m) (h : Int) {j : Nat} (hj : j ≤ m) : ∃ k, k < 10 * SetTable.turns m ∧ L2.way m h k = j := by
  obtain ⟨n, hn, e⟩ := c.run h j hj
  obtain ⟨k, hk, e2⟩ := run_nth m (SetTable.bits h) n
  refine ⟨k, by omega, ?_⟩
  unfold L2.way
  rw [e2]
  exact e
theorem way_in (m : Nat) (h : Int) (k : Nat) : L2.way m h k ≤ m := by
  have h0 : SetTable.bits h % (m + 1) < m + 1 := Nat.mod_lt _ (Nat.succ_pos m)
  have h1 := runEnd_bd (m := m) (i := SetTable.bits h % (m + 1)) (by omega)
  have h2 : (nth m (runAt m (SetTable.bits h % (m + 1)) (SetTable.bits h)) k).j + (nth m (runAt m (SetTable.bits h % (m + 1)) (SetTable.bits h)) k).more ≤ m := nth_in k _ (by unfold runAt; dsimp only; omega)
  unfold L2.way
  omega
/-- a table in which each hash is found again -/
structure Tb (t : SetTable) (hs : List Int) : Prop where
  cov : Cov t.mask
  up : Ris t.place.toList
  dum : t.dummies = #[]
  len : t.place.size = hs.length
  low : ∀ x ∈ t.place.toList, x ≤ t.mask
  met : ∀ (i : Nat) (h : Int) (j : Nat), hs[i]? = some h → t.place.toList[i]? = some j → ∃ k, L2.way t.mask h k = j ∧ ∀ n, n < k → L2.way t.mask h n ∈ t.place.toList
variable {t : SetTable} {hs : List Int}
/-- the first free slot for a hash -/
def Free (t : SetTable) (h : Int) (n : Nat) : Prop := L2.way t.mask h n ∉ t.place.toList ∧ ∀ k, k < n → L2.way t.mask h k ∈ t.place.toList
theorem Tb.free (T : Tb t hs) (hl : hs.length ≤ t.mask) (h : Int) : ∃ n, n < 10 * SetTable.turns t.mask ∧ Free t h n := by
  obtain ⟨j, hj, hno⟩ := st_missing t.place.toList (t.mask + 1) (by rw [Array.length_toList, T.len]; omega)
  obtain ⟨k, hk, e⟩ := T.cov.way h (j := j) (by omega)
  obtain ⟨n, n1, n2, n3⟩ := st_least (p := fun k => L2.way t.mask h k ∉ t.place.toList) k (by rw [e]; exact hno)
  exact ⟨n, by omega, n2, fun k' hk' => Classical.byContradiction fun z => n3 k' hk' z⟩
theorem Tb.ahead (T : Tb t hs) {h : Int} {n i j : Nat} (f : Free t h n) (hi : hs[i]? = some h) (hj : t.place.toList[i]? = some j) : ∃ k, k < n ∧ L2.way t.mask h k = j := by
  obtain ⟨k, e, z⟩ := T.met i h j hi hj
  refine ⟨k, Classical.byContradiction fun hge => ?_, e⟩
  by_cases hk : k = n
  · exact f.1 (by rw [← hk, e]; exact List.mem_of_getElem? hj)
  · exact f.1 (z n (by omega))
/-- one more is put in at the first free slot -/
theorem Tb.more (T : Tb t hs) {h : Int} {n : Nat} (f : Free t h n) :
    ∃ p, t.put (L2.way t.mask h n) = ((t.put (L2.way t.mask h n)).1, p) ∧ p ≤ hs.length ∧ Tb (t.put (L2.way t.mask h n)).1 (hs.take p ++ h :: hs.drop p) ∧ (t.put (L2.way t.mask h n)).1.mask = t.mask ∧
      (t.put (L2.way t.mask h n)).1.led = t.led ∧ (t.put (L2.way t.mask h n)).1.plain = t.plain ∧ (t.put (L2.way t.mask h n)).1.fill = hs.length + 1 := by
  have hle := way_in t.mask h n
  generalize ej : L2.way t.mask h n = j at f hle
  obtain ⟨f1, f2⟩ := f
  rw [ej] at f1
  have cut := (below_cut T.up j).1
  have lp : t.place.toList.length = hs.length := by rw [Array.length_toList]; exact T.len
  have c1 : SetTable.below t.place j ≤ t.place.toList.length := by rw [Array.length_toList]; exact cut
  have c2 : SetTable.below t.place j ≤ hs.length := by omega
  have pl := put_place t j
  have sz : (t.put j).1.place.size = hs.length + 1 := by rw [← Array.length_toList, pl, len_ins _ c1, lp]
  have keep : ∀ x, x ∈ t.place.toList → x ∈ (t.put j).1.place.toList := fun x hx => by rw [pl]; exact mem_ins.mpr (.inr hx)
  refine ⟨SetTable.below t.place j, rfl, c2, ⟨T.cov, ?_, put_dm T.dum j, ?_, ?_, ?_⟩, rfl, rfl, rfl, ?_⟩
  · exact ris_insert T.up fun e => f1 (List.mem_of_getElem? (i := SetTable.below t.place j) (by rw [Array.getElem?_toList]; exact e))
  · rw [sz, len_ins _ c2]
  · intro x hx
    rw [pl, mem_ins] at hx
    exact hx.elim (fun e => by rw [e]; exact hle) (T.low x)
  · intro i h' j' e1 e2
    rw [pl, tins_get _ c1] at e2
    rw [tins_get hs c2] at e1
    have old : ∀ i', hs[i']? = some h' → t.place.toList[i']? = some j' → ∃ k, L2.way t.mask h' k = j' ∧ ∀ n, n < k → L2.way t.mask h' n ∈ (t.put j).1.place.toList := fun i' a b => by
      obtain ⟨k, z1, z2⟩ := T.met i' h' j' a b
      exact ⟨k, z1, fun n hn => keep _ (z2 n hn)⟩
    rcases Nat.lt_trichotomy i (SetTable.below t.place j) with c | c | c
    · rw [if_pos c] at e1 e2
      exact old i e1 e2
    · rw [if_neg (by omega), if_pos c] at e1 e2
      cases e1
      cases e2
      exact ⟨n, ej, fun k hk => keep _ (f2 k hk)⟩
    · rw [if_neg (by omega), if_neg (by omega)] at e1 e2
      exact old (i - 1) e1 e2
  · unfold SetTable.fill
    rw [sz, put_dm T.dum j]
    rfl
end Cot
set_option Elab.async false
set_option linter.all false
set_option maxRecDepth 100000
set_option maxHeartbeats 4000000
namespace Cot
open PySem PySem.Spec PyProof.Rows L2 Evl
/-- a set of tuples of ints, as its object tells it -/
structure Sets (P : Program) (w : World) (h : Heap) (a : Addr) (L : List (Addr × List Int)) (es : Array (Int × Value)) (ep : Nat) (t : SetTable) : Prop where
  ob : ∃ o, h.get? a = some o ∧ o.ExactSet ∧ o.data = .set es ep t
  row : es.toList = rowsOf P w L
  tb : Tb t (L.map fun p => thash P w p.2)
  nd : (L.map (·.2)).Nodup
  tp : ∀ p ∈ L, IsT P w h p.2 p.1
  pl : t.plain = true
  ld : w.params.followText "set-order" = true ∨ t.led = true
  rm : L.length * 5 < t.mask * 3
  msk : t.mask = 7 ∨ t.mask = 31 ∨ t.mask = 127 ∨ t.mask = 511
section
variable {P : Program} {w : World} {A : Around} {E : Value → Shared → Prop} {s : Shared} {a : Addr} {L : List (Addr × List Int)} {es : Array (Int × Value)} {ep : Nat} {t : SetTable}
theorem Sets.ent (S : Sets P w s.heap a L es ep t) {i : Nat} {p : Addr × List Int} (h : L[i]? = some p) : es[i]? = some (thash P w p.2, Value.ref p.1) := by
  rw [← Array.getElem?_toList, S.row]
  unfold rowsOf
  rw [List.getElem?_map, h]
  rfl
end
end Cot
set_option Elab.async false
set_option linter.all false
set_option maxRecDepth 100000
set_option maxHeartbeats 4000000
namespace Cot
open PySem PySem.Spec PyProof.Rows L2 Evl
section
variable {P : Program} {w : World} {A : Around} {E : Value → Shared → Prop} {s : Shared} {a : Addr} {L : List (Addr × List Int)} {es : Array (Int × Value)} {ep : Nat} {t : SetTable}
theorem Sets.keep {h h' : Heap} (S : Sets P w h a L es ep t) (ka : ∀ o, h.get? a = some o → h'.get? a = some o) (kt : ∀ p ∈ L, IsT P w h' p.2 p.1) : Sets P w h' a L es ep t := by
  obtain ⟨o, ho, r⟩ := S.ob
  exact ⟨⟨o, ka o ho, r⟩, S.row, S.tb, S.nd, kt, S.pl, S.ld, S.rm, S.msk⟩
end
end Cot
set_option Elab.async false
set_option linter.all false
set_option maxRecDepth 100000
set_option maxHeartbeats 4000000
namespace Cot
open PySem PySem.Spec PyProof.Rows L2 Evl
/-- the set at a, the places of its tuples told beside it -/
structure SetP (P : Program) (w : World) (h : Heap) (a : Addr) (L : List (Addr × List Int)) : Prop where
  big : ∃ es ep t, (∃ o, h.get? a = some o ∧ o.ExactSet ∧ o.data = .set es ep t) ∧ es.toList = rowsOf P w L ∧ Tb t (L.map fun p => thash P w p.2) ∧ t.plain = true ∧ (w.params.followText "set-order" = true ∨ t.led = true) ∧ L.length * 5 < t.mask * 3 ∧ (t.mask = 7 ∨ t.mask = 31 ∨ t.mask = 127 ∨ t.mask = 511)
  nd : (L.map (·.2)).Nodup
def SetO (P : Program) (w : World) (a : Addr) (L : List (Addr × List Int)) : HO := .ext fun h => SetP P w h a L
theorem Sets.p {P : Program} {w : World} {h : Heap} {a : Addr} {L : List (Addr × List Int)} {es : Array (Int × Value)} {ep : Nat} {t : SetTable} (S : Sets P w h a L es ep t) : SetP P w h a L :=
  ⟨⟨es, ep, t, S.ob, S.row, S.tb, S.pl, S.ld, S.rm, S.msk⟩, S.nd⟩
theorem SetP.full {P : Program} {w : World} {h : Heap} {a : Addr} {L : List (Addr × List Int)} (S : SetP P w h a L) (ht : ∀ p ∈ L, IsT P w h p.2 p.1) : ∃ es ep t, Sets P w h a L es ep t := by
  obtain ⟨es, ep, t, h1, h2, h3, h4, h5, h6, h7⟩ := S.big
  exact ⟨es, ep, t, h1, h2, h3, S.nd, ht, h4, h5, h6, h7⟩
section
variable (K : PySem.W.Frag) (P : Program) (w : World)
def rSetL : List V → Hp → VK → Prop := fun xs H Q => ∃ (l : Addr) (ks : List (Addr × List Int)), xs = [V.ref l] ∧ SqL K H l (ks.map fun p => V.ref p.1) ∧ (∀ p ∈ ks, SqT K H p.1 (p.2.map V.int)) ∧ ks.length < 200 ∧
  ∀ a L, H a = none → (∀ p ∈ L, p ∈ ks) → (∀ p ∈ ks, p.2 ∈ L.map (·.2)) → Q (.ref a) (upd H a (SetO P w a L))
end
end Cot
set_option Elab.async false
set_option linter.all false
set_option maxRecDepth 100000
set_option maxHeartbeats 4000000
namespace Cot
open PySem PySem.Spec PyProof.Rows L2 Evl
abbrev dc1 (kx vx t0 i0 : Expr) (fs0 : List Expr) (sc : Scope) (pos : Pos) : Expr := .DictComp kx vx [⟨t0, i0, fs0, 0⟩] sc pos
abbrev dc2 (kx vx t0 i0 : Expr) (fs0 : List Expr) (t1 i1 : Expr) (fs1 : List Expr) (sc : Scope) (pos : Pos) : Expr := .DictComp kx vx [⟨t0, i0, fs0, 0⟩, ⟨t1, i1, fs1, 0⟩] sc pos
section
variable {prog : Program} {w : World} {A : Around} {R : Result → Shared → Prop} {s : Shared} {kx vx t0 i0 t1 i1 : Expr} {fs0 fs1 : List Expr} {sc : Scope} {pos : Pos} {it acc : Value} {env : Env} {D : Addr}
abbrev bad (prog : Program) (w : World) (A : Around) (env : Env) (R : Result → Shared → Prop) : Value → Shared → Prop := notedBy (model prog w) A env fun e s' => R (.error e) s'
end
end Cot
set_option Elab.async false
set_option linter.all false
set_option maxRecDepth 100000
set_option maxHeartbeats 4000000
namespace Cot
open PySem PySem.Spec PyProof.Rows L2 Evl
section
variable (K : PySem.W.Frag) (P : Program) (w : World)
/-- a walk's turns, each ending in Nx -/
def turns (J : It) (W : Nat → Nat → Hp → Prop) (Q : Hp → Prop) (g : TG) (σ : L2.St) (vs : List Nat) (tt : TT) (body : (Hp → Prop) → L2.St → Hp → Prop) : Prop := ∀ i m H, W i m H →
  (J.stop i H ∧ Q H) ∨ (J.go i H ∧ ∃ Nx : Hp → Prop, (∀ H', Nx H' → ∃ m', m' < m ∧ W (i + 1) m' H') ∧ ∀ x H', J.yld i H x H' → g x (wipe σ vs) H' fun σ2 H2 => wipe σ2 vs = wipe σ vs ∧ tt σ2 H2 fun b H3 => if b = true then body Nx σ2 H3 else Nx H3)
end
end Cot
set_option Elab.async false
set_option linter.all false
set_option maxRecDepth 100000
set_option maxHeartbeats 4000000
namespace Cot
open PySem PySem.Spec PyProof.Rows L2 Evl
section
variable {K : PySem.W.Frag} {P : Program} {w : World} {H H' Hd Hd' Hn H1 H2 : Hp} {σ : L2.St} {te ty td : TE} {L : List (List Int × V)} {D : Ends} {tz : TS} {i : Nat} {a : Addr} {xs : List V} {qs : List (List Int)} {k : List Int}
/-- the set at a of these tuples -/
structure SiAt (K : PySem.W.Frag) (P : Program) (w : World) (Hn H : Hp) (a : Addr) (qs : List (List Int)) : Prop where
  ex : ∃ L, H a = some (SetO P w a L) ∧ (∀ p ∈ L, SqT K Hn p.1 (p.2.map V.int)) ∧ ∀ k, k ∈ L.map (·.2) ↔ k ∈ qs
theorem SiAt.mono {Hn' : Hp} (S : SiAt K P w Hn H a qs) (e1 : Ex Hn Hn') (e2 : ∀ o, H a = some o → H' a = some o) : SiAt K P w Hn' H' a qs := by
  obtain ⟨L, h1, h2, h3⟩ := S.ex
  exact ⟨L, e2 _ h1, fun p hp => ex_t e1 (h2 p hp), h3⟩
end
end Cot
set_option Elab.async false
set_option linter.all false
set_option maxRecDepth 100000
set_option maxHeartbeats 4000000
namespace Cot
open PySem PySem.Spec PyProof.Rows L2 Evl
abbrev Key2 := List Int × List Int
def firstOf (h : Heap) (v : Value) : Value × Value := match v with
  | .ref a => match h.get? a with
    | some o => match o.data with
      | .seq xs _ => (xs.getD 0 .none, xs.getD 1 .none)
      | _ => (.none, .none)
    | none => (.none, .none)
  | _ => (.none, .none)
def keyOf (h : Heap) (v : Value) : Key2 := (TS.intsOf h (firstOf h v).1, TS.intsOf h (firstOf h v).2)
/-- v is a pair of tuples of ints -/
def IsPP (P : Program) (w : World) (h : Heap) (v : Value) (k : Key2) : Prop := ∃ a o x y n, v = .ref a ∧ h.get? a = some o ∧ o.cls = .type "tuple" ∧ o.data = .seq #[.ref x, .ref y] n ∧ IsT P w h k.1 x ∧ IsT P w h k.2 y
section
variable {P : Program} {w : World} {A : Around} {E : Value → Shared → Prop} {s : Shared} {h h' : Heap} {v u : Value} {k k' : Key2}
theorem IsPP.key (p : IsPP P w h v k) : keyOf h v = k := by
  obtain ⟨a, o, x, y, n, rfl, ho, hc, hd, hx, hy⟩ := p
  have e : firstOf h (.ref a) = (.ref x, .ref y) := by
    unfold firstOf
    simp only [ho, hd]
    rfl
  unfold keyOf
  rw [e]
  exact Prod.ext (tupInts_of hx).ints (tupInts_of hy).ints
theorem isT_tups {k : List Int} {b : Addr} (x : IsT P w h k b) (kp : ∀ b o, h.get? b = some o → o.cls = .type "tuple" → h'.get? b = some o) : IsT P w h' k b := by
  obtain ⟨o, items, n, ho, hc, r⟩ := x
  exact ⟨o, items, n, kp b o ho hc, hc, r⟩
theorem IsPP.keeps (p : IsPP P w h v k) (kp : ∀ b o, h.get? b = some o → o.cls = .type "tuple" → h'.get? b = some o) : IsPP P w h' v k := by
  obtain ⟨a, o, x, y, n, e, ho, hc, hd, hx, hy⟩ := p
  exact ⟨a, o, x, y, n, e, kp a o ho hc, hc, hd, isT_tups hx kp, isT_tups hy kp⟩
end
end Cot
set_option Elab.async false
set_option linter.all false
set_option maxRecDepth 100000
set_option maxHeartbeats 4000000
namespace Cot
open PySem PySem.Spec PyProof.Rows L2 Evl
end Cot
set_option Elab.async false
set_option linter.all false
set_option maxRecDepth 100000
set_option maxHeartbeats 4000000
namespace Cot
open PySem PySem.Spec PyProof.Rows L2 Evl
def NbM (K : PySem.W.Frag) (P : Program) (w : World) (H0 Hd H : Hp) (a : Addr) (m : Dkv) (f : List Int → List PyData) : Prop := H a = some (DicO P w a m) ∧ H0 a = none ∧ Hd a = none ∧ KeysAt K Hd m ∧
  (∀ e ∈ m, ∃ p xs, e.2.2 = V.ref p ∧ p ≠ a ∧ H0 p = none ∧ Hd p = none ∧ H p = some (.lst xs) ∧ DpAll K Hd xs (f e.1)) ∧ ∀ e ∈ m, ∀ e' ∈ m, (e.2.2 = e'.2.2 ↔ e.1 = e'.1)
def NbAt (K : PySem.W.Frag) (P : Program) (w : World) (H0 Hd H : Hp) (a : Addr) (ks : List (List Int)) (f : List Int → List PyData) : Prop := ∃ m, NbM K P w H0 Hd H a m f ∧ m.map (·.1) = ks
section
variable {K : PySem.W.Frag} {P : Program} {w : World} {H H' Hd Hd' Hn H0 H1 H2 Hd0 : Hp} {σ : L2.St} {te tk tv td tx : TE} {tr : TA} {tt : TT} {n : Nat} {wi : TI} {g : TG} {ks : List (List Int)} {f : List Int → List PyData} {ds : List PyData} {D : Ends} {tz : TS} {i : Nat} {a : Addr} {m : Dkv}
theorem NbM.mono (N : NbM K P w H0 Hd H a m f) (h0 : Ex H1 H0) (g : Gr Hd H Hn H2) : NbM K P w H1 Hn H2 a m f := by
  obtain ⟨h1, h2, h3, h4, h5, h6⟩ := N
  refine ⟨g.ex _ _ h1, fresh_back h0 h2, g.fr _ _ h1 h3, h4.mono g.dx, fun e he => ?_, h6⟩
  obtain ⟨p, xs, e1, e2, e3, e4, e5, e6⟩ := h5 e he
  exact ⟨p, xs, e1, e2, fresh_back h0 e3, g.fr _ _ e5 e4, g.ex _ _ e5, dpa_mono g.dx _ e6⟩
theorem NbAt.mono (N : NbAt K P w H0 Hd H a ks f) (h0 : Ex H1 H0) (g : Gr Hd H Hn H2) : NbAt K P w H1 Hn H2 a ks f := by
  obtain ⟨m, h, e⟩ := N
  exact ⟨m, h.mono h0 g, e⟩
end
end Cot
set_option Elab.async false
set_option linter.all false
set_option maxRecDepth 100000
set_option maxHeartbeats 4000000
namespace Cot
open PySem PySem.Spec PyProof.Rows L2 Evl
theorem u65 {k : Nat} {A : Around} (r : Room k A) : A.units + 65 < cLine := by have := r.un; omega
section
variable {K : PySem.W.Frag} {P : Program} {w : World} {b : Bid} {H H' Hd Hd' Hn H0 H1 H2 : Hp} {σ : L2.St} {te ta tb tk td : TE} {tr : TA} {ks : List (List Int)} {f : List Int → List PyData} {ds es : List PyData} {d : PyData} {a : Addr} {k : List Int} {Ps Ps' : List PyData → Prop} {p : Int → Prop} {i : Nat} {D : Ends} {tz : TS}
theorem ev_inD (ha : EvD K ta σ Hd d) (hb : EvD K tb σ Hd (.list ds)) (s1 : SeqAt.shaped d = true) (s2 : SeqAt.shaped (.list ds) = true) : Ev (tOp (rInD K) ta tb) σ Hd (.bl (ds.any fun z => PyData.eqv z d)) := fun H s Q q =>
  ha H s _ fun v H2 Hn g hd => hb.mono g.dx H2 g.sub _ fun v2 H3 Hm g3 hd3 => ⟨d, ds, dp_mono (g3.dx.trans g3.sub) _ hd, dp_mono g3.sub _ hd3, s1, s2, q H3 (g.ex.trans g3.ex)⟩
/-- a new list, made while it is drawn -/
def EvBN (K : PySem.W.Frag) (b : Bid) (te : TE) (σ : L2.St) (Hd : Hp) (P : List PyData → Prop) : Prop := Hd b.b = none → ∀ H, Ex Hd H → Bx H b → ∀ Q : VK, (∀ p xs H2 Hn ds, GrB b Hd H Hn H2 → H p = none → Hn p = none → H2 p = some (.lst xs) → DpAll K Hn xs ds → P ds → Q (.ref p) H2) → te σ H Q
theorem EvBN.imp (h : EvBN K b te σ Hd Ps) (k : ∀ ds, Ps ds → Ps' ds) : EvBN K b te σ Hd Ps' := fun hb H s B Q q => h hb H s B Q fun p xs H2 Hn ds g h1 h2 h3 h4 h5 => q p xs H2 Hn ds g h1 h2 h3 h4 (k ds h5)
theorem EvBN.mono (e : Ex Hd Hd') (h : EvBN K b te σ Hd Ps) : EvBN K b te σ Hd' Ps := fun hb H s B Q q => h (fresh_back e hb) H (e.trans s) B Q fun p xs H2 Hn ds g h1 h2 h3 h4 h5 =>
  q p xs H2 _ ds (g.up e s hb).1 h1 (by
    unfold un
    rw [fresh_back s h1]
    exact h2) h3 (dpa_mono (g.up e s hb).2 _ h4) h5
theorem bn_lst (h : EvBA K b tr σ Hd Ps) (hl : ∀ ds, Ps ds → ds.length ≤ 100000) : EvBN K b (tLst tr) σ Hd Ps := fun hb H s B Q q =>
  h hb H s B _ fun vs H1 Hn ds g hd hp => ⟨sz_of (by rw [dpa_len hd]; exact hl ds hp), fun a ha => q a vs _ Hn ds (g.post (Ex.new ha)) (g.fresh ha) (fresh_back g.sub ha) upd_same hd hp⟩
theorem eb_bn (h : EvBN K b te σ Hd Ps) : EvB K b te σ Hd (fun d => ∃ ds, d = .list ds ∧ Ps ds) := fun hb H s B Q q => h hb H s B Q fun p xs H2 Hn ds g h1 h2 h3 h4 h5 =>
  q (.ref p) H2 (upd Hn p (.lst xs)) (.list ds) (g.add h1 h2 h3) (.lst (sq_of upd_same) (dpa_mono (Ex.new h2) _ h4)) ⟨ds, rfl, h5⟩
end
end Cot
set_option Elab.async false
set_option linter.all false
set_option maxRecDepth 100000
set_option maxHeartbeats 4000000
namespace Cot
open PySem PySem.Spec PyProof.Rows L2 Evl
end Cot
set_option Elab.async false
set_option linter.all false
set_option maxRecDepth 100000
set_option maxHeartbeats 4000000
namespace Cot
open PySem PySem.Spec PyProof.Rows L2 Evl
end Cot
namespace Cot
open PySem L2 Evl RZ
end Cot
set_option Elab.async false
set_option linter.all false
set_option maxRecDepth 100000
set_option maxHeartbeats 4000000
namespace Cot
open PySem PySem.Spec PyProof.Rows L2 Evl
/-- the key k stands at b -/
def KeyM (K : PySem.W.Frag) (H : Hp) (b : Addr) (k : NestedKey) : Prop := Dp K H (.ref b) k.data ∧ k.depth ≤ 8
theorem keyM_mono {K : PySem.W.Frag} {H H' : Hp} {b : Addr} {k : NestedKey} (e : Ex H H') (h : KeyM K H b k) : KeyM K H' b k := ⟨dp_mono e _ h.1, h.2⟩
/-- the key, the place of its tuple, the value -/
abbrev Mkv := List (NestedKey × Addr × V)
def valM (m : Mkv) (k : NestedKey) : Option V := (m.find? fun e => decide (e.1 = k)).map fun e => e.2.2
def putM (m : Mkv) (k : NestedKey) (b : Addr) (v : V) : Mkv := if (valM m k).isSome then m.map (fun e => if e.1 = k then (e.1, e.2.1, v) else e) else m ++ [(k, b, v)]
abbrev MRel : Mkv → List (NestedKey × Addr × Value) → Prop := Paired fun p q => p.1 = q.1 ∧ p.2.1 = q.2.1 ∧ RelV p.2.2 q.2.2
def DicPM (P : Program) (w : World) (h : Heap) (a : Addr) (m : Mkv) : Prop := m.length ≤ sizeLine ∧ (a == sysModules) = false ∧ ∃ xs : List (NestedKey × Addr × Value), MRel m xs ∧ (xs.map (·.1)).Nodup ∧
  ∃ o es ep, h.get? a = some o ∧ o.ExactDict ∧ o.data = .dict es ep ∧ es.toList = xs.map (entryOfKey (nestedKind P w))
/-- the dict at a -/
def DicM (P : Program) (w : World) (a : Addr) (m : Mkv) : HO := .ext fun h => DicPM P w h a m
def KeysM (K : PySem.W.Frag) (H : Hp) (m : Mkv) : Prop := ∀ e ∈ m, KeyM K H e.2.1 e.1
theorem KeysM.mono {K : PySem.W.Frag} {H H' : Hp} {m : Mkv} (e : Ex H H') (k : KeysM K H m) : KeysM K H' m := fun x hx => keyM_mono e (k x hx)
theorem KeysM.put {K : PySem.W.Frag} {H : Hp} {m : Mkv} {k : NestedKey} {b : Addr} {v : V} (h : KeysM K H m) (hb : KeyM K H b k) : KeysM K H (putM m k b v) := by
  intro e he
  unfold putM at he
  split at he
  · obtain ⟨e0, h0, rfl⟩ := List.mem_map.mp he
    split
    · exact h e0 h0
    · exact h e0 h0
  · rcases List.mem_append.mp he with he | he
    · exact h e he
    · rcases List.mem_cons.mp he with rfl | he
      · exact hb
      · cases he
def MiAt (K : PySem.W.Frag) (P : Program) (w : World) (H : Hp) (a : Addr) (m : Mkv) : Prop := H a = some (DicM P w a m) ∧ KeysM K H m
/-- the dict at a while a loop walks it: its object stays -/
def DicMF (P : Program) (w : World) (a : Addr) (m : Mkv) (o : Obj) : HO := .ext fun h => h.get? a = some o ∧ DicPM P w h a m
/-- a dict that can be read -/
def MiR (K : PySem.W.Frag) (P : Program) (w : World) (H : Hp) (a : Addr) (m : Mkv) : Prop := (H a = some (DicM P w a m) ∨ ∃ o, H a = some (DicMF P w a m o)) ∧ KeysM K H m
theorem MiR.mono {K : PySem.W.Frag} {P : Program} {w : World} {H H' : Hp} {a : Addr} {m : Mkv} (e : Ex H H') (d : MiR K P w H a m) : MiR K P w H' a m := ⟨d.1.elim (fun h => .inl (e _ _ h)) fun ⟨o, h⟩ => .inr ⟨o, e _ _ h⟩, d.2.mono e⟩
theorem MiAt.mono {K : PySem.W.Frag} {P : Program} {w : World} {H H' : Hp} {a : Addr} {m : Mkv} (e : Ex H H') (d : MiAt K P w H a m) : MiAt K P w H' a m := ⟨e _ _ d.1, d.2.mono e⟩
end Cot
namespace Cot
open PySem L2 Evl
end Cot
namespace Cot
open PySem L2 Evl
end Cot
set_option Elab.async false
set_option linter.all false
set_option maxRecDepth 100000
set_option maxHeartbeats 4000000
namespace Cot
open PySem PySem.Spec PyProof.Rows L2 Evl
end Cot
namespace Cot
open PySem L2 Evl
end Cot
set_option Elab.async false
set_option linter.all false
set_option maxRecDepth 100000
set_option maxHeartbeats 4000000
namespace Cot
open PySem PySem.Spec PyProof.Rows L2 Evl
end Cot
namespace Cot
open PySem L2 Evl
end Cot
set_option Elab.async false
set_option linter.all false
set_option maxRecDepth 100000
set_option maxHeartbeats 4000000
namespace Cot
open PySem PySem.Spec PyProof.Rows L2 Evl
end Cot
namespace Cot
open PySem L2 Evl
end Cot
set_option Elab.async false
set_option linter.all false
set_option maxRecDepth 100000
set_option maxHeartbeats 4000000
namespace Cot
open PySem L2 Evl
end Cot
set_option Elab.async false
set_option linter.all false
set_option maxRecDepth 100000
set_option maxHeartbeats 4000000
namespace Cot
open PySem PySem.Spec PyProof.Rows L2 Evl RZ
abbrev lstItO (t : Addr) : Obj := { cls := .type "list_iterator", data := .fields #[.ref t, .int 0 0] }
abbrev twoO (a b : Value) : Obj := { cls := .type "tuple", data := .seq #[a, b] }
abbrev zipO (a b : Addr) : Obj := { cls := .type "zip", data := .fields #[.none, .bool false, .bool false, .ref a, .ref b] }
abbrev zb (h : Heap) (a b : Addr) : Heap := (h.push (lstItO a)).push (tupItO b)
abbrev zc (h : Heap) (a b : Addr) : Heap := (zb h a b).push (twoO (.ref h.objs.size) (.ref (h.push (lstItO a)).objs.size))
theorem sep_of {z TI TO i1 i2 a b : Addr} (D : ZipApart z TI TO i1 i2 a b) : ZipSep2 z TI TO i1 i2 [i1, a] [i2, b] :=
  ⟨D.TIz, D.TOz, D.TITO, D.TIi1, by simp, by simp [D.i1z.symm, D.l1z.symm], by simp [D.TOi1, D.l1TO.symm], D.TIi2, by simp, by simp [D.i2z.symm, D.l2z.symm], by simp [D.TOi2, D.l2TO.symm], by simp [D.i12, D.l2i1.symm], by simp [D.i12.symm, D.l1i2.symm]⟩
end Cot
set_option Elab.async false
set_option linter.all false
set_option maxRecDepth 100000
set_option maxHeartbeats 4000000
namespace Cot
open PySem L2 Evl
abbrev Ages := List (List (Option Int))
def oD : Option Int → PyData
  | none => .none
  | some n => .int n
def oV : Option Int → V
  | none => .non
  | some n => .int n
def lineD (l : List (Option Int)) : PyData := .list (l.map oD)
def agesD (A : Ages) : PyData := .list (A.map lineD)
section
variable {K : PySem.W.Frag} {a p : Addr} {ps : List Addr} {A : Ages} {r : List (Option Int)} {H H' Hd Hn H1 H2 : Hp} {σ : L2.St} {ta tb tc te tl : TE} {D : Ends} {tz : TS} {d d1 d2 : PyData} {i j : Nat} {b : Bid} {v : V}
theorem ov_dp (o : Option Int) : Dp K H (oV o) (oD o) := by
  cases o with
  | none => exact .non
  | some n => exact .int n
theorem ovs_dp : ∀ r : List (Option Int), DpAll K H (r.map oV) (r.map oD)
  | [] => .nil
  | o :: r => .cons (ov_dp o) (ovs_dp r)
/-- a list of lists of numbers and None, each its own -/
structure LO (H : Hp) (a : Addr) (ps : List Addr) (A : Ages) : Prop where
  top : H a = some (.lst (ps.map .ref))
  len : ps.length = A.length
  nd : ps.Nodup
  out : a ∉ ps
  row : ∀ (i : Nat) (p : Addr) (r : List (Option Int)), ps[i]? = some p → A[i]? = some r → H p = some (.lst (r.map oV))
theorem LO.keep (h : LO H a ps A) (ka : ∀ o, H a = some o → H2 a = some o) (kp : ∀ q ∈ ps, ∀ o, H q = some o → H2 q = some o) : LO H2 a ps A := ⟨ka _ h.top, h.len, h.nd, h.out, fun i p r h1 h2 => kp p (List.mem_of_getElem? h1) _ (h.row i p r h1 h2)⟩
theorem LO.ext (h : LO H a ps A) (e : Ex H H2) : LO H2 a ps A := h.keep (fun o => e a o) fun q _ o => e q o
theorem LO.put (h : LO H a ps A) (hp : ps[i]? = some p) (r' : List (Option Int)) : LO (upd H p (.lst (r'.map oV))) a ps (A.set i r') := by
  have hm := List.mem_of_getElem? hp
  refine ⟨by rw [upd_ne (show a ≠ p from fun e => h.out (by rw [e]; exact hm))]; exact h.top, by rw [List.length_set]; exact h.len, h.nd, h.out, fun k q r h1 h2 => ?_⟩
  have a1 := List.getElem?_eq_some_iff.mp h1
  have a2 := List.getElem?_eq_some_iff.mp hp
  by_cases e : k = i
  · subst e
    rw [h1] at hp
    cases hp
    rw [List.getElem?_set_self (by have := a1.1; have := h.len; omega)] at h2
    cases h2
    exact upd_same
  · rw [List.getElem?_set_ne (fun e2 => e e2.symm)] at h2
    have hne : q ≠ p := fun e2 => by
      subst e2
      exact e ((List.getElem_inj h.nd).mp (a1.2.trans a2.2.symm))
    rw [upd_ne hne]
    exact h.row k q r h1 h2
theorem LO.drop (h : LO H a ps A) (k : Nat) : LO (upd H a (.lst ((ps.eraseIdx k).map .ref))) a (ps.eraseIdx k) (A.eraseIdx k) := by
  have hsub : ∀ x, x ∈ ps.eraseIdx k → x ∈ ps := fun x hx => List.mem_of_mem_eraseIdx hx
  refine ⟨upd_same, by rw [List.length_eraseIdx, List.length_eraseIdx, h.len], h.nd.sublist (List.eraseIdx_sublist ps k), fun hm => h.out (hsub _ hm), fun i p r h1 h2 => ?_⟩
  have hm := hsub _ (List.mem_of_getElem? h1)
  rw [upd_ne (show p ≠ a from fun e => h.out (by rw [← e]; exact hm))]
  rw [List.getElem?_eraseIdx] at h1 h2
  split at h1
  · rename_i hlt
    rw [if_pos hlt] at h2
    exact h.row i p r h1 h2
  · rename_i hlt
    rw [if_neg hlt] at h2
    exact h.row (i + 1) p r h1 h2
theorem lo_data : ∀ {ps : List Addr} {A : Ages}, ps.length = A.length → (∀ (i : Nat) (p : Addr) (r : List (Option Int)), ps[i]? = some p → A[i]? = some r → H p = some (.lst (r.map oV))) → DpAll K H (ps.map .ref) (A.map lineD)
  | [], [], _, _ => .nil
  | [], _ :: _, h, _ => by cases h
  | _ :: _, [], h, _ => by cases h
  | p :: ps, r :: rs, h, k => .cons (.lst (sq_of (k 0 p r rfl rfl)) (ovs_dp r)) (lo_data (by simpa using h) fun i p r h1 h2 => k (i + 1) p r h1 h2)
theorem LO.data (h : LO H a ps A) (s : Ex Hd H) (na : Hd a = none) (np : ∀ p ∈ ps, Hd p = none) : ∃ Hn, Ex Hd Hn ∧ Ex Hn H ∧ Dp K Hn (.ref a) (agesD A) ∧ ∀ q, q ≠ a → q ∉ ps → Hn q = Hd q := by
  refine ⟨fun x => if x = a ∨ x ∈ ps then H x else Hd x, fun x o hx => ?_, fun x o hx => ?_, .lst (xs := ps.map .ref) (sq_of ?_) (lo_data h.len fun i p r h1 h2 => ?_), fun q n m => if_neg (fun h => h.elim n m)⟩
  · show (if x = a ∨ x ∈ ps then H x else Hd x) = some o
    split
    · exact s x o hx
    · exact hx
  · have hx' : (if x = a ∨ x ∈ ps then H x else Hd x) = some o := hx
    split at hx'
    · exact hx'
    · exact s x o hx'
  · show (if a = a ∨ a ∈ ps then H a else Hd a) = _
    rw [if_pos (.inl rfl)]
    exact h.top
  · show (if p = a ∨ p ∈ ps then H p else Hd p) = _
    rw [if_pos (.inr (List.mem_of_getElem? h1))]
    exact h.row i p r h1 h2
theorem LO.more (L : LO H a ps A) (hl : H p = none) : LO (upd (upd H p (.lst (r.map oV))) a (.lst ((ps ++ [p]).map .ref))) a (ps ++ [p]) (A ++ [r]) := by
  have nl : p ≠ a := (ne_of_none L.top hl).symm
  have hlen := L.len
  have nps : p ∉ ps := fun hm => by
    obtain ⟨k, hk, ek⟩ := List.getElem_of_mem hm
    have := L.row k p (A[k]'(by omega)) (List.getElem?_eq_some_iff.mpr ⟨hk, ek⟩) (List.getElem?_eq_getElem _)
    rw [hl] at this
    cases this
  refine ⟨upd_same, by simp [hlen], ?_, fun hm => ?_, fun k q s h1 h2 => ?_⟩
  · rw [List.nodup_append]
    refine ⟨L.nd, by simp, fun x hx y hy e => ?_⟩
    rw [List.mem_singleton.mp hy] at e
    subst e
    exact nps hx
  · rcases List.mem_append.mp hm with hm | hm
    · exact L.out hm
    · exact nl (List.mem_singleton.mp hm).symm
  · by_cases hk : k < ps.length
    · rw [List.getElem?_append_left hk] at h1
      rw [List.getElem?_append_left (by omega)] at h2
      have hm := List.mem_of_getElem? h1
      rw [upd_ne (show q ≠ a from fun e => L.out (by rw [← e]; exact hm)), upd_ne (show q ≠ p from fun e => nps (by rw [← e]; exact hm))]
      exact L.row k q s h1 h2
    · have hk2 : k = ps.length := by
        have := (List.getElem?_eq_some_iff.mp h1).1
        rw [List.length_append, List.length_singleton] at this
        omega
      rw [List.getElem?_append_right (by omega), hk2, Nat.sub_self] at h1
      rw [List.getElem?_append_right (by omega), hk2, hlen, Nat.sub_self] at h2
      cases h1
      cases h2
      rw [upd_ne nl, upd_same]
theorem eb_ifT {t : TT} {Pd : PyData → Prop} (h : EvT t σ Hd true) (h1 : EvB K b ta σ Hd Pd) : EvB K b (tIf t ta te) σ Hd Pd := fun hb H s B Q q => h H s _ fun H2 e2 => h1 hb H2 (s.trans e2) (B.mono e2) Q fun v H3 Hn d g hd hp => q v H3 Hn d (g.pre e2) hd hp
theorem eb_ifF {t : TT} {Pd : PyData → Prop} (h : EvT t σ Hd false) (h1 : EvB K b te σ Hd Pd) : EvB K b (tIf t ta te) σ Hd Pd := fun hb H s B Q q => h H s _ fun H2 e2 => h1 hb H2 (s.trans e2) (B.mono e2) Q fun v H3 Hn d g hd hp => q v H3 Hn d (g.pre e2) hd hp
end
end Cot
set_option Elab.async false
set_option linter.all false
set_option maxRecDepth 100000
set_option maxHeartbeats 4000000
namespace Cot
open PySem L2 Evl
end Cot
set_option Elab.async false
set_option linter.all false
set_option maxRecDepth 100000
set_option maxHeartbeats 4000000
namespace Cot
open PySem PySem.Spec PyProof.Rows L2 Evl
abbrev Key3 := Key2 × Int
def thirdOf (h : Heap) (v : Value) : Int := match v with
  | .ref a => match h.get? a with
    | some o => match o.data with
      | .seq xs _ => match xs.getD 2 .none with
        | .int i _ => i
        | _ => 0
      | _ => 0
    | none => 0
  | _ => 0
def keyT (h : Heap) (v : Value) : Key3 := (keyOf h v, thirdOf h v)
def IsP3 (P : Program) (w : World) (h : Heap) (v : Value) (k : Key3) : Prop := ∃ a o x y n t, v = .ref a ∧ h.get? a = some o ∧ o.cls = .type "tuple" ∧ o.data = .seq #[.ref x, .ref y, .int k.2 t] n ∧ IsT P w h k.1.1 x ∧ IsT P w h k.1.2 y
section
variable {P : Program} {w : World} {A : Around} {E : Value → Shared → Prop} {s : Shared} {h h' : Heap} {v u : Value} {k k' : Key3}
theorem IsP3.key (p : IsP3 P w h v k) : keyT h v = k := by
  obtain ⟨a, o, x, y, n, t, rfl, ho, hc, hd, hx, hy⟩ := p
  have e : firstOf h (.ref a) = (.ref x, .ref y) := by
    unfold firstOf
    simp only [ho, hd]
    rfl
  have e3 : thirdOf h (.ref a) = k.2 := by
    unfold thirdOf
    simp only [ho, hd]
    rfl
  unfold keyT keyOf
  rw [e, e3]
  exact Prod.ext (Prod.ext (tupInts_of hx).ints (tupInts_of hy).ints) rfl
theorem IsP3.keeps (p : IsP3 P w h v k) (kp : ∀ b o, h.get? b = some o → o.cls = .type "tuple" → h'.get? b = some o) : IsP3 P w h' v k := by
  obtain ⟨a, o, x, y, n, t, e, ho, hc, hd, hx, hy⟩ := p
  exact ⟨a, o, x, y, n, t, e, kp a o ho hc, hc, hd, isT_tups hx kp, isT_tups hy kp⟩
end
end Cot
set_option Elab.async false
set_option linter.all false
set_option maxRecDepth 100000
set_option maxHeartbeats 4000000
namespace Cot
open PySem PySem.Spec PyProof.Rows L2 Evl RZ
end Cot
set_option Elab.async false
set_option linter.all false
set_option maxRecDepth 100000
set_option maxHeartbeats 4000000
namespace Cot
open PySem PySem.Spec PyProof.Rows L2 Evl
end Cot
set_option Elab.async false
set_option linter.all false
set_option maxRecDepth 100000
set_option maxHeartbeats 4000000
namespace Cot
open PySem PySem.Spec PyProof.Rows L2 Evl
/-- a class whose own __init__ comes from ValueError, called by its name -/
structure BaseI (K : PySem.W.Frag) (D : Addr) : Prop where
  sp : PySem.W.specialIn K (.ref D) "__getattribute__" = some (some (.builtin "type.__getattribute__"))
  rd : PySem.W.readsIn K D (.type "type") = true
  fc : PySem.W.findCls K (.ref D) (.type "type") "__init__" = some (.val (.builtin "ValueError.__init__"))
section
variable {X : Cx} {x : Str} {D : Addr} {e : Expr} {es : List Expr} {ta : TA} {p1 p2 pos : Pos}
theorem pe_baseInit {pl : Sem Bool} (hg : Gl X x) (hm : X.mg x = some (.ref D)) (B : BaseI X.K D) (ha : PA X (e :: es) ta) (hdb : (x == ("__debug__" : Str)) = false := by decide)
    (hc : eval (.Call (.Attribute (.Name x p1) "__init__" p2) (e :: es) [] pos) X.env = (do
      let ov ← eval (.Name x p1) X.env
      standAt p2.atName
      let (f, first) ← holding [ov] (getMethod ov "__init__" pl)
      callWith pos f first (backTo pos (starEach (e :: es) X.env)) (backToKw pos (keywordEach [] X.env))) := by rfl)
    (he : starEach (e :: es) X.env = (false, eval e X.env) :: starEach es X.env := by rfl) (hpl : (backTo pos (starEach es X.env)).any (·.1) = false := by rfl) : PE X (.Call (.Attribute (.Name x p1) "__init__" p2) (e :: es) [] pos) (tVeI X.K ta) := by
  refine ⟨fun pins s σ H Q I h => PySem.W.methodCall_KW (ld_glob I hg hm ?_ hdb) hc⟩
  refine PySem.W.method_cls I.kIn B.sp (PySem.W.cls_value I.kIn B.rd B.fc (by decide) ?_)
  show wpAny _ _ (callWith pos (Value.builtin "ValueError.__init__") [] (backTo pos (starEach (e :: es) X.env)) []) _ _ _
  refine PyProof.Rows.callWith_method1 (thn (ha.run pos pins _ σ H _ (I.tok _) h) fun us s1 ⟨vs, H1, I1, r1, a, C, ws, ev, hl, T, ea, q⟩ => ?_) he hpl
  subst ev
  cases r1 with
  | @cons _ u0 _ ur ra rw' =>
    have e0 : u0 = Value.ref a := ra
    subst e0
    exact oinit_ok T I1 ea (by rw [← Paired.length rw', sizeLine_eq]; omega) fun s' J => ⟨.non, H1, J, rfl, q⟩
end
/-- what such an __init__ does: the number under the name f -/
def spInit (C : Addr) (f : Str) : Sp := fun vs H Q _ => ∃ (a : Addr) (n : Int), vs = [.ref a, .int n] ∧ 0 ≤ n ∧ n ≤ 1000000 ∧ H a = some (exo a C none) ∧ ∀ dx, H dx = none → dx ≠ a → Q .non (upd (upd H dx (exd dx [(f, .int n)])) a (exo a C (some dx)))
/-- the text f".. {n} .." -/
def tNfn (te : TE) (y z : Str) : TE := fun σ H Q => tJs [tC (.str y), tFmt te, tC (.str z)] Str.empty σ H fun out H1 => Q (.str out) H1
theorem pe_nfn {X : Cx} {e : Expr} {te : TE} {p1 p2 p3 pos : Pos} {y z : Str} {j k : Nat} (he : PE X e te) : PE X (.JoinedStr [.Constant (.str y) k p3, .FormattedValue e (-1) none p1, .Constant (.str z) j p2] pos) (tNfn te y z) := pe_joined (.cons pe_str (.cons (pe_fmt he) (.cons pe_str .nil)))
theorem log2_small {n : Int} (h0 : 0 ≤ n) (h : n ≤ 1000000) : n.natAbs.log2 < 1920 := by
  have h1 : n.natAbs ≤ 1000000 := by omega
  have h2 : n.natAbs.log2 < 20 := by
    by_cases z : n.natAbs = 0
    · rw [z]; decide
    · exact (Nat.log2_lt z).mpr (by omega)
  omega
theorem nfn_run {i : Nat} {σ : L2.St} {H : Hp} {Q : VK} {n : Int} {y z : Str} (h0 : 0 ≤ n) (h1 : n ≤ 1000000) (hy : y.length ≤ 1000) (hz : z.length ≤ 1000) (h : σ[i]? = some (some (.int n))) (k : ∀ x, Q (.str x) H) : tNfn (tVar i) y z σ H Q := by
  have hl : (Str.ofString (toString n)).length ≤ 7 := toString_length_le h0 (k := 7) (by decide) (by omega)
  have e0 : (Str.empty ++ y).length = y.length := by rw [Str.length_append]; show 0 + _ = _; omega
  have e1 : (Str.empty ++ y ++ Str.ofString (toString n)).length = y.length + (Str.ofString (toString n)).length := by rw [Str.length_append, e0]
  refine ⟨y, rfl, by rw [e0, sizeLine_eq]; omega, .int n, h, .inr ⟨n, rfl, log2_small h0 h1, _, rfl, by rw [e1, sizeLine_eq]; omega, _, rfl, ?_, k _⟩⟩
  rw [Str.length_append, e1, sizeLine_eq]
  omega
theorem mkO_run {C : Addr} {f : Str} {ta : TA} {σ : L2.St} {H : Hp} {Q : XK} {n : Int} (h0 : 0 ≤ n) (h1 : n ≤ 1000000) (h : EvA ta σ H [.int n]) (k : ∀ H2 d, Ex H H2 → H2 d = none → Q (.ref C) (some d) (upd H2 d (.xd [(f, .int n)]))) : tMkO C (spInit C f) [] ta σ H Q :=
  h H (Ex.refl _) _ fun H1 e1 => ⟨by simp, fun a ha => ⟨a, n, rfl, h0, h1, upd_same, fun dx hd nd => ⟨rfl, dx, [(f, .int n)], upd_same, by rw [upd_ne nd, upd_same], by rw [upd_ne nd] at hd; exact hd, by
    have hd1 : H1 dx = none := by rw [upd_ne nd] at hd; exact hd
    have e : upd (L2.del (upd (upd (upd H1 a (exo a C none)) dx (exd dx [(f, .int n)])) a (exo a C (some dx))) a) dx (.xd [(f, .int n)]) = upd H1 dx (.xd [(f, .int n)]) := by
      funext b
      by_cases hb : b = dx
      · subst hb
        rw [upd_same, upd_same]
      · rw [upd_ne hb, upd_ne hb]
        by_cases hba : b = a
        · subst hba
          rw [L2.del_same, ha]
        · rw [L2.del_ne hba, upd_ne hba, upd_ne hb, upd_ne hba]
    rw [e]
    exact k H1 dx e1 hd1⟩⟩⟩
end Cot
set_option Elab.async false
set_option linter.all false
set_option maxRecDepth 100000
set_option maxHeartbeats 4000000
namespace Cot
open PySem PySem.Spec PyProof.Rows L2 Evl
/-- one sign -/
abbrev sg (c : Nat) : Str := ⟨#[c]⟩
def sigs (x : Str) : List PyData := x.cps.toList.map fun c => .str (sg c)
section
variable {K : PySem.W.Frag} {X : Cx} {H H' Hd Hd' Hn H1 H2 Hm : Hp} {σ : L2.St} {ta tb tc te tx tl to : TE} {d : PyData} {ds es : List PyData} {tr : TA} {i j j2 n : Nat}
/-- a text, walked sign by sign -/
theorem ei_str {x : Str} (h : Ev tl σ Hd (.str x)) : EvI K (iStr tl) (gName j) σ Hd x.length (SName K j (sigs x)) := fun H s R r =>
  h H s _ fun H2 e2 => ⟨x, rfl, r _ H2 Hd (fun _ => True) (fun i H v H' => H' = H ∧ ∃ c, x.cps[i]? = some c ∧ v = .str (sg c)) (Gr.ext s e2)
    ⟨fun i H hi _ => hi, fun H _ => Nat.le_refl _, fun i H v H' hi _ y => y⟩ (fun _ _ => trivial) fun i v H' H'' σ' k hi e y q => by
      obtain ⟨rfl, c, hc, rfl⟩ := y
      refine q _ _ (Ex.refl _) ⟨.str (sg c), .str (sg c), ?_, .str _, rfl⟩
      unfold sigs
      rw [List.getElem?_map, Array.getElem?_toList, hc]
      rfl⟩
theorem ev_ixS {z : Str} {k : Int} {c : Nat} (ha : Ev ta σ H (.str z)) (hb : Ev tb σ H (.int k)) (hz : z.length ≤ 100000) (h : atI z.cps.toList k = some c) : Ev (tOp rIxS ta tb) σ H (.str (sg c)) := ev_op ha hb (rv_ixS hz h)
def rSpl : V → List V → Hp → VK → Prop := fun x xs H Q => ∃ a b, x = .str a ∧ xs = [.str b] ∧ (b.length == 0) = false ∧ a.length + 2 ≤ sizeLine ∧ rNewStrs (Txt.split a b) H Q
theorem en_split {a b : Str} (ho : Ev to σ Hd (.str a)) (he : Ev te σ Hd (.str b)) (hb : (b.length == 0) = false) (ha : a.length + 2 ≤ 1000000) : EvN K (tM1 rSpl to te) σ Hd ((Txt.split a b).map .str) := fun H s Q q =>
  ho H s _ fun H2 e2 => ⟨⟨a, rfl⟩, he H2 (s.trans e2) _ fun H3 e3 => ⟨a, b, rfl, rfl, hb, by rw [sizeLine_eq]; omega, fun p hp => q p ((Txt.split a b).map V.str) _ Hd ((Gr.ext s (e2.trans e3)).trans (Gr.alloc ((s.trans e2).trans e3) hp)) (fresh_back (e2.trans e3) hp) (fresh_back ((s.trans e2).trans e3) hp) upd_same (dpa_strs _)⟩⟩
where dpa_strs : ∀ (l : List Str), DpAll K Hd (l.map V.str) (l.map PyData.str)
  | [] => .nil
  | x :: l => .cons (.str x) (dpa_strs l)
def rInSg : R2 := fun x y H Q => ∃ (c : Nat) (z : Str), x = .str (sg c) ∧ y = .str z ∧ Q (.bl (decide (c ∈ z.cps.toList))) H
theorem ev_inSg {c : Nat} {z : Str} (ha : Ev ta σ H (.str (sg c))) (hb : Ev tb σ H (.str z)) : Ev (tOp rInSg ta tb) σ H (.bl (decide (c ∈ z.cps.toList))) := ev_op ha hb fun H1 _ _ q => ⟨c, z, rfl, rfl, q H1 (Ex.refl H1)⟩
def rLenX : List V → Hp → VK → Prop := fun xs H Q => ∃ a, xs = [.str a] ∧ a.length ≤ sizeLine ∧ Q (.int (a.length : Int)) H
theorem ev_lenX {a : Str} (h : Ev ta σ H (.str a)) (hz : a.length ≤ 1000000) : Ev (tCB rLenX (tCons ta tNil)) σ H (.int (a.length : Int)) := fun H1 s Q q => h H1 s _ fun H2 e => ⟨a, rfl, by rw [sizeLine_eq]; omega, q H2 e⟩
end
end Cot
set_option Elab.async false
set_option linter.all false
set_option maxRecDepth 100000
set_option maxHeartbeats 4000000
namespace Cot
open PySem PySem.Spec PyProof.Rows L2 Evl
theorem pe_spl {X : Cx} {o e : Expr} {to te : TE} {apos pos : Pos} (ho : PE X o to) (he : PE X e te) (hs : starEach [e] X.env = [(false, eval e X.env)] := by rfl) (hbase : attributeBase o "split" X.env (eval o X.env) = eval o X.env := by rfl) (hline : (apos.endLine == pos.line) = true := by rfl) :
    PE X (.Call (.Attribute o "split" apos) [e] [] pos) (tM1 rSpl to te) := pe_split ho he hs hbase hline
theorem call_lenX {X : Cx} : CallR X (.builtin "len") rLenX := call_len_str
end Cot
set_option Elab.async false
set_option linter.all false
set_option maxRecDepth 100000
set_option maxHeartbeats 4000000
namespace Cot
open PySem PySem.Spec PyProof.Rows L2 Evl
section
variable {K : PySem.W.Frag} {b : Bid} {X : Cx} {H H' Hd Hd' Hn H1 H2 Hm : Hp} {σ : L2.St} {ta tb tc te tx tl to : TE} {tlo thi : TO} {d : PyData} {ds es : List PyData} {tr : TA} {i j j2 n : Nat} {p : Int → Prop} {Ps Ps' : List PyData → Prop} {D : Ends} {tz : TS}
def rAddS : R2 := fun x y H Q => ∃ i j, x = .str i ∧ y = .str j ∧ i.length + j.length ≤ sizeLine ∧ Q (.str (i ++ j)) H
theorem op_addS : OpR X (binaryOp .Add) rAddS := op_add_str
theorem ev_addS {a c : Str} (ha : Ev ta σ H (.str a)) (hb : Ev tb σ H (.str c)) (hl : a.length + c.length ≤ 1000000) : Ev (tOp rAddS ta tb) σ H (.str (a ++ c)) := ev_op ha hb fun H1 _ _ q => ⟨a, c, rfl, rfl, by rw [sizeLine_eq]; omega, q H1 (Ex.refl H1)⟩
def isS (p : Str → Prop) (d : PyData) : Prop := ∃ z, d = .str z ∧ p z
theorem spl1_len (s : Nat) : ∀ (l acc : List Nat), ((TL.spl [s] 0 acc l).map (·.length)).sum + (TL.spl [s] 0 acc l).length = acc.length + l.length + 1
  | [], acc => by rw [TL.spl_nil]; simp
  | c :: r, acc => by
    cases hp : TL.pre [s] (c :: r) with
    | true =>
      rw [TL.spl_hit hp]
      have := spl1_len s r []
      simp only [List.map_cons, List.sum_cons, List.length_cons, List.length_nil] at this ⊢
      show _ + ((TL.spl [s] 0 [] r).map _).sum + ((TL.spl [s] 0 [] r).length + 1) = _
      omega
    | false =>
      rw [TL.spl_miss hp]
      have := spl1_len s r (acc ++ [c])
      simp only [List.length_append, List.length_cons, List.length_nil] at this ⊢
      omega
theorem tl_length (z : Str) : (TL.tl z).length = z.length := by simp [TL.tl, Str.length]
theorem split_len {y : Str} {s : Nat} (z : Str) (ey : TL.tl y = [s]) (hk : y.cps.all (· < 256) = true) : ((Txt.split z y).map (·.length)).sum + (Txt.split z y).length = z.length + 1 := by
  have e := TL.split_spl z y (by rw [ey]; simp) (TL.kind_ok hk)
  rw [ey] at e
  have h := spl1_len s (TL.tl z) []
  rw [← e, List.map_map, List.length_map, tl_length] at h
  have e2 : ((fun x : List Nat => x.length) ∘ TL.tl) = (fun x : Str => x.length) := by funext x; exact tl_length x
  rw [e2] at h
  simpa using h
theorem sum_mem {l : List Str} {x : Str} (h : x ∈ l) : x.length ≤ (l.map (·.length)).sum := by
  induction l with
  | nil => cases h
  | cons a l ih =>
    rw [List.map_cons, List.sum_cons]
    rcases List.mem_cons.mp h with rfl | h
    · omega
    · have := ih h
      omega
theorem join_len (s : Str) : ∀ (ys : List Str), (Txt.join s ys).length ≤ (ys.map (·.length)).sum + ys.length * s.length := fun ys => by
  rw [← tl_length, TL.join_eq, TL.tl_join]
  induction ys with
  | nil => simp [TL.joinL]
  | cons y ys ih =>
    cases ys with
    | nil => simp [TL.joinL, Str.length]
    | cons x xs =>
      have e : TL.joinL (TL.tl s) ((y :: x :: xs).map TL.tl) = TL.tl y ++ (TL.tl s ++ TL.joinL (TL.tl s) ((x :: xs).map TL.tl)) := by
        simp [TL.joinL]
      rw [e, List.length_append, List.length_append, tl_length, tl_length]
      have e2 : ((y :: x :: xs).map fun x : Str => x.length).sum = y.length + ((x :: xs).map fun x : Str => x.length).sum := rfl
      have e3 : (y :: x :: xs).length * s.length = (x :: xs).length * s.length + s.length := by rw [List.length_cons, Nat.add_mul, Nat.one_mul]
      rw [e2, e3]
      have ih' : (TL.joinL (TL.tl s) (TL.tl x :: List.map TL.tl xs)).length ≤ _ := ih
      omega
end
end Cot
set_option Elab.async false
set_option linter.all false
set_option maxRecDepth 100000
set_option maxHeartbeats 4000000
namespace Cot
open PySem PySem.Spec PyProof.Rows L2 Evl RZ
abbrev zbT (h : Heap) (a b : Addr) : Heap := (h.push (tupItO a)).push (lstItO b)
abbrev zdT (h : Heap) (a b : Addr) : Heap := ((zbT h a b).push (twoO (.ref h.objs.size) (.ref (h.push (tupItO a)).objs.size))).push (twoO .none .none)
abbrev zcT (h : Heap) (a b : Addr) : Heap := (zbT h a b).push (twoO (.ref h.objs.size) (.ref (h.push (tupItO a)).objs.size))
abbrev zeT (h : Heap) (a b : Addr) : Heap := (zdT h a b).push (zipO (zbT h a b).objs.size (zcT h a b).objs.size)
set_option maxHeartbeats 1000000 in
theorem zipTL_new (a b : Addr) (xs ys : Array Value) :
    Meets (Builtin.«zip.__new__» ⟨[.type "zip", .ref a, .ref b], []⟩) (fun _ R s => s.heap.IsTuple a xs ∧ s.heap.IsList b ys ∧ R (.ok (.ret (.ref (zdT s.heap a b).objs.size))) { s with heap := zeT s.heap a b }) :=
  .of_wp fun prog w A R s hh => by
    obtain ⟨hp, gs, dr, tk, os⟩ := s
    obtain ⟨hL, hT, hh⟩ := hh
    have sb := sub_zip
    have hT2 : Heap.IsList (Shared.heap ⟨hp.push (tupItO a), gs, dr, tk, os⟩) b ys := Heap.IsList.push hT _
    have hL2 : Heap.IsTuple (Shared.heap ⟨hp, gs, dr, tk, os⟩) a xs := hL
    wp_walk using wpAny_pyIter_tuple hL2, wpAny_pyIter_list hT2
    exact ⟨_, rfl, hh⟩
section
variable {prog : Program} {w : World} {A : Around} {E : Value → Shared → Prop} {s : Shared}
theorem call_zipTL {a b : Addr} {xs ys : Array Value} {Q : Value → Shared → Prop} (hL : s.heap.IsTuple a xs) (hT : s.heap.IsList b ys)
    (hq : ∀ h', IsZip h' (s.heap.objs.size + 4) (s.heap.objs.size + 2) (s.heap.objs.size + 3) .none → IsTupOf2 h' (s.heap.objs.size + 2) (.ref s.heap.objs.size) (.ref (s.heap.objs.size + 1)) → IsTupOf2 h' (s.heap.objs.size + 3) .none .none →
      h'.IsTupleIter s.heap.objs.size a 0 → h'.IsListIter (s.heap.objs.size + 1) b 0 → (∀ c o, s.heap.get? c = some o → h'.get? c = some o) → Q (.ref (s.heap.objs.size + 4)) { s with heap := h' }) :
    wpAny (model prog w) A (call (.type "zip") [.ref a, .ref b]) Q E s := by
  refine callType_new F.called_zip (by decide) (F.typeCall_zip_2 _ _) (F.newCall_zip_2 _ _) (fun ob => F.args_object_init_3 ob _ _) F.entry_zip_new (zipTL_new a b xs ys) ⟨hL, hT, ?_⟩
  have s1 : (s.heap.push (tupItO a)).objs.size = s.heap.objs.size + 1 := Heap.size_push ..
  have s2 : (zbT s.heap a b).objs.size = s.heap.objs.size + 2 := by rw [Heap.size_push, s1]
  have s3 : (zcT s.heap a b).objs.size = s.heap.objs.size + 3 := by rw [Heap.size_push, s2]
  have s4 : (zdT s.heap a b).objs.size = s.heap.objs.size + 4 := by rw [Heap.size_push, s3]
  have p0 : (zeT s.heap a b).get? s.heap.objs.size = some (tupItO a) := Heap.get?_push_of_some _ (Heap.get?_push_of_some _ (Heap.get?_push_of_some _ (Heap.get?_push_of_some _ (Heap.get?_push_size _ rfl))))
  have p1 : (zeT s.heap a b).get? (s.heap.push (tupItO a)).objs.size = some (lstItO b) := Heap.get?_push_of_some _ (Heap.get?_push_of_some _ (Heap.get?_push_of_some _ (Heap.get?_push_size _ rfl)))
  have p2 : (zeT s.heap a b).get? (zbT s.heap a b).objs.size = some (twoO (.ref s.heap.objs.size) (.ref (s.heap.push (tupItO a)).objs.size)) := Heap.get?_push_of_some _ (Heap.get?_push_of_some _ (Heap.get?_push_size _ rfl))
  have p3 : (zeT s.heap a b).get? (zcT s.heap a b).objs.size = some (twoO .none .none) := Heap.get?_push_of_some _ (Heap.get?_push_size _ rfl)
  have p4 : (zeT s.heap a b).get? (zdT s.heap a b).objs.size = some (zipO (zbT s.heap a b).objs.size (zcT s.heap a b).objs.size) := Heap.get?_push_size _ rfl
  rw [s1, s2] at p2
  rw [s1] at p1
  rw [s3] at p3
  rw [s2, s3, s4] at p4
  show _ ∧ _
  rw [s4]
  exact ⟨⟨_, p4, rfl⟩, hq _ p4 p2 p3 ⟨_, p0, rfl, rfl⟩ ⟨_, p1, rfl, rfl⟩ fun c o x => Heap.get?_push_of_some _ (Heap.get?_push_of_some _ (Heap.get?_push_of_some _ (Heap.get?_push_of_some _ (Heap.get?_push_of_some _ x))))⟩
end
/-- the list at a and the tuple at b, item by item in new pairs -/
def ItzTL (K : PySem.W.Frag) (a b : Addr) : It :=
  ⟨fun i H => ∃ (xs ys : List V) (x y : V), SqT K H a xs ∧ SqL K H b ys ∧ xs[i]? = some x ∧ ys[i]? = some y, fun i H v H' => ∃ T x y, v = .ref T ∧ H T = none ∧ H' = upd H T (.tup [x, y]) ∧ (∀ xs, SqT K H a xs → xs[i]? = some x) ∧ ∀ ys, SqL K H b ys → ys[i]? = some y,
    fun i H => ∃ xs ys : List V, SqT K H a xs ∧ SqL K H b ys ∧ i ≤ xs.length ∧ i ≤ ys.length ∧ (i = xs.length ∨ i = ys.length)⟩
theorem turn_zipTL {P : Program} {w : World} {K : PySem.W.Frag} {elts : List Expr} {kk : Nat} {tpos : Pos} {a b z TI TO i1 i2 : Addr} (D : ZipApart z TI TO i1 i2 a b) :
    Turn P w K (.Tuple elts kk tpos) (ItzTL K a b) [z, TI, TO, i1, i2] z (fun i h => IsZip h z TI TO .none ∧ IsTupOf2 h TI (.ref i1) (.ref i2) ∧ (∃ x y, IsTupOf2 h TO x y) ∧ h.IsTupleIter i1 a i ∧ h.IsListIter i2 b i) where
  mem := by simp
  obj := fun i h st c hc => by
    obtain ⟨hz, hTI, ⟨x, y, hTO⟩, ⟨o1, e1, _, d1⟩, ⟨o2, e2, _, d2⟩⟩ := st
    simp only [List.mem_cons, List.not_mem_nil, or_false] at hc
    rcases hc with rfl | rfl | rfl | rfl | rfl
    · exact ⟨_, hz, fun _ q => nomatch q⟩
    · exact ⟨_, hTI, fun _ q => nomatch q⟩
    · exact ⟨_, hTO, fun _ q => nomatch q⟩
    · exact ⟨o1, e1, fun _ q => by rw [d1] at q; cases q⟩
    · exact ⟨o2, e2, fun _ q => by rw [d2] at q; cases q⟩
  keep := fun i h h' st k => by
    obtain ⟨hz, hTI, ⟨x, y, hTO⟩, ⟨o1, e1, r1⟩, ⟨o2, e2, r2⟩⟩ := st
    exact ⟨k z (by simp) _ hz, k TI (by simp) _ hTI, ⟨x, y, k TO (by simp) _ hTO⟩, ⟨o1, k i1 (by simp) _ e1, r1⟩, ⟨o2, k i2 (by simp) _ e2, r2⟩⟩
  item := by
    intro X hP hw hK hc i pins s σ H E I hf st hg
    subst hP hw hK
    obtain ⟨hz, hTI, ⟨x0, y0, hTO⟩, j1, j2⟩ := st
    obtain ⟨xs, ys, x, y, qx, qy, hx, hy⟩ := hg
    obtain ⟨its, rv, p, _⟩ := I.tuple qx
    obtain ⟨its2, rv2, p2, _⟩ := I.list qy
    obtain ⟨u, hu, ru⟩ := rv.get hx
    obtain ⟨u2, hu2, ru2⟩ := rv2.get hy
    have lt1 : i < its.toArray.size := by simpa using (List.getElem?_eq_some_iff.mp hu).1
    have lt2 : i < its2.toArray.size := by simpa using (List.getElem?_eq_some_iff.mp hu2).1
    have zl : z < s.heap.objs.size := Heap.lt_size hz
    have D1 := Draws.tuple (prog := X.prog) (w := X.w) (show X.A.in1.handled = none from I.ok.hd hc) i1 a D.l1i1 its.toArray
    have D2 := Draws.list (prog := X.prog) (w := X.w) (show X.A.in1.handled = none from I.ok.hd hc) i2 b D.l2i2 its2.toArray
    refine wpAny_pyNext_zipD2_item (sep_of D) D1 D2 hz hTI hTO ⟨j1, p⟩ ⟨j2, p2.isList⟩ lt1 lt2 fun v1 v2 h' tk e1 e2 z' TO' st1 st2 hT hsz hk => ?_
    have g1 : v1 = u := by
      have h2 : its.toArray[i]? = some u := by simpa using hu
      rw [h2] at e1
      cases e1
      rfl
    have g2 : v2 = u2 := by
      have h2 : its2.toArray[i]? = some u2 := by simpa using hu2
      rw [h2] at e2
      cases e2
      rfl
    subst g1 g2
    refine ⟨_, rfl, wpAny_letOwnedTupleGo_zip (s := { s with heap := h', toks := tk }) z' fun h2 z2 sb => ?_⟩
    have hT2 : h2.get? s.heap.objs.size = some (twoO v1 v2) := (sb.2 _ (Nat.ne_of_gt zl)).trans hT
    have new : ObjOk X.prog X.w (upd H s.heap.objs.size (.tup [x, y])) h2 s.heap.objs.size (.tup [x, y]) :=
      ⟨by show 2 ≤ sizeLine; decide, [v1, v2], .cons ru (.cons ru2 .nil), ⟨_, hT2, rfl, _, rfl⟩⟩
    have I1 : Inv X pins σ (upd H s.heap.objs.size (.tup [x, y])) { s with heap := h2, toks := tk } :=
      I.turnedNew (ch := [z, TI, TO, i1, i2]) (fun c o hb q => (sb.2 c (fun e => hb (by simp [e]))).trans (hk c o (fun e => hb (by simp [e])) (fun e => hb (by simp [e])) (fun e => hb (by simp [e])) (fun e => hb (by simp [e])) q)) hf (Nat.le_refl _) new
    refine ⟨.ref s.heap.objs.size, _, I1, rfl, ⟨_, x, y, rfl, I.hok.fresh (Nat.le_refl _), rfl, fun l hl => by rw [I.tuple_inj hl qx]; exact hx, fun l hl => by rw [I.list_inj hl qy]; exact hy⟩, ⟨z2, ?_, ⟨v1, v2, ?_⟩, ?_, ?_⟩, fun c hcm => ?_⟩
    · exact (sb.2 _ D.TIz).trans (hk _ _ D.TIz D.TITO D.TIi1 D.TIi2 hTI)
    · exact (sb.2 _ D.TOz).trans TO'
    · obtain ⟨o3, h3, r3⟩ := st1.1
      exact ⟨o3, (sb.2 _ D.i1z).trans h3, r3⟩
    · obtain ⟨o3, h3, r3⟩ := st2.1
      exact ⟨o3, (sb.2 _ D.i2z).trans h3, r3⟩
    · have hlt : c < s.heap.objs.size := by
        obtain ⟨_, e1, _⟩ := j1
        obtain ⟨_, e2, _⟩ := j2
        simp only [List.mem_cons, List.not_mem_nil, or_false] at hcm
        rcases hcm with rfl | rfl | rfl | rfl | rfl
        · exact zl
        · exact Heap.lt_size hTI
        · exact Heap.lt_size hTO
        · exact Heap.lt_size e1
        · exact Heap.lt_size e2
      rw [upd_ne (Nat.ne_of_lt hlt)]
      exact (hf c hcm).1
  done := by
    intro X hP hw hK hc i pins s σ H E I hf st hg
    subst hP hw hK
    obtain ⟨hz, hTI, ⟨x0, y0, hTO⟩, j1, j2⟩ := st
    obtain ⟨xs, ys, qx, qy, le1, le2, hend⟩ := hg
    obtain ⟨its, rv, p, _⟩ := I.tuple qx
    obtain ⟨its2, rv2, p2, _⟩ := I.list qy
    have l1 : its.toArray.size = xs.length := by rw [List.size_toArray]; exact rv.length.symm
    have l2 : its2.toArray.size = ys.length := by rw [List.size_toArray]; exact rv2.length.symm
    have D1 := Draws.tuple (prog := X.prog) (w := X.w) (show X.A.in1.handled = none from I.ok.hd hc) i1 a D.l1i1 its.toArray
    have D2 := Draws.list (prog := X.prog) (w := X.w) (show X.A.in1.handled = none from I.ok.hd hc) i2 b D.l2i2 its2.toArray
    refine wpAny_pyNext_zipD2_end (sep_of D) D1 D2 hz hTI hTO ⟨j1, p⟩ ⟨j2, p2.isList⟩ (by omega) (by omega) (by omega) fun h' tk hk => ⟨rfl, I.turnedL (t' := tk) (ch := [z, TI, TO, i1, i2]) (fun c o hb q => hk c o (fun e => hb (by simp [e])) (fun e => hb (by simp [e])) (fun e => hb (by simp [e])) (fun e => hb (by simp [e])) q) hf⟩
  self := fun A i s Q E st h => wpAny_pyIter_zip st.1 h
def iZipTL (K : PySem.W.Frag) (ta : TA) : TI := fun σ H R => ta σ H fun vs H1 => ∃ a b xs ys, vs = [.ref a, .ref b] ∧ SqT K H1 a xs ∧ SqL K H1 b ys ∧ R (ItzTL K a b) H1
theorem pi_zipTL {X : Cx} {e e2 : Expr} {ta : TA} {p pos tpos : Pos} {elts : List Expr} {kk : Nat} (hg : Gl X "zip") (hm : X.mg "zip" = none) (ha : PA X [e, e2] ta) (hs : starEach [e, e2] X.env = (false, eval e X.env) :: starEach [e2] X.env := by rfl) (hpl : (backTo pos (starEach [e2] X.env)).any (·.1) = false := by rfl) :
    PI X (.Tuple elts kk tpos) (.Call (.Name "zip" p) [e, e2] [] pos) (iZipTL X.K ta) := by
  refine ⟨fun pins s σ H R I hw => ?_⟩
  refine Call_ (ld_blt I hg hm boot_zip (PyProof.Rows.callWith_type1 (thn (ha.run pos pins s σ H _ I hw) fun us s1 hh => ?_) hs hpl))
  obtain ⟨vs, H1, I1, r1, a, b, xs, ys, rfl, qx, qy, q⟩ := hh
  cases r1 with
  | cons ra rr =>
    cases rr with
    | cons rb rr =>
      cases rr
      cases ra
      cases rb
      obtain ⟨its, rv, p1, _⟩ := I1.tuple qx
      obtain ⟨its2, rv2, p2, _⟩ := I1.list qy
      obtain ⟨o2, ho2, _⟩ := id p1
      refine call_zipTL (show s1.heap.IsTuple a its.toArray from p1) p2.isList fun h' hz hTI hTO h1 h2 hk => wpAny_pyIter_zip hz ?_
      have I2 : Inv X pins σ H1 { s1 with heap := h' } := I1.kept (t' := s1.toks) hk
      refine ⟨s1.heap.objs.size + 4, [s1.heap.objs.size + 4, s1.heap.objs.size + 2, s1.heap.objs.size + 3, s1.heap.objs.size, s1.heap.objs.size + 1], _, _, H1, rfl, I2, turn_zipTL (PySem.W.ktu_apart s1.heap.objs.size a b (Heap.lt_size ho2) p2.lt), ⟨hz, hTI, ⟨_, _, hTO⟩, h1, h2⟩, fun c hcm => ?_, q⟩
      have hle : s1.heap.objs.size ≤ c := by
        simp only [List.mem_cons, List.not_mem_nil, or_false] at hcm
        rcases hcm with rfl | rfl | rfl | rfl | rfl <;> first | exact Nat.le_refl _ | exact Nat.le_add_right _ _
      exact I1.fpOk hle (I1.hok.fresh hle)
section
variable {K : PySem.W.Frag} {H H' Hd Hd' Hn H1 H2 Hm : Hp} {σ : L2.St} {ta tb te : TE} {tr : TA} {n i j j2 : Nat} {ds es : List PyData} {a b l : Addr} {xs ys : List V} {y v : V} {D : Ends} {tz : TS}
theorem walk_zipTL {n : Nat} (hn : n = min xs.length ys.length) : Walk (ItzTL K a b) n (fun H => SqT K H a xs ∧ SqL K H b ys) (YPair (fun i => xs[i]?) (fun i => ys[i]?)) := by
  subst hn
  refine ⟨fun i _ hi q => ?_, fun _ q => ⟨xs, ys, q.1, q.2, by omega, by omega, by omega⟩, fun i H v H' _ q y => ?_⟩
  · have h1 : i < xs.length := by omega
    have h2 : i < ys.length := by omega
    exact ⟨xs, ys, xs[i], ys[i], q.1, q.2, by simp [h1], by simp [h2]⟩
  · obtain ⟨T, x, z, h1, h2, h3, h4, h5⟩ := y
    exact ⟨T, x, z, h1, h2, h3, h4 xs q.1, h5 ys q.2⟩
theorem ei_zipTL (h : EvDA K tr σ Hd [.tuple ds, .list es]) (hl : ds.length = es.length) : EvI K (iZipTL K tr) (g2 K j j2) σ Hd ds.length (SPair K j j2 (fun i => ds[i]?) (fun i => es[i]?)) := fun H s R r =>
  h H s _ fun vs H2 Hn g hd => by
    cases hd with
    | cons h1 h2 =>
      cases h2 with
      | cons h2 h3 =>
        cases h3
        cases h1 with
        | @tup a xs ds hs hall =>
          cases h2 with
          | @lst b ys es hs2 hall2 =>
            refine ⟨a, b, xs, ys, rfl, ex_t g.sub hs, ex_l g.sub hs2, r _ H2 Hn _ _ g (walk_zipTL (xs := xs) (ys := ys) (by rw [dpa_len hall, dpa_len hall2]; omega)) (fun H' e => ⟨ex_t e hs, ex_l e hs2⟩) fun i x H' H'' σ' k hi e y q => ?_⟩
            exact pair_turn (fun v e => dpa_get2 hall e) (fun v e => dpa_get2 hall2 e) y q
end
end Cot
set_option Elab.async false
set_option linter.all false
set_option maxRecDepth 100000
set_option maxHeartbeats 4000000
namespace Cot
open PySem PySem.Spec PyProof.Rows L2 Evl
section
variable {X : Cx}
def rStr : List V → Hp → VK → Prop := fun xs H Q => (∃ i, xs = [.int i] ∧ i.natAbs.log2 < 1920 ∧ Q (.str (Str.ofString (toString i))) H) ∨ ∃ a, xs = [.str a] ∧ Q (.str a) H
theorem call_strQ : CallR X (.type "str") rStr := fun pins s σ H xs us Q I r h => by
  rcases h with ⟨i, e, hz, q⟩ | ⟨a, e, q⟩
  · exact call_str_int pins s σ H xs us Q I r ⟨i, e, hz, q⟩
  · exact SkE.call_str_str pins s σ H xs us Q I r ⟨a, e, q⟩
def rIntS : List V → Hp → VK → Prop := fun xs H Q => ∃ a n, xs = [.str a] ∧ PySem.intText? a = some n ∧ a.length ≤ 640 ∧ Q (.int n) H
theorem call_intS : CallR X (.type "int") rIntS := call_int_str
end
section
variable {K : PySem.W.Frag} {w : World} {b : Bid} {X : Cx} {H H' Hd Hd' Hn H1 H2 Hm : Hp} {σ : L2.St} {ta tb tc te tx tl to : TE} {d : PyData} {ds es : List PyData} {tr : TA} {i j j2 n : Nat} {p : Int → Prop}
theorem ev_strI {k : Int} (h : Ev ta σ H (.int k)) (hk : k.natAbs.log2 < 1920) : Ev (tCB rStr (tCons ta tNil)) σ H (.str (Str.ofString (toString k))) := fun H1 e Q q => h H1 e _ fun H2 e2 => .inl ⟨k, rfl, hk, q H2 e2⟩
theorem ev_intS {a : Str} {k : Int} (h : Ev ta σ H (.str a)) (hk : PySem.intText? a = some k) (hl : a.length ≤ 640) : Ev (tCB rIntS (tCons ta tNil)) σ H (.int k) := fun H1 e Q q => h H1 e _ fun H2 e2 => ⟨a, k, rfl, hk, hl, q H2 e2⟩
def lookS (z : Str) (kvs : List (Str × V)) : Option V := (kvs.find? fun e => decide (e.1 = z)).map (·.2)
/-- at a: a written dict of these keys and values -/
structure DicK (K : PySem.W.Frag) (w : World) (a : Addr) (kvs : List (Str × V)) : Prop where
  some : ∃ es n, KDict K w a es n ∧ ∀ z, ∃ r, PySem.W.nsIn K a z = Option.some r ∧ RelO (lookS z kvs) r
def rInDK (K : PySem.W.Frag) (w : World) (neg : Bool) : R2 := fun x y H Q => ∃ z a kvs, x = .str z ∧ y = .ref a ∧ DicK K w a kvs ∧ Q (.bl (if neg then !(lookS z kvs).isSome else (lookS z kvs).isSome)) H
theorem relO_isSome {o : Option V} {r : Option Value} (h : RelO o r) : r.isSome = o.isSome := by
  cases o <;> cases r <;> first | rfl | exact h.elim
theorem op_notInDK {w : World} (eK : X.K = K) (ew : X.w = w) : OpR X (compareOp .NotIn) (rInDK K w true) := by
  subst eK ew
  intro pins s σ H x y v u Q I rx ry h
  obtain ⟨z, a, kvs, rfl, rfl, ⟨es, n, D, hd⟩, q⟩ := h
  obtain ⟨r, hr, ho⟩ := hd z
  exact op_notIn_kd D pins s σ H _ _ v u Q I rx ry ⟨z, r, rfl, rfl, hr, by rw [relO_isSome ho]; exact q⟩
theorem ix_dk {w : World} (eK : X.K = K) (ew : X.w = w) : IxR X (rIxD K w) := by
  subst eK ew
  exact ix_kdict
theorem ev_inDK {neg : Bool} {z : Str} {a : Addr} {kvs : List (Str × V)} (hz : Ev ta σ H (.str z)) (ha : Ev tb σ H (.ref a)) (D : DicK K w a kvs) : Ev (tOp (rInDK K w neg) ta tb) σ H (.bl (if neg then !(lookS z kvs).isSome else (lookS z kvs).isSome)) := ev_op hz ha fun H1 _ _ q => ⟨z, a, kvs, rfl, rfl, D, q H1 (Ex.refl H1)⟩
theorem ev_ixDK {z : Str} {a : Addr} {kvs : List (Str × V)} {v : V} (ha : Ev ta σ H (.ref a)) (hz : Ev tb σ H (.str z)) (D : DicK K w a kvs) (hv : lookS z kvs = some v) : Ev (tOp (rIxD K w) ta tb) σ H v := ev_op ha hz fun H1 _ _ q => by
  obtain ⟨es, n, Dk, hd⟩ := D
  obtain ⟨r, hr, ho⟩ := hd z
  rw [hv] at ho
  cases r with
  | none => exact ho.elim
  | some u => exact ⟨a, z, v, rfl, rfl, ⟨es, n, u, Dk.at_, Dk.lit, hr, ho⟩, q H1 (Ex.refl H1)⟩
abbrev EntRel : (Str × V) → DictEntry → Prop := fun kv e => (∃ t, e.key = .str kv.1 t) ∧ RelV kv.2 e.val
theorem dicK_of {a : Addr} {n : Nat} {es : List DictEntry} {kvs : List (Str × V)} (hl : K.lookup a = some ⟨.type "dict", none, .dict es.toArray n, #[]⟩) (hk : PySem.W.KeysLit w.params es) (low : (a == sysModules) = false) (hp : Paired EntRel kvs es) : DicK K w a kvs := by
  refine ⟨es.toArray, n, ⟨hl, hk, low⟩, fun z => ?_⟩
  unfold PySem.W.nsIn
  rw [hl]
  dsimp only
  have hf : RelO (lookS z kvs) ((es.find? fun e => e.key.isStr z).map (·.val)) ∧ es.any (·.refKey) = false := by
    clear hl hk low
    induction hp with
    | nil => exact ⟨trivial, rfl⟩
    | @cons kv e kvs es h hr ih =>
      obtain ⟨⟨t, ht⟩, rv⟩ := h
      have he : e.key.isStr z = decide (kv.1 = z) := by rw [ht]; rfl
      have hr2 : e.refKey = false := by unfold DictEntry.refKey; rw [ht]
      refine ⟨?_, by rw [List.any_cons, hr2]; exact ih.2⟩
      unfold lookS
      rw [List.find?_cons, List.find?_cons, he]
      cases decide (kv.1 = z) with
      | true => exact rv
      | false => exact ih.1
  obtain ⟨h1, h2⟩ := hf
  cases hx : es.find? fun e => e.key.isStr z with
  | some e =>
    rw [hx] at h1
    exact ⟨some e.val, rfl, h1⟩
  | none =>
    rw [hx] at h1
    refine ⟨none, ?_, h1⟩
    dsimp only
    rw [if_neg (by rw [h2]; decide)]
theorem eda_star (h : EvD K te σ Hd (.list ds)) (hr : EvDA K tr σ Hd es) : EvDA K (StX.tStar K te tr) σ Hd (ds ++ es) := fun H s Q q =>
  h H s _ fun v H1 Hn g hd => by
    cases hd with
    | @lst a xs ds hs hall => exact ⟨a, xs, rfl, Or.inr (ex_l g.sub hs), hr.mono g.dx H1 g.sub _ fun ys H2 Hm g2 h2 => q (xs ++ ys) H2 Hm (g.trans g2) (dpa_app (dpa_mono g2.dx _ hall) h2)⟩
/-- a test of each sign of a text -/
theorem en_signs {z : Str} {f : Nat → Bool} {vs : List Nat} (h : Ev tl σ Hd (.str z)) (hl : z.length ≤ 40000)
    (ht : ∀ (σ2 : L2.St) (Hn : Hp) (k : Nat), Ex Hd Hn → σ2 = (wipe σ vs).set j (some (.str (sg k))) → wipe σ2 vs = wipe σ vs ∧ Ev te σ2 Hn (.bl (f k))) :
    EvN K (tLc (iStr tl) (gName j) tYes te vs) σ Hd ((z.cps.toList.map f).map .bool) := by
  have e1 : (z.cps.toList.map f).map PyData.bool = givenD z.length (fun _ => true) (fun i => .bool (f ((z.cps.toList[i]?).getD 0))) := by
    rw [givenD_all]
    apply List.ext_getElem
    · simp [Str.length]
    · intro i h1 h2
      simp at h1
      simp [h1]
  rw [e1]
  refine en_lc (ei_str (K := K) h) hl _ _ ?_
  rintro i σ2 Hn hi ex ⟨v, d, hd, hv, rfl⟩
  unfold sigs at hd
  rw [List.getElem?_map] at hd
  obtain ⟨k, hk, rfl⟩ := Option.map_eq_some_iff.mp hd
  cases hv
  obtain ⟨a1, a2⟩ := ht _ Hn k ex rfl
  exact ⟨a1, et_yes, fun _ => by rw [hk]; exact ed_bool a2⟩
theorem dpa_strs : ∀ (l : List Str), DpAll K Hd (l.map V.str) (l.map PyData.str)
  | [] => .nil
  | x :: l => .cons (.str x) (dpa_strs l)
end
end Cot
set_option Elab.async false
set_option linter.all false
set_option maxRecDepth 100000
set_option maxHeartbeats 4000000
namespace Cot
open PySem PySem.Spec PyProof.Rows L2 Evl
end Cot
set_option Elab.async false
set_option linter.all false
set_option maxRecDepth 100000
set_option maxHeartbeats 4000000
namespace Cot
open PySem PySem.Spec PyProof.Rows L2 LamX PySem.W Evl
section
variable {prog : Program} {w : World} {A : Around} {E : Value → Shared → Prop} {s : Shared}
/-- a[k], a local that holds a tuple -/
theorem loc_item {env : Env} {a : Str} {t : Addr} {its : Array Value} {k : Nat} {x : Value} {j : Nat} {p1 p2 p3 : Pos} {m : Str → Option Value} {Q : Value → Shared → Prop} (hk : env.scope.kind = .function) (hl : env.kindOf a = some .local) (hn : s.heap.Ns env.locals m) (hm : m a = some (.ref t)) (ht : IsTup s.heap t its) (hsz : its.size ≤ 1000) (hx : its[k]? = some x) (hd : (a == ("__debug__" : Str)) = false) (h : Q x { s with toks := s.toks + 1 }) :
    wpAny (model prog w) A (eval (.Subscript (.Name a p1) (.Constant (.int (k : Int)) j p2) p3) env) Q E s := by
  have hlt : k < its.size := (Array.getElem?_eq_some_iff.mp hx).1
  refine Subscript_ (wpAny_Name (wpAny_loadName_local hk hl hn hm (wpAny_Constant_int ?_)) hd)
  have pl : IsTup ({ s with toks := s.toks + 1 } : Shared).heap t its := ht
  refine subscriptTail_builtinR (x := x) pl.typeIs slot_tuple_getitem.lookup (getItem_tuple (j := k) (Q := fun r s' => r = x ∧ Q r s') pl (by omega) (by omega) ?_ hx ⟨rfl, h⟩) rfl
  exact (by unfold seqIndex?; simp; omega)
/-- (a[k], a[k2]) -/
theorem loc_pair {env : Env} {a : Str} {t : Addr} {its : Array Value} {k k2 : Nat} {x y : Value} {j j2 j3 : Nat} {p1 p2 p3 p4 p5 p6 p7 : Pos} {m : Str → Option Value} {Q : Value → Shared → Prop} (hk : env.scope.kind = .function) (hl : env.kindOf a = some .local) (hn : s.heap.Ns env.locals m) (hm : m a = some (.ref t)) (ht : IsTup s.heap t its) (hsz : its.size ≤ 1000) (hx : its[k]? = some x) (hy : its[k2]? = some y) (hd : (a == ("__debug__" : Str)) = false)
    (h : Q (.ref s.heap.objs.size) { s with toks := s.toks + 1 + 1, heap := s.heap.push { cls := .type "tuple", data := .seq [x, y].toArray } }) :
    wpAny (model prog w) A (eval (.Tuple [.Subscript (.Name a p1) (.Constant (.int (k : Int)) j p2) p3, .Subscript (.Name a p4) (.Constant (.int (k2 : Int)) j2 p5) p6] j3 p7) env) Q E s := by
  refine wpAny_Tuple_spliced ?_
  show wpAny _ _ (spliced [(false, eval _ env), (false, eval _ env)]) _ _ s
  refine Calls.spliced_cons (loc_item hk hl hn hm ht hsz hx hd ?_)
  refine Calls.spliced_cons (loc_item (s := { s with toks := s.toks + 1 }) hk hl hn hm ht hsz hy hd ?_)
  exact Calls.spliced_nil ⟨by show 2 ≤ sizeLine; decide, h⟩
/-- a lambda's scope: one parameter, nothing else -/
structure LamP (a : Str) (scope : Scope) : Prop where
  kind : scope.kind = .function
  co : scope.isCoroutine = false
  gen : scope.isGenerator = false
  cell : ∀ x ∈ scope.names, x.2 ≠ .cell
  loc : scope.names.lookup a = some .local
def lamPB (a : Str) (scope : Scope) : Bool := decide (scope.kind = .function) && !scope.isCoroutine && !scope.isGenerator && scope.names.all (fun x => !decide (x.2 = .cell)) && decide (scope.names.lookup a = some .local)
theorem lamP_by {a : Str} {scope : Scope} (h : lamPB a scope = true) : LamP a scope := by
  unfold lamPB at h
  simp only [Bool.and_eq_true, Bool.not_eq_true', decide_eq_true_eq, List.all_eq_true, decide_eq_false_iff_not] at h
  obtain ⟨⟨⟨⟨h1, h2⟩, h3⟩, h4⟩, h5⟩ := h
  exact ⟨h1, h2, h3, h4, h5⟩
theorem lam_pair {f c' t : Addr} {q a : Str} {params : Arguments} {scope : Scope} {cl : List (Str × Addr)} {pm ctv : Value} {its : Array Value} {k k2 : Nat} {i i2 : Int} {u u2 : Tok} {j j2 j3 : Nat} {p1 p2 p3 p4 p5 p6 p7 : Pos}
    (of0 : s.heap.get? f = some (PySem.W.kla_obj "<lambda>" q params (.Tuple [.Subscript (.Name a p1) (.Constant (.int (k : Int)) j p2) p3, .Subscript (.Name a p4) (.Constant (.int (k2 : Int)) j2 p5) p6] j3 p7) scope cl pm c' ctv)) (L : LamP a scope) (hcd : s.heap.CodeRec (.ref c') q) (lim : s.heap.NoLimit) (hroom : A.depth < recursionLimit)
    (bnd : ∀ (v : Value) (body : Expr) (q : Str) (cl : List (Str × Addr)) (pm cv ctv : Value), bindArgs (PySem.W.kla_fn "<lambda>" q params body scope cl pm cv ctv) ⟨[v], []⟩ = pure [(a, v)])
    (ht : IsTup s.heap t its) (hsz : its.size ≤ 1000) (hx : its[k]? = some (.int i u)) (hy : its[k2]? = some (.int i2 u2)) (hd : (a == ("__debug__" : Str)) = false) :
    wpAny (model prog w) A (call (.ref f) [.ref t]) (PySem.W.KeyPure (.tuple [.int i, .int i2]) s) E s := by
  refine wpAny_call (PySem.W.kla_callFunE hroom of0 rfl L.co L.gen rfl hcd ?_)
  rw [bnd]
  apply wpAny_pure
  refine wpAny_newFunctionEnv L.cell (fun x hx => ?_) (fun hn ns sb => ⟨?_, PySem.W.kla_codeExpr ?_⟩) L.kind
  · rw [List.mem_singleton.mp hx]
    exact L.loc
  · exact lim.keeps fun b o e => sb.extBut b o (Nat.ne_of_lt (Heap.lt_size e)) (Heap.get?_push_of_some _ e)
  have keep : ∀ b o, s.heap.get? b = some o → hn.get? b = some o := fun b o e => sb.extBut b o (Nat.ne_of_lt (Heap.lt_size e)) (Heap.get?_push_of_some _ e)
  have htn : IsTup hn t its := by
    obtain ⟨ob, ho, hc⟩ := ht
    exact ⟨ob, keep _ _ ho, hc⟩
  refine loc_pair (m := fun x => [(a, Value.ref t)].reverse.lookup x) L.kind L.loc ns (by simp) htn hsz hx hy hd ?_
  exact ⟨_, _, rfl, fun b o e => Heap.get?_push_of_some _ (keep b o e), .tuple (Heap.get?_push_size _ rfl) rfl rfl (.cons (.int i u) (.cons (.int i2 u2) .nil))⟩
end
abbrev entE (e : List Int) : PyData := .tuple (e.map .int)
def keyLe (k k2 : Nat) (p q : List Int) : Bool := decide (p.getD k 0 < q.getD k 0 ∨ (p.getD k 0 = q.getD k 0 ∧ p.getD k2 0 ≤ q.getD k2 0))
def sortE (k k2 : Nat) (es : List (List Int)) : List (List Int) := es.mergeSort (keyLe k k2)
def tSortL (K : PySem.W.Frag) (Tt : List (Addr × Str)) (k k2 : Nat) (te : TE) : TE := fun σ H Q => te σ H fun x H1 => ∃ (Hd : Hp) (es : List (List Int)), Ex Hd H1 ∧ Dp K H1 x (.list (es.map entE)) ∧ (∃ a xs, x = .ref a ∧ SqL K H1 a xs ∧ DpAll K Hd xs (es.map entE)) ∧ (∀ e ∈ es, k < e.length ∧ k2 < e.length ∧ e.length ≤ 1000) ∧ Tabs Tt H1 ∧
  ∀ H2 p ys, ExtN H1 H2 → Tabs Tt H2 → H2 p = none → DpAll K Hd ys ((sortE k k2 es).map entE) → Q (.ref p) (upd H2 p (.lst ys))
theorem eachIs_of {α γ : Type} {R : α → γ → Prop} : ∀ {vs : List α} {bs : List γ}, vs.length = bs.length → (∀ (i : Nat) (v : α) (b : γ), vs[i]? = some v → bs[i]? = some b → R v b) → EachIs R vs bs
  | [], [], _, _ => .nil
  | v :: vs, b :: bs, hl, h => .cons (h 0 v b rfl rfl) (eachIs_of (by simpa using hl) fun i v b h1 h2 => h (i + 1) v b (by simpa using h1) (by simpa using h2))
  | [], _ :: _, hl, _ => by simp at hl
  | _ :: _, [], hl, _ => by simp at hl
section
variable {X : Cx} {K : PySem.W.Frag}
theorem each_back {Hd : Hp} : ∀ {out : List Value} {es : List (List Int)}, EachIs (fun v e => ∃ t, v = Value.ref t ∧ Dp K Hd (.ref t) (entE e)) out es → ∃ ys, Vals ys out ∧ DpAll K Hd ys (es.map entE)
  | [], [], .nil => ⟨[], .nil, .nil⟩
  | v :: vs, e :: es, .cons ⟨t, hv, hd⟩ h => by
    obtain ⟨ys, h1, h2⟩ := each_back h
    subst hv
    exact ⟨.ref t :: ys, .cons rfl h1, .cons hd h2⟩
theorem pe_sortLam {e : Expr} {te : TE} {c Pt : Addr} {Tt : List (Addr × Str)} {a : Str} {params : Arguments} {scope : Scope} {n k k2 j j2 j3 : Nat} {p lpos kpos pos p1 p2 p3 p4 p5 p6 p7 : Pos}
    (eK : X.K = K) (hc : X.calm = true) (hg : Gl X "sorted") (hm : X.mg "sorted" = none) (he : PE X e te) (TB : TabB X.base X.mg c Pt) (hcode : X.env.code = .ref c) (hmT : (Pt, X.env.qual ++ "<lambda>") ∈ Tt) (hu : ∀ q ∈ Tt, q.1 = Pt → q.2 = X.env.qual ++ "<lambda>") (hr : Room (n + 3) X.A)
    (L : LamP a scope) (hfree : ∀ y ∈ scope.names, y.2 = .free → ∃ c, X.env.cells.lookup y.1 = some c) (hdef : defaultsOf params X.env = ([], []))
    (bnd : ∀ (v : Value) (body : Expr) (q : Str) (cl : List (Str × Addr)) (pm cv ctv : Value), bindArgs (PySem.W.kla_fn "<lambda>" q params body scope cl pm cv ctv) ⟨[v], []⟩ = pure [(a, v)])
    (hd : (a == ("__debug__" : Str)) = false := by decide) (hs : backTo pos (starEach [e] X.env) = (false, eval e X.env) :: backTo pos (starEach [] X.env) := by rfl) :
    PE X (.Call (.Name "sorted" p) [e] [⟨some "key", .Lambda params (.Tuple [.Subscript (.Name a p1) (.Constant (.int (k : Int)) j p2) p3, .Subscript (.Name a p4) (.Constant (.int (k2 : Int)) j2 p5) p6] j3 p7) scope lpos, kpos⟩] pos) (tSortL K Tt k k2 te) := by
  subst eK
  refine ⟨fun pins s σ H Q I h => ?_⟩
  refine wpAny_Call_Name_kw (ld_blt I hg hm boot_sorted ?_ (by decide) (by decide))
  refine PyProof.Rows.callWith_kw (rest := []) ?_ hs (by rw [hs]; rfl) (by rfl) (by rfl)
  rw [hs]
  refine Calls.spliced_cons (thn (he.run pins s σ H _ I h) fun u s1 ⟨x, H1, I1, rx, hq⟩ => ?_)
  refine Calls.spliced_nil ?_
  obtain ⟨Hd, es, sx, hdx, ⟨l, xs, rfl, hsl, hall⟩, hes, hT, q⟩ := hq
  cases rx
  show wpAny _ _ (evalAll [do let v ← eval (.Lambda params _ scope lpos) X.env; standAt pos; pure v]) _ _ s1
  refine wpAny_evalAll_cons (wpAny_bind (lam_make2 I1 TB hcode hmT hu hT hdef hfree fun f c' pm ctv H2 s2 I2 eN T2 of0 nf ff hco => ?_))
  refine wpAny_bind (wpAny_standAt (wpAny_pure (wpAny_evalAll_nil ?_)))
  show wpAny _ _ (call (.builtin "sorted") [.ref l] [(Str.ofString "key", .ref f)]) _ _ s2
  have hsl2 : SqL X.K H2 l xs := by
    rcases hsl with (h | ⟨o, h⟩) | ⟨o, its, n, h1, h2, h3, h4⟩
    · exact .inl (.inl (eN _ _ h fun ps z => by cases z))
    · exact .inl (.inr ⟨o, eN _ _ h fun ps z => by cases z⟩)
    · exact .inr ⟨o, its, n, h1, h2, h3, h4⟩
  have hst : ∀ {t : Addr} {ys : List V}, SqT X.K Hd t ys → SqT X.K H2 t ys := fun {t ys} h => by
    rcases h with (h | ⟨o, h⟩) | ⟨o, its, n, h1, h2, h3, h4⟩
    · exact .inl (.inl (eN _ _ (sx _ _ h) fun ps z => by cases z))
    · exact .inl (.inr ⟨o, eN _ _ (sx _ _ h) fun ps z => by cases z⟩)
    · exact .inr ⟨o, its, n, h1, h2, h3, h4⟩
  obtain ⟨its, rv, hl, hz⟩ := I2.list hsl2
  have hlen : its.length = es.length := by
    have h1 := rv.length
    have h2 := dpa_len hall
    rw [List.length_map] at h2
    omega
  have each : EachIs (fun v e => ∃ t, v = Value.ref t ∧ Dp X.K Hd (.ref t) (entE e)) its es := eachIs_of hlen fun i v e hv he => by
    obtain ⟨v', hv', hd'⟩ := dpa_get hall (by rw [List.getElem?_map, he]; rfl : (es.map entE)[i]? = some (entE e))
    obtain ⟨u', hu', ru'⟩ := rv.get hv'
    rw [hv] at hu'
    cases hu'
    have h3 := hd'
    cases hd' with
    | @tup t ys ds hs2 hall2 =>
      cases ru'
      exact ⟨t, rfl, h3⟩
  obtain ⟨⟨oc, vs, tk0, hoc, hdc, hvc⟩, _, _⟩ := I2.hok c' _ hco
  refine sorted_key_data (b := false) (fun e : List Int => .tuple [.int (e.getD k 0), .int (e.getD k2 0)]) hl.isList each (AllAlike.of fun _ _ => by simp [alike, alikeAll]) (Sortable.tuples fun _ => ⟨_, _, rfl⟩) (by rw [← hlen]; have := rv.length; omega) (fun e _ => ?_) (ksk_s1 _ _) (fun _ => ksk_l1 _ _) (fun _ => ksk_t1 _ _)
    (fun v e ⟨t, hv, hdt⟩ hem h tk kp => ?_) fun out c h' tk kp fr hD hol eo => ?_
  · have hd : (PyData.tuple [.int (e.getD k 0), .int (e.getD k2 0)]).depth = 1 := by simp [PyData.depth, PyData.depthAll]
    have := hr.un
    omega
  · subst hv
    obtain ⟨hk1, hk2, hk3⟩ := hes e hem
    cases hdt with
    | @tup t ys ds hs2 hall2 =>
      have ey := dpa_ints_inv hall2
      subst ey
      obtain ⟨tits, rvt, htt, _⟩ := I2.tuple (hst hs2)
      have htl : tits.length = e.length := by rw [← rvt.length, List.length_map]
      obtain ⟨x1, hx1, rx1⟩ := rvt.get (i := k) (x := .int (e.getD k 0)) (by rw [List.getElem?_map, List.getElem?_eq_getElem hk1]; simp [List.getD, List.getElem?_eq_getElem hk1])
      obtain ⟨x2, hx2, rx2⟩ := rvt.get (i := k2) (x := .int (e.getD k2 0)) (by rw [List.getElem?_map, List.getElem?_eq_getElem hk2]; simp [List.getD, List.getElem?_eq_getElem hk2])
      obtain ⟨u1, rfl⟩ := rx1
      obtain ⟨u2, rfl⟩ := rx2
      have htn : IsTup h t tits.toArray := by
        obtain ⟨ob, ho, hcc⟩ := htt
        exact ⟨ob, kp _ _ ho, hcc⟩
      exact lam_pair (s := { s2 with heap := h, toks := tk }) (kp _ _ of0) L ⟨c', oc, vs, tk0, rfl, kp _ _ hoc, hdc, hvc⟩ (I2.nolimit.keeps kp) hr.in1.in1.depth bnd htn (by simp; omega) (by simpa using hx1) (by simpa using hx2) hd
  · rw [dataLe_ii (β := List Int) (fun e => e.getD k 0) (fun e => e.getD k2 0)] at eo
    obtain ⟨ys, hv, hdy⟩ := each_back eo
    have hn : H2 (s2.heap.objs.size + 1) = none := I2.hok.fresh (Nat.le_succ _)
    exact ⟨.ref (s2.heap.objs.size + 1), upd H2 (s2.heap.objs.size + 1) (.lst ys), I2.laid (t' := tk) kp (Nat.le_succ _) ⟨by rw [hv.length, hol, ← hlen]; have := rv.length; omega, out, c, hv, hD⟩, rfl, q H2 _ ys eN T2 hn hdy⟩
end
end Cot
set_option Elab.async false
set_option linter.all false
set_option maxRecDepth 100000
set_option maxHeartbeats 4000000
namespace Cot
open PySem PySem.Spec PyProof.Rows L2 Evl LamX RZ
/-- a value that is there already -/
def tVal (v : V) : TE := fun _ H Q => Q v H
/-- no table -/
def NoTb (o : HO) : Prop := ∀ ps, o ≠ .tbl ps
theorem noTb_ins {C dx : Addr} {fs : List (Str × V)} : NoTb (.ins C dx fs) := fun ps z => by cases z
theorem noTb_dK {kvs : List (Key × V)} : NoTb (.dK kvs) := fun ps z => by cases z
theorem noTb_lst {xs : List V} : NoTb (.lst xs) := fun ps z => by cases z
theorem noTb_tup {xs : List V} : NoTb (.tup xs) := fun ps z => by cases z
/-- a step: the places of M may change, tables grow; Hn tells the data -/
structure GrW (T : List (Addr × Str)) (M : List Addr) (Hd H Hn H2 : Hp) : Prop where
  ex : ∀ a o, H a = some o → a ∉ M → NoTb o → H2 a = some o
  dx : Ex Hd Hn
  sub : Ex Hn H2
  fr : ∀ a o, H a = some o → NoTb o → Hd a = none → Hn a = none
  nt : ∀ a ps, Hn a ≠ some (.tbl ps)
  tb : Tabs T H2
  al : ∀ a o, H a = some o → NoTb o → ∃ o', H2 a = some o' ∧ NoTb o'
/-- how things stand: the data Hd, the tables of T, the places of M that are no data -/
structure Wld (T : List (Addr × Str)) (M : List Addr) (Hd H : Hp) : Prop where
  sub : Ex Hd H
  nt : ∀ a ps, Hd a ≠ some (.tbl ps)
  tb : Tabs T H
  mn : ∀ a ∈ M, Hd a = none ∧ ∃ o, H a = some o ∧ NoTb o
section
variable {K : PySem.W.Frag} {T : List (Addr × Str)} {M M' : List Addr} {b : Bid} {σ : L2.St} {H H' Hd Hd' Hn H1 H2 Hm : Hp} {ta tb tc te tx : TE} {t u tt : TT} {x y z v v' : V} {d : PyData} {ds es : List PyData} {tr : TA} {D : Ends} {tu tw tz : TS} {i j : Nat}
theorem Wld.step (W : Wld T M Hd H) (g : GrW T M' Hd H Hn H2) : Wld T M Hn H2 := ⟨g.sub, g.nt, g.tb, fun a ha => by
  obtain ⟨h1, o, h2, h3⟩ := W.mn a ha
  exact ⟨g.fr a o h2 h3 h1, g.al a o h2 h3⟩⟩
theorem Wld.ext (W : Wld T M Hd H) (e : Ex H H2) : Wld T M Hd H2 := ⟨W.sub.trans e, W.nt, W.tb.ext e, fun a ha => by
  obtain ⟨h1, o, h2, h3⟩ := W.mn a ha
  exact ⟨h1, o, e _ _ h2, h3⟩⟩
theorem Wld.sup (W : Wld T M Hd H) (h : ∀ a ∈ M', a ∈ M) : Wld T M' Hd H := ⟨W.sub, W.nt, W.tb, fun a ha => W.mn a (h a ha)⟩
theorem Wld.nil (W : Wld T M Hd H) : Wld T [] Hd H := W.sup fun a ha => by cases ha
theorem Wld.add {p : Addr} {o : HO} (W : Wld T M Hd H) (h1 : Hd p = none) (h2 : H p = some o) (h3 : NoTb o) : Wld T (p :: M) Hd H := ⟨W.sub, W.nt, W.tb, fun a ha => by
  rcases List.mem_cons.mp ha with rfl | ha
  · exact ⟨h1, o, h2, h3⟩
  · exact W.mn a ha⟩
theorem GrW.refl (W : Wld T M' Hd H) : GrW T M Hd H Hd H := ⟨fun _ _ h _ _ => h, Ex.refl _, W.sub, fun _ _ _ _ h => h, W.nt, W.tb, fun a o h n => ⟨o, h, n⟩⟩
theorem GrW.pre (e : Ex H H1) (g : GrW T M Hd H1 Hn H2) : GrW T M Hd H Hn H2 := ⟨fun a o h => g.ex a o (e a o h), g.dx, g.sub, fun a o h => g.fr a o (e a o h), g.nt, g.tb, fun a o h => g.al a o (e a o h)⟩
theorem GrW.post (g : GrW T M Hd H Hn H1) (e : Ex H1 H2) : GrW T M Hd H Hn H2 := ⟨fun a o h n z => e _ _ (g.ex a o h n z), g.dx, g.sub.trans e, g.fr, g.nt, g.tb.ext e, fun a o h n => by
  obtain ⟨o', h', n'⟩ := g.al a o h n
  exact ⟨o', e _ _ h', n'⟩⟩
theorem GrW.trans (g1 : GrW T M Hd H Hn H1) (g2 : GrW T M Hn H1 Hm H2) : GrW T M Hd H Hm H2 := ⟨fun a o h n z => g2.ex a o (g1.ex a o h n z) n z, g1.dx.trans g2.dx, g2.sub, fun a o h n hd => by
    obtain ⟨o', h', n'⟩ := g1.al a o h n
    exact g2.fr a o' h' n' (g1.fr a o h n hd), g2.nt, g2.tb, fun a o h n => by
    obtain ⟨o', h', n'⟩ := g1.al a o h n
    exact g2.al a o' h' n'⟩
theorem GrW.sup (g : GrW T M Hd H Hn H2) (h : ∀ a ∈ M, a ∈ M') : GrW T M' Hd H Hn H2 := ⟨fun a o ha n => g.ex a o ha fun z => n (h a z), g.dx, g.sub, g.fr, g.nt, g.tb, g.al⟩
theorem GrW.ext (W : Wld T M' Hd H) (e : Ex H H2) : GrW T M Hd H Hd H2 := (GrW.refl W).post e
theorem noT_nt : ∀ a ps, noT H a ≠ some (.tbl ps) := fun a ps h => (noT_some h).2 ps rfl
theorem GrW.of (W : Wld T M' Hd H) (g : Gr Hd H Hn H2) : GrW T M Hd H (noT Hn) H2 := ⟨fun a o h _ _ => g.ex a o h, fun a o h => noT_of (g.dx a o h) fun ps z => W.nt a ps (by rw [h, z]), noT_ex.trans g.sub, fun a o h _ hd => noT_none (g.fr a o h hd), noT_nt, W.tb.ext g.ex, fun a o h n => ⟨o, g.ex a o h, n⟩⟩
theorem GrW.ofB (W : Wld T M' Hd H) (B : Bx H b) (g : GrB b Hd H Hn H2) : GrW T [b.b] Hd H (noT Hn) H2 := ⟨fun a o h n _ => g.exb a o (fun z => n (by rw [z]; exact List.mem_cons_self)) h, fun a o h => noT_of (g.dx a o h) fun ps z => W.nt a ps (by rw [h, z]), noT_ex.trans g.sub, fun a o h _ hd => noT_none (g.fr a o h hd), noT_nt, tabs_box W.tb B g, fun a o h n => by
  by_cases e : a = b.b
  · obtain ⟨cells, xs, h', _⟩ := g.bx
    exact ⟨_, by rw [e]; exact h', noTb_lst⟩
  · exact ⟨o, g.exb a o e h, n⟩⟩
/-- neither a table nor a code object stands there -/
def NTb (H : Hp) (a : Addr) : Prop := (∀ ps, H a ≠ some (.tbl ps)) ∧ ∀ q, H a ≠ some (CodeO a q)
theorem ntb_ins {a C dx : Addr} {fs : List (Str × V)} (h : H a = some (.ins C dx fs)) : NTb H a := ⟨fun ps z => (by rw [h] at z; cases z), fun q z => (by rw [h] at z; unfold CodeO at z; cases z)⟩
theorem ntb_dK {a : Addr} {kvs : List (Key × V)} (h : H a = some (.dK kvs)) : NTb H a := ⟨fun ps z => (by rw [h] at z; cases z), fun q z => (by rw [h] at z; unfold CodeO at z; cases z)⟩
theorem ntb_lst {a : Addr} {xs : List V} (h : H a = some (.lst xs)) : NTb H a := ⟨fun ps z => (by rw [h] at z; cases z), fun q z => (by rw [h] at z; unfold CodeO at z; cases z)⟩
/-- nothing of the data changes, the places of M stand on, no table is among them -/
theorem GrW.chg (W : Wld T M' Hd H) (hm : ∀ a ∈ M, a ∈ M') (k : ∀ a o, H a = some o → a ∉ M → H2 a = some o) (al : ∀ a ∈ M, ∃ o, H2 a = some o ∧ NoTb o) (nt : ∀ a ∈ M, NTb H a) : GrW T M Hd H Hd H2 := by
  refine ⟨fun a o h n _ => k a o h n, Ex.refl _, fun a o h => k a o (W.sub a o h) fun z => ?_, fun _ _ _ _ h => h, W.nt, fun p hp => ?_, fun a o h n => ?_⟩
  · have := (W.mn a (hm a z)).1
    rw [h] at this
    cases this
  · obtain ⟨ps, h1, h2, h3⟩ := W.tb p hp
    refine ⟨ps, k _ _ h1 fun z => (nt _ z).1 ps h1, h2, fun pos cv hc => ?_⟩
    obtain ⟨c, e, hcd⟩ := h3 pos cv hc
    exact ⟨c, e, k _ _ hcd fun z => (nt _ z).2 _ hcd⟩
  · by_cases z : a ∈ M
    · exact al a z
    · exact ⟨o, k a o h z, n⟩
/-- tables alone have grown -/
theorem GrW.tabs (W : Wld T M' Hd H) (e : ExtN H H2) (t : Tabs T H2) : GrW T M Hd H Hd H2 := ⟨fun a o h _ n => e a o h n, Ex.refl _, fun a o h => e a o (W.sub a o h) fun ps z => W.nt a ps (by rw [h, z]), fun _ _ _ _ h => h, W.nt, t, fun a o h n => ⟨o, e a o h n, n⟩⟩
/-- nothing but perhaps a table stood there -/
def NewAt (H : Hp) (p : Addr) : Prop := ∀ o, H p = some o → ¬ NoTb o
theorem newAt_none {p : Addr} (h : H p = none) : NewAt H p := fun o z => by rw [h] at z; cases z
theorem NewAt.ext {p : Addr} (n : NewAt H2 p) (e : Ex H H2) : NewAt H p := fun o z => n o (e _ _ z)
theorem NewAt.ne {a p : Addr} {o : HO} (n : NewAt H p) (h : H a = some o) (z : NoTb o) : a ≠ p := fun e => n o (by rw [← e]; exact h) z
theorem NewAt.back {p : Addr} (n : NewAt H2 p) (g : GrW T M Hd H Hn H2) : NewAt H p := fun o h z => by
  obtain ⟨o', h', z'⟩ := g.al p o h z
  exact n o' h' z'
theorem NewAt.data {p : Addr} (n : NewAt H p) (s : Ex Hd H) (nt : ∀ a ps, Hd a ≠ some (.tbl ps)) : Hd p = none := by
  cases q : Hd p with
  | none => rfl
  | some o => exact absurd (fun ps z => nt p ps (by rw [q, z])) (n o (s _ _ q))
/-- a new thing counted to the data -/
theorem GrW.keep {p : Addr} {o : HO} (g : GrW T M Hd H Hn H2) (h : NewAt H p) (hn : Hn p = none) (h2 : H2 p = some o) (no : NoTb o) : GrW T M Hd H (upd Hn p o) H2 := ⟨g.ex, g.dx.trans (Ex.new hn), fun a u ha => by
    by_cases e : a = p
    · subst e
      rw [upd_same] at ha
      rw [h2, ha]
    · rw [upd_ne e] at ha
      exact g.sub a u ha, fun a u ha n hd => by
    rw [upd_ne (h.ne ha n)]
    exact g.fr a u ha n hd, fun a ps z => by
    by_cases e : a = p
    · subst e
      rw [upd_same] at z
      cases z
      exact no _ rfl
    · rw [upd_ne e] at z
      exact g.nt a ps z, g.tb, g.al⟩
/-- what an evaluation leaves, in any world -/
def EvW (T : List (Addr × Str)) (M : List Addr) (te : TE) (σ : L2.St) (Hd H : Hp) (P : V → Hp → Hp → Prop) : Prop := ∀ H1, Ex H H1 → ∀ Q : VK, (∀ v H2 Hn, GrW T M Hd H1 Hn H2 → P v Hn H2 → Q v H2) → te σ H1 Q
variable {P P2 : V → Hp → Hp → Prop}
theorem EvW.imp (h : EvW T M te σ Hd H P) (k : ∀ v Hn H2, GrW T M Hd H Hn H2 → P v Hn H2 → P2 v Hn H2) : EvW T M te σ Hd H P2 := fun H1 e1 Q q => h H1 e1 Q fun v H2 Hn g p => q v H2 Hn g (k v Hn H2 (g.pre e1) p)
theorem ew_ev (W : Wld T M' Hd H) (h : Ev te σ H v) : EvW T M te σ Hd H (fun u Hn H2 => u = v ∧ Hn = Hd ∧ Ex H H2) := fun H1 e1 Q q => h H1 e1 Q fun H2 e2 => q v H2 Hd (GrW.ext (W.ext e1) e2) ⟨rfl, rfl, e1.trans e2⟩
theorem ew_ed (W : Wld T M' Hd H) (h : EvD K te σ Hd d) : EvW T M te σ Hd H (fun u Hn H2 => Dp K Hn u d ∧ Ex H H2) := fun H1 e1 Q q => h H1 (W.sub.trans e1) Q fun v H2 Hn g hd => q v H2 _ (GrW.of (W.ext e1) g) ⟨dp_noT _ hd, e1.trans g.ex⟩
theorem ew_eb {p : PyData → Prop} (W : Wld T M' Hd H) (hb : b.b ∈ M') (B : Bx H b) (h : EvB K b te σ Hd p) : EvW T [b.b] te σ Hd H (fun u Hn H2 => Bx H2 b ∧ ∃ d, Dp K Hn u d ∧ p d) := fun H1 e1 Q q => h (W.mn _ hb).1 H1 (W.sub.trans e1) (B.mono e1) Q fun v H2 Hn d g hd hp => q v H2 _ (GrW.ofB (W.ext e1) (B.mono e1) g) ⟨g.bx, d, dp_noT _ hd, hp⟩
theorem EvW.sup (h : EvW T M te σ Hd H P) (k : ∀ a ∈ M, a ∈ M') : EvW T M' te σ Hd H P := fun H1 e1 Q q => h H1 e1 Q fun v H2 Hn g p => q v H2 Hn (g.sup k) p
theorem go_bind {C : TE → TS} (h : EvW T M te σ Hd H P) (k : ∀ v H2 Hn, GrW T M Hd H Hn H2 → P v Hn H2 → Go (C (tVal v)) D σ H2) (hC : ∀ te D σ H, C te D σ H = te σ H fun v H1 => C (tVal v) D σ H1 := by intros; rfl) : Go (C te) D σ H := fun H1 e1 => by
  rw [hC]
  exact h H1 e1 _ fun v H2 Hn g p => k v H2 Hn (g.pre e1) p H2 (Ex.refl _)
theorem ev_val : Ev (tVal v) σ H v := fun H1 _ _ q => q H1 (Ex.refl H1)
theorem ed_val (h : Dp K Hd v d) : EvD K (tVal v) σ Hd d := ed_ev ev_val h
section
variable {X : Cx} {e : Expr} {f : Str} {pos : Pos} {p C dx : Addr} {fs : List (Str × V)}
theorem pb_fld (eK : X.K = K) (he : PE X e ta) (hb : attributeBase e f X.env (eval e X.env) = eval e X.env := by rfl) : PE X (.Attribute e f pos) (tFld K ta f) := by
  subst eK
  exact pe_fld he hb
theorem ev_fld (ha : Ev ta σ H (.ref p)) (hi : H p = some (.ins C dx fs)) (c : Cls K C) (n : NoAttr K C f) (l : fs.lookup f = some v) : Ev (tFld K ta f) σ H v := fun H1 e1 Q q =>
  ha H1 e1 _ fun H2 e2 => ⟨p, C, dx, fs, v, rfl, e2 _ _ (e1 _ _ hi), c, n, l, q H2 e2⟩
end
end
def gNs : List Nat → TGs
  | [] => gNil
  | j :: js => gCons (gName j) (gNs js)
def setAll : L2.St → List Nat → List V → L2.St
  | σ, j :: js, v :: vs => setAll (σ.set j (some v)) js vs
  | σ, _, _ => σ
section
variable {K : PySem.W.Frag} {H H' Hd Hd' Hn H1 H2 Hm : Hp} {σ : L2.St} {tl : TE} {js : List Nat} {n : Nat}
theorem gNs_run : ∀ {js : List Nat} {vs : List V} {σ : L2.St} {H : Hp} {Q : L2.St → Hp → Prop}, vs.length = js.length → Q (setAll σ js vs) H → gNs js vs σ H Q
  | [], [], _, _, _, _, q => ⟨rfl, q⟩
  | j :: js, v :: vs, _, _, _, h, q => ⟨v, vs, rfl, gNs_run (by simpa using h) q⟩
def SInts (js : List Nat) (es : List (List Int)) (i : Nat) (σ' σ2 : L2.St) (_ : Hp) : Prop := ∃ e, es[i]? = some e ∧ σ2 = setAll σ' js (e.map V.int)
theorem ints_of {e : List Int} {v : V} (h : Dp K H v (entE e)) : ∃ t, v = .ref t ∧ SqT K H t (e.map V.int) := by
  cases h with
  | @tup t ys ds hs hall =>
    have e2 := dpa_ints_inv hall
    subst e2
    exact ⟨t, rfl, hs⟩
/-- a list of tuples of ints, walked -/
theorem ei_ints {es : List (List Int)} {gs : TGs} (h : EvD K tl σ Hd (.list (es.map entE))) (hn : ∀ e ∈ es, e.length = n) (hj : js.length = n) (hg : gNs js = gs) : EvI K (iList K tl) (gTup K n gs) σ Hd es.length (SInts js es) := fun H s R r =>
  h H s _ fun v H2 Hn g hd => by
    subst hg
    cases hd with
    | @lst a xs ds hs hall =>
      refine ⟨a, rfl, ⟨xs, ex_l g.sub hs⟩, r _ H2 Hn _ _ g (by rw [← es.length_map (f := entE), ← dpa_len hall]; exact walk_list) (fun H' e => ex_l e hs) fun i x H' H'' σ' k hi e y q => ?_⟩
      obtain ⟨rfl, hx⟩ := y
      obtain ⟨d, h1, h2⟩ := dpa_get2 hall hx
      rw [List.getElem?_map] at h1
      cases he : es[i]? with
      | none =>
        rw [he] at h1
        cases h1
      | some e1 =>
        rw [he] at h1
        cases h1
        obtain ⟨t, rfl, ht⟩ := ints_of h2
        have hl := hn e1 (List.mem_of_getElem? he)
        exact ⟨t, _, rfl, ex_t e ht, by rw [List.length_map, hl], gNs_run (by rw [List.length_map, hl, hj]) (q _ _ (Ex.refl _) ⟨e1, he, rfl⟩)⟩
/-- d.items() of a locked dict whose keys are ints and whose values are tuples of ints: n, (a, .. ) -/
theorem ei_items {td : TE} {dd : Addr} {o : Obj} {kvs : List (Key × V)} {es : List (Int × List Int)} {j : Nat} {gs : TGs} (h : Ev td σ Hd (.ref dd)) (hf : Hd dd = some (.frz o (.dK kvs))) (hl : kvs.length = es.length)
    (hk : ∀ (i : Nat) (k : Key) (v : V), kvs[i]? = some (k, v) → ∃ (n : Int) (e : List Int) (t : Addr), es[i]? = some (n, e) ∧ kV k = .int n ∧ v = .ref t ∧ SqT K Hd t (e.map V.int)) (hn : ∀ e ∈ es, e.2.length = n) (hj : js.length = n) (hg : gNs js = gs) :
    EvI K (iItems td) (gTup K 2 (gCons (gName j) (gCons (gTup K n gs) gNil))) σ Hd es.length (fun i σ' σ2 _ => ∃ e, es[i]? = some e ∧ σ2 = setAll σ' (j :: js) (.int e.1 :: e.2.map V.int)) := fun H s R r =>
  h H s _ fun H2 e2 => by
    subst hg
    refine ⟨dd, o, kvs, rfl, (s.trans e2) _ _ hf, r _ H2 Hd _ _ (Gr.ext s e2) (by rw [← hl]; exact walk_items) (fun H' e => e _ _ hf) fun i x H' H'' σ' k hi e y q => ?_⟩
    obtain ⟨T, a, c, rfl, hT, rfl, h1, h2⟩ := y
    have hil : i < kvs.length := by omega
    obtain ⟨n1, e1, t, h3, h4, h5, h6⟩ := hk i kvs[i].1 kvs[i].2 (by rw [List.getElem?_eq_getElem hil])
    dsimp only at h1 h2
    rw [List.getElem?_eq_getElem hil] at h1 h2
    rw [Option.map_some, h4] at h1
    rw [Option.map_some, h5] at h2
    cases h1
    cases h2
    have hl1 := hn _ (List.mem_of_getElem? h3)
    have eN : Ex H' (upd H' T (.tup [.int n1, .ref t])) := Ex.new hT
    exact ⟨T, [.int n1, .ref t], rfl, st_of upd_same, rfl, .int n1, [.ref t], rfl, .ref t, [], rfl, t, _, rfl, ex_t (e.trans eN) h6, by rw [List.length_map]; exact hl1, gNs_run (by rw [List.length_map, hj]; exact hl1) ⟨rfl, q _ _ eN ⟨(n1, e1), h3, rfl⟩⟩⟩
end
end Cot
set_option Elab.async false
set_option linter.all false
set_option maxRecDepth 100000
set_option maxHeartbeats 4000000
namespace Cot
open PySem PySem.Spec PyProof.Rows L2 Evl LamX
/-- a def whose code object is told -/
structure FunC (K : PySem.W.Frag) (x ql : Str) (st : Stmt) (f : Addr) (fd : FuncData) (c : Addr) : Prop where
  ex : ∃ (oc kV doc pm ct : Value) (od an : Option Addr) (osl : Array (Option Value)), fd = PySem.W.fnOf x ql (defArgs st) (defBody st) (defScope st) .none kV doc pm an (.ref c) ct ∧ K.lookup f = some ⟨oc, od, .func fd, osl⟩ ∧ PySem.W.codeIn K (.ref c) ql = true
  kp : PySem.W.keepIn K (.ref f) = true
/-- the name of what a def's lambda is -/
def lamQ (ql : Str) : Str := (ql ++ ".<locals>.") ++ "<lambda>"
theorem okC {P : Program} {w : World} {K : PySem.W.Frag} {mg : Str → Option Value} {base : Heap} {CX : CXT} {x ql : Str} {st : Stmt} {f c : Addr} {fd : FuncData} {N ps : List Str} {k : Nat} {sp : Sp} (F : FunC K x ql st f fd c) (S : FnScope N ps (defScope st)) (ln : ∀ vs H Q E, sp vs H Q E → vs.length = ps.length)
    (hb : ∀ (A : Around) (st2 : List Env) (s : Shared) (H : Hp) (vs : List V) (Q : VK) (E : XK), Room k (A.deeper (envOfC ql (defScope st) s.heap.objs.size f (.ref c))) → sp vs H Q E →
      ∃ t, PSs (cxOf CX P w K mg base N ql (defScope st) f (.ref c) A st2 s H E) (defBody st) t ∧ t { nx := fun _ H1 => Q .non H1, rt := Q } (L2.start N vs) H) : FnOk P w K mg base CX (k + 1) f fd ps sp := by
  obtain ⟨_, _, _, _, _, _, _, _, rfl, lk, hcd⟩ := F.ex
  exact fn_of lk hcd S ln fun A st2 s H vs Q E hr h => hb A st2 s H vs Q E hr h
theorem passN {X : Cx} : Passes (L2N.CX X.prog X.w) X (fun _ _ _ => False) := fun _ _ _ _ _ _ _ c => by
  obtain ⟨_, _, _, _, _, _, _, _, _, _, _, _, z⟩ := c
  exact z.elim
/-- okN for a def with defaults -/
theorem okND {P : Program} {w : World} {K : PySem.W.Frag} {mg : Str → Option Value} {base : Heap} {x ql : Str} {st : Stmt} {dvs : List V} {kws : List (Str × V)} {f : Addr} {fd : FuncData} {N ps : List Str} {k : Nat} {sp : Sp} (F : FunD K x ql (defArgs st) (defBody st) (defScope st) dvs kws f fd) (S : FnScope N ps (defScope st)) (ln : ∀ vs H Q E, sp vs H Q E → vs.length = ps.length)
    (hb : ∀ (cdv : Value) (A : Around) (st2 : List Env) (s : Shared) (H : Hp) (vs : List V) (Q : VK) (E : XK), Room k (A.deeper (envOfC ql (defScope st) s.heap.objs.size f cdv)) → sp vs H Q E →
      ∃ t, PSs (cxOf (L2N.CX P w) P w K mg base N ql (defScope st) f cdv A st2 s H E) (defBody st) t ∧ t { nx := fun _ H1 => Q .non H1, rt := Q } (L2.start N vs) H) : FnOk P w K mg base (L2N.CX P w) (k + 1) f fd ps sp := by
  obtain ⟨_, _, _, _, _, _, _, cdv, _, _, rfl, lk, hcd, _⟩ := F.ex
  exact fn_of lk hcd S ln fun A st2 s H vs Q E hr h => hb cdv A st2 s H vs Q E hr h
/-- a law's promise, with the tables that it and its methods keep -/
def spLawT (K : PySem.W.Frag) (ps : List Addr) : Sp := fun vs H Q _ => ∃ (a : Addr) (ns : List Int), vs = [.ref a] ∧ SqL K H a (ns.map V.int) ∧ ns.length ≤ 63 ∧ (∀ p ∈ ps, H p = some (.tbl #[])) ∧ ∀ H', Q (.bl true) H'
theorem tabs_start {H : Hp} {T : List (Addr × Str)} (h : ∀ p ∈ T.map (·.1), H p = some (.tbl #[])) : Tabs T H := fun p hp => TabS.nil (h p.1 (List.mem_map.mpr ⟨p, hp, rfl⟩))
theorem tabs_uniq {T : List (Addr × Str)} (nd : (T.map (·.1)).Nodup) {P : Addr} {q : Str} (h : (P, q) ∈ T) : ∀ r ∈ T, r.1 = P → r.2 = q := by
  induction T with
  | nil => cases h
  | cons a T ih =>
    rw [List.map_cons, List.nodup_cons] at nd
    intro r hr e
    rcases List.mem_cons.mp h with e1 | h
    · rcases List.mem_cons.mp hr with e2 | hr
      · rw [e2, ← e1]
      · exact absurd (List.mem_map.mpr ⟨r, hr, by rw [e, ← e1]⟩) nd.1
    · rcases List.mem_cons.mp hr with e2 | hr
      · exact absurd (List.mem_map.mpr ⟨(P, q), h, by rw [← e2, e]⟩) nd.1
      · exact ih nd.2 h r hr e
end Cot
namespace Cot
open PySem L2
theorem noFree {names : List (Str × NameKind)} {cells : List (Str × Addr)} (h : names.all (fun x => !decide (x.2 = .free)) = true) : ∀ y ∈ names, y.2 = .free → ∃ c, cells.lookup y.1 = some c := fun y hy hf => by
  have h1 := List.all_eq_true.mp h y hy
  rw [hf] at h1
  simp at h1
end Cot
set_option Elab.async false
set_option linter.all false
set_option maxRecDepth 100000
set_option maxHeartbeats 4000000
namespace Cot
open PySem PySem.Spec PyProof.Rows L2 Evl LamX PySem.Calls
section
variable {X : Cx} {CX : CXT} {k : Nat} {f C : Addr} {fd : FuncData} {ps : List Str} {sp : Sp} {E : XK}
/-- a def called in another surrounding -/
theorem run_fnA {A : Around} {pins : List (Addr × Obj)} {σ : L2.St} {H : Hp} {s : Shared} {Q : VK} {us : List Value} {vs : List V} (F : FnOk X.prog X.w X.K X.mg X.base CX k f fd ps sp) (hr : Room k A) (e0 : Env0 X.prog X.w X.K X.mg X.base A X.stack s H) (hb : Binds X.K fd ps []) (hx : Passes CX X E)
    (I : Inv X pins σ H s) (r : Vals vs us) (h : sp vs H Q E) : wpAny (model X.prog X.w) A (call (.ref f) us) (EP X pins σ Q) X.xe s := by
  have hl : us.length = ps.length := by rw [← r.length]; exact F.len _ _ _ _ h
  have b := hb s us I.kIn (by rw [List.append_nil]; exact hl)
  rw [List.append_nil] at b
  refine wpAny_call (codeAny_mono (F.run A X.stack s H ⟨us, []⟩ us vs Q E hr e0 b r h) fun r s' hq => ?_)
  cases r with
  | error e => exact hx pins σ H s e s' I hq
  | ok fl =>
    cases fl with
    | ret u => exact I.after hq
    | next => exact False.elim hq
    | brk => exact False.elim hq
    | cont => exact False.elim hq
/-- len(x), x an instance with its own __len__ -/
def rLenO (C : Addr) (sp : Sp) (E : XK) : List V → Hp → VK → Prop := fun vs H Q => ∃ a dx fs, vs = [.ref a] ∧ H a = some (.ins C dx fs) ∧ sp [.ref a] H (fun v H2 => ∃ n : Nat, v = .int (n : Int) ∧ n ≤ 1000000 ∧ Q (.int (n : Int)) H2) E
theorem call_lenO (m : Meth X.K C "__len__" f) (F : FnOk X.prog X.w X.K X.mg X.base CX k f fd ps sp) (hr : Room (k + 1) X.A) (hb : Binds X.K fd ps []) (hx : Passes CX X E) : CallR X (.builtin "len") (rLenO C sp E) := by
  intro pins s σ H xs us Q I r h
  obtain ⟨a, dx, fs, rfl, ha, q⟩ := h
  obtain ⟨u, rfl, ru⟩ := vals1 r
  obtain rfl : u = Value.ref a := ru
  obtain ⟨mA, O, _⟩ := ins_get I.hok ha
  obtain ⟨od, J, _⟩ := O.look
  refine call_function_entry kind_len plain_len entry_len (args_len1 _) ?_
  unfold Builtin.«len»
  refine wpAny_bind (m := oneArg "len" _) (wpAny_pure ?_)
  refine wpAny_bind (m := callSpecial? (.ref a) (Str.ofString "__len__")) (PySem.W.special_fn I.kIn J m.at_ (beq_iff_eq.mp m.fn) (wpAny_mono (run_fnA (us := [.ref a]) (vs := [.ref a]) F hr.in1 I.env0.in1 hb hx I (.cons rfl .nil) q) (fun r s' hr => ?_) fun _ _ y => y))
  obtain ⟨v, H', I', rv, n, rfl, hn, hq⟩ := hr
  obtain ⟨t, rfl⟩ := rv
  refine wpAny_bind (wpAny_holding (wpAny_pure ?_))
  refine wpAny_bind (wpAny_letGo ?_)
  show wpAny _ _ (if (n : Int) < 0 then _ else _) _ _ _
  rw [if_neg (by omega)]
  show wpAny _ _ (if (n : Int) ≥ 2 ^ 63 then _ else _) _ _ _
  rw [if_neg (by omega)]
  exact wpAny_bind (wpAny_mkInt (wpAny_pure ⟨_, rfl, .int (n : Int), H', I'.tok _, ⟨_, rfl⟩, hq⟩))
end
def rLenK : List V → Hp → VK → Prop := fun xs H Q => ∃ a kvs, xs = [V.ref a] ∧ H a = some (.dK kvs) ∧ Q (.int kvs.length) H
theorem call_lenK {X : Cx} : CallR X (.builtin "len") rLenK := call_lenD
def rDictK : List V → Hp → VK → Prop := fun xs H Q => ∃ (a : Addr) (kvs : List (Key × V)), xs = [.ref a] ∧ Rd H a (.dK kvs) ∧ ∀ p, H p = none → Q (.ref p) (upd H p (.dK kvs))
theorem call_dictK {X : Cx} : CallR X (.type "dict") rDictK := call_dictD
section
variable {K : PySem.W.Frag} {σ : L2.St} {H : Hp} {ta tb te : TE} {a : Addr} {kvs : List (Key × V)} {k : Key} {v : V} {D : Ends} {tz : TS}
theorem ev_lenK (h : Ev ta σ H (.ref a)) (hd : H a = some (.dK kvs)) : Ev (tCB rLenK (tCons ta tNil)) σ H (.int (kvs.length : Int)) := fun H1 e Q q => h H1 e _ fun H2 e2 => ⟨a, kvs, rfl, e2 _ _ (e _ _ hd), q H2 e2⟩
/-- del d[k] -/
theorem go_ddel (ho : Ev ta σ H (.ref a)) (hk : Ev tb σ H (kV k)) (hd : H a = some (.dK kvs)) (hi : (valV kvs k).isSome = true) (q : Go tz D σ (upd H a (.dK (dropK kvs k)))) : Go (tSeq (sDDel ta tb) tz) D σ H := fun H1 e1 =>
  ho H1 e1 _ fun H2 e2 => hk H2 (e1.trans e2) _ fun H3 e3 => ⟨a, kvs, k, rfl, ((e1.trans e2).trans e3) _ _ hd, rfl, hi, q _ (ex_upd2 ((e1.trans e2).trans e3))⟩
theorem ev_dnotin (hk : Ev ta σ H (kV k)) (ho : Ev tb σ H (.ref a)) (hd : H a = some (.dK kvs)) : Ev (tDNotIn ta tb) σ H (.bl (!(valV kvs k).isSome)) := fun H1 e1 Q q =>
  hk H1 e1 _ fun H2 e2 => ho H2 (e1.trans e2) _ fun H3 e3 => ⟨a, _, rfl, DGet.k (((e1.trans e2).trans e3) _ _ hd), q H3 (e2.trans e3)⟩
theorem ev_dgetI (ho : Ev ta σ H (.ref a)) (hk : Ev tb σ H (kV k)) (hd : H a = some (.dK kvs)) (hv : valV kvs k = some v) : Ev (tDGet ta tb) σ H v := fun H1 e1 Q q =>
  ho H1 e1 _ fun H2 e2 => hk H2 (e1.trans e2) _ fun H3 e3 => ⟨a, v, rfl, by rw [← hv]; exact DGet.k (((e1.trans e2).trans e3) _ _ hd), q H3 (e2.trans e3)⟩
/-- o.f = v -/
theorem go_fld {p C dx : Addr} {fs : List (Str × V)} {f : Str} (hv : Ev te σ H v) (ho : Ev ta σ H (.ref p)) (hi : H p = some (.ins C dx fs)) (c : Cls K C) (n : NoAttr K C f) (hl : fs.length < 1000) (q : Go tz D σ (upd H p (.ins C dx (putF f v fs)))) : Go (tSeq (sFld K ta te f) tz) D σ H := fun H1 e1 =>
  hv H1 e1 _ fun H2 e2 => ho H2 (e1.trans e2) _ fun H3 e3 => ⟨p, C, dx, fs, rfl, ((e1.trans e2).trans e3) _ _ hi, c, n, hl, q _ (ex_upd2 ((e1.trans e2).trans e3))⟩
/-- o.f = {} -/
theorem go_fldNew {p C dx : Addr} {fs : List (Str × V)} {f : Str} (ho : ∀ H, Ev ta σ H (.ref p)) (hi : H p = some (.ins C dx fs)) (c : Cls K C) (n : NoAttr K C f) (hl : fs.length < 1000) (q : ∀ d H', Ex H H' → H d = none → H' d = some (.dK []) → Go tz D σ (upd H' p (.ins C dx (putF f (.ref d) fs)))) : Go (tSeq (sFld K ta tDNewK f) tz) D σ H := fun H1 e1 d hd =>
  ho _ _ (Ex.refl _) _ fun H2 e2 => ⟨p, C, dx, fs, rfl, e2 _ _ ((Ex.new hd) _ _ (e1 _ _ hi)), c, n, hl, q d H2 (e1.trans ((Ex.new hd).trans e2)) (fresh_back e1 hd) (e2 _ _ upd_same) _ (Ex.refl _)⟩
/-- d[k] = (x, ..) -/
theorem go_dputT {dd : Addr} {tr : TA} {xs : List V} (ho : Ev ta σ H (.ref dd)) (hk : Ev tb σ H (kV k)) (hv : EvA tr σ H xs) (hd : H dd = some (.dK kvs)) (hl : kvs.length < 1000000) (hx : xs.length ≤ 1000) (q : ∀ t H', Ex H H' → H t = none → H' t = some (.tup xs) → Go tz D σ (upd H' dd (.dK (putK kvs k (.ref t))))) : Go (tSeq (sDPut ta tb (tTup tr)) tz) D σ H := fun H1 e1 =>
  hv H1 e1 _ fun H2 e2 => ⟨by rw [sizeLine_eq]; omega, fun t ht => by
    have f2 : Ex H2 (upd H2 t (.tup xs)) := Ex.new ht
    have e3 : Ex H (upd H2 t (.tup xs)) := (e1.trans e2).trans f2
    exact ho _ e3 _ fun H4 e4 => hk H4 (e3.trans e4) _ fun H5 e5 => ⟨dd, _, rfl, DPut.k (((e3.trans e4).trans e5) _ _ hd) (by rw [sizeLine_eq]; omega), q t H5 ((e3.trans e4).trans e5) (fresh_back (e1.trans e2) ht) ((e4.trans e5) _ _ upd_same) _ (Ex.refl _)⟩⟩
end
end Cot
set_option Elab.async false
set_option linter.all false
set_option maxRecDepth 100000
set_option maxHeartbeats 4000000
namespace Cot
open PySem PySem.Spec PyProof.Rows L2 Evl LamX
/-- neither a list nor a tuple -/
def NoSeq (o : HO) : Prop := (∀ xs, o ≠ .tup xs) ∧ (∀ xs, o ≠ .lst xs) ∧ (∀ q xs, o ≠ .frz q (.tup xs)) ∧ ∀ q xs, o ≠ .frz q (.lst xs)
theorem noSeq_ins {C dx : Addr} {fs : List (Str × V)} : NoSeq (.ins C dx fs) := ⟨fun xs z => (by cases z), fun xs z => (by cases z), fun q xs z => (by cases z), fun q xs z => (by cases z)⟩
theorem noSeq_dK {kvs : List (Key × V)} : NoSeq (.dK kvs) := ⟨fun xs z => (by cases z), fun xs z => (by cases z), fun q xs z => (by cases z), fun q xs z => (by cases z)⟩
theorem noSeq_fdK {o : Obj} {kvs : List (Key × V)} : NoSeq (.frz o (.dK kvs)) := ⟨fun xs z => (by cases z), fun xs z => (by cases z), fun q xs z => (by cases z), fun q xs z => (by cases z)⟩
section
variable {K : PySem.W.Frag} {H H' H1 H2 Hd Hdx Hn : Hp}
theorem seq_l {a : Addr} {xs : List V} (k : ∀ a o, H a = some o → ¬ NoSeq o → H' a = some o) (h : SqL K H a xs) : SqL K H' a xs := by
  rcases h with (h | ⟨o, h⟩) | h
  · exact .inl (.inl (k _ _ h fun n => n.2.1 _ rfl))
  · exact .inl (.inr ⟨o, k _ _ h fun n => n.2.2.2 _ _ rfl⟩)
  · exact .inr h
theorem seq_t {a : Addr} {xs : List V} (k : ∀ a o, H a = some o → ¬ NoSeq o → H' a = some o) (h : SqT K H a xs) : SqT K H' a xs := by
  rcases h with (h | ⟨o, h⟩) | h
  · exact .inl (.inl (k _ _ h fun n => n.1 _ rfl))
  · exact .inl (.inr ⟨o, k _ _ h fun n => n.2.2.1 _ _ rfl⟩)
  · exact .inr h
mutual
theorem dp_seq (k : ∀ a o, H a = some o → ¬ NoSeq o → H' a = some o) : ∀ (d : PyData) {v : V}, Dp K H v d → Dp K H' v d
  | .none, _, h => by cases h; exact .non
  | .bool b, _, h => by cases h; exact .bl b
  | .int i, _, h => by cases h; exact .int i
  | .str x, _, h => by cases h; exact .str x
  | .list ds, _, h => by
    cases h with
    | lst hs ha => exact .lst (seq_l k hs) (dpa_seq k ds ha)
  | .tuple ds, _, h => by
    cases h with
    | tup hs ha => exact .tup (seq_t k hs) (dpa_seq k ds ha)
  | .dict _, _, h => by cases h
theorem dpa_seq (k : ∀ a o, H a = some o → ¬ NoSeq o → H' a = some o) : ∀ (ds : List PyData) {vs : List V}, DpAll K H vs ds → DpAll K H' vs ds
  | [], _, h => by cases h; exact .nil
  | d :: ds, _, h => by
    cases h with
    | cons h1 h2 => exact .cons (dp_seq k d h1) (dpa_seq k ds h2)
end
open Classical in
/-- y = [.. for .. in d.items()], d locked meanwhile; Hdx: the data and what else is read -/
theorem go_lockN {σ : L2.St} {te : TE} {D : Ends} {tz : TS} {i : Nat} {d : Addr} {kvs : List (Key × V)} {ds : List PyData} (hd : H d = some (.dK kvs)) (s0 : Ex Hd Hdx) (s : Ex Hdx H) (hx : ∀ a o, Hdx a = some o → Hd a = some o ∨ NoSeq o) (h : ∀ od, EvN K te σ (upd Hdx d (.frz od (.dK kvs))) ds)
    (k : ∀ p xs H' Hn, Gr Hd H Hn H' → H p = none → Hn p = none → H' p = some (.lst xs) → DpAll K Hn xs ds → Go tz D (σ.set i (some (.ref p))) H') : Go (tSeq (tLock (tAsg te (gName i))) tz) D σ H := fun H1 e1 => by
  have hd1 := e1 _ _ hd
  refine ⟨d, .dK kvs, hd1, trivial, fun od => ?_⟩
  have sx : Ex Hdx H1 := s.trans e1
  refine h od (upd H1 d (.frz od (.dK kvs))) (ex_upd2 sx) _ fun p xs H2 Hn g hp hn h2 hda => ?_
  have hf : (upd H1 d (.frz od (.dK kvs))) d = some (.frz od (.dK kvs)) := upd_same
  have hnd : Hn d = some (.frz od (.dK kvs)) := g.dx _ _ upd_same
  have pd : p ≠ d := fun z => by rw [z, hf] at hp; cases hp
  have hp1 : H1 p = none := by rw [upd_ne pd] at hp; exact hp
  refine ⟨g.ex _ _ hf, ?_⟩
  let H3 : Hp := upd H2 d (.dK kvs)
  let N3 : Hp := fun a => if a = d ∨ Hdx a ≠ none then Hd a else Hn a
  have n3 : ∀ a, ¬ (a = d ∨ Hdx a ≠ none) → N3 a = Hn a := fun a z => if_neg z
  have y3 : ∀ a, (a = d ∨ Hdx a ≠ none) → N3 a = Hd a := fun a z => if_pos z
  have G3 : Gr Hd H1 N3 H3 := by
    refine ⟨fun a o ha => ?_, fun a o ha => ?_, fun a o ha => ?_, fun a o ha hda => ?_⟩
    · by_cases e : a = d
      · subst e
        show upd H2 a _ a = _
        rw [upd_same, ← hd1, ha]
      · show upd H2 d _ a = _
        rw [upd_ne e]
        exact g.ex _ _ (by rw [upd_ne e]; exact ha)
    · rw [y3 a (.inr (by rw [s0 _ _ ha]; simp))]
      exact ha
    · by_cases z : a = d ∨ Hdx a ≠ none
      · rw [y3 a z] at ha
        have h1 := sx _ _ (s0 _ _ ha)
        by_cases e : a = d
        · subst e
          show upd H2 a _ a = _
          rw [upd_same, ← hd1, h1]
        · show upd H2 d _ a = _
          rw [upd_ne e]
          exact g.ex _ _ (by rw [upd_ne e]; exact h1)
      · rw [n3 a z] at ha
        show upd H2 d _ a = _
        rw [upd_ne fun e => z (.inl e)]
        exact g.sub _ _ ha
    · by_cases z : a = d ∨ Hdx a ≠ none
      · rw [y3 a z]
        exact hda
      · rw [n3 a z]
        have e : a ≠ d := fun e => z (.inl e)
        refine g.fr a o (by rw [upd_ne e]; exact ha) ?_
        rw [upd_ne e]
        cases q : Hdx a with
        | none => rfl
        | some u => exact absurd (.inr (by rw [q]; simp)) z
  have hp3 : N3 p = none := by
    by_cases z : p = d ∨ Hdx p ≠ none
    · rw [y3 p z]
      exact fresh_back (s0.trans sx) hp1
    · rw [n3 p z]
      exact hn
  refine k p xs H3 N3 (G3.pre e1) (fresh_back e1 hp1) hp3 ?_ (dpa_seq (fun a o ha nq => ?_) _ hda) H3 (Ex.refl _)
  · show upd H2 d _ p = _
    rw [upd_ne pd]
    exact h2
  · by_cases e : a = d
    · subst e
      rw [hnd] at ha
      cases ha
      exact absurd noSeq_fdK nq
    · by_cases z : a = d ∨ Hdx a ≠ none
      · rw [y3 a z]
        rcases z with z | z
        · exact absurd z e
        · cases q : Hdx a with
          | none => exact absurd q z
          | some u =>
            have : Hn a = some u := g.dx _ _ (by rw [upd_ne e]; exact q)
            rw [ha] at this
            cases this
            rcases hx a o q with r | r
            · exact r
            · exact absurd r nq
      · rw [n3 a z]
        exact ha
/-- sorted(xs, key=lambda a: (a[i], a[j])), as a step -/
theorem go_retSort {T : List (Addr × Str)} {M : List Addr} {σ : L2.St} {te : TE} {D : Ends} {tz : TS} {a : Addr} {xs : List V} {es : List (List Int)} {i j : Nat} (W : Wld T M Hd H) (h : Ev te σ H (.ref a)) (ha : H a = some (.lst xs)) (hd : DpAll K Hd xs (es.map entE)) (hes : ∀ e ∈ es, i < e.length ∧ j < e.length ∧ e.length ≤ 1000)
    (k : ∀ p ys H2, GrW T [] Hd H Hd H2 → NewAt H p → Hd p = none → H2 p = some (.lst ys) → DpAll K Hd ys ((sortE i j es).map entE) → D.rt (.ref p) H2) : Go (tSeq (tRet (tSortL K T i j te)) tz) D σ H := fun H1 e1 =>
  h H1 e1 _ fun H2 e2 => by
    have e12 := e1.trans e2
    have W2 := W.ext e12
    refine ⟨Hd, es, W2.sub, .lst (sq_of (e12 _ _ ha)) (dpa_mono W2.sub _ hd), ⟨a, xs, rfl, sq_of (e12 _ _ ha), hd⟩, hes, W2.tb, fun H3 p ys eN tN hp hy => ?_⟩
    have g3 : GrW T [] Hd H2 Hd H3 := GrW.tabs W2 eN tN
    have hp2 : NewAt H2 p := (newAt_none hp).back g3
    exact k p ys _ ((g3.pre e12).post (Ex.new hp)) (hp2.ext e12) (fresh_back g3.sub hp) upd_same hy
/-- one row more -/
theorem LL.more {a p : Addr} {ps : List Addr} {rs : List (List Int)} {r : List Int} (L : LL H a ps rs) (hp : H p = some (.lst (r.map .int))) (na : p ≠ a) (nps : p ∉ ps) : LL (upd H a (.lst ((ps ++ [p]).map .ref))) a (ps ++ [p]) (rs ++ [r]) := by
  have hlen := L.len
  refine ⟨upd_same, by simp [hlen], ?_, fun hm => ?_, fun k q s h1 h2 => ?_⟩
  · rw [List.nodup_append]
    refine ⟨L.nd, by simp, fun x hx y hy e => ?_⟩
    rw [List.mem_singleton.mp hy] at e
    subst e
    exact nps hx
  · rcases List.mem_append.mp hm with hm | hm
    · exact L.out hm
    · exact na (List.mem_singleton.mp hm).symm
  · by_cases hk : k < ps.length
    · rw [List.getElem?_append_left hk] at h1
      rw [List.getElem?_append_left (by omega)] at h2
      have hm := List.mem_of_getElem? h1
      rw [upd_ne (show q ≠ a from fun e => L.out (by rw [← e]; exact hm))]
      exact L.row k q s h1 h2
    · have hk2 : k = ps.length := by
        have := (List.getElem?_eq_some_iff.mp h1).1
        rw [List.length_append, List.length_singleton] at this
        omega
      rw [List.getElem?_append_right (by omega), hk2, Nat.sub_self] at h1
      rw [List.getElem?_append_right (by omega), hk2, hlen, Nat.sub_self] at h2
      cases h1
      cases h2
      rw [upd_ne na]
      exact hp
/-- [[.. for ..] for ..], a list of new lists of ints -/
theorem ll_new {wi : TI} {g : TG} {te : TE} {vs : List Nat} {σ : L2.St} {n : Nat} {S : Nat → L2.St → L2.St → Hp → Prop} (h : EvI K wi g σ Hd n S) (hn : n ≤ 1000) (rw' : Nat → List Int)
    (ht : ∀ (i : Nat) (σ2 : L2.St) (Hn : Hp), i < n → Ex Hd Hn → S i (wipe σ vs) σ2 Hn → wipe σ2 vs = wipe σ vs ∧ EvN K te σ2 Hn ((rw' i).map .int)) : EvLL (tLc wi g tYes te vs) σ Hd ((List.range n).map rw') := fun H s Q q =>
  h H s _ fun J H1 Hn G Y gr w hG hY Dl hD => by
    refine lc_it w (fun i H' => i ≤ n ∧ ∃ ps, Ex H1 H' ∧ (∀ p ∈ ps, H1 p = none) ∧ LL H' Dl ps ((List.range i).map rw')) ⟨Nat.zero_le _, [], Ex.new hD, (fun _ h => by cases h), ⟨upd_same, rfl, List.nodup_nil, (fun h => by cases h), fun i p r h1 _ => by simp at h1⟩⟩ (fun i H' _ p => ?_) (fun i x H' H'' hi p y => ?_) (fun H' p => ?_)
    · obtain ⟨_, ps, e, _⟩ := p
      exact hG H' (gr.sub.trans e)
    · obtain ⟨_, ps, e, hf, L⟩ := p
      refine hY i x H' H'' _ _ hi (gr.sub.trans e) y fun σ2 H3 e3 hS => ?_
      obtain ⟨hw, hE⟩ := ht i σ2 Hn hi gr.dx hS
      refine ⟨hw, et_yes (H := Hn) H3 ((gr.sub.trans e).trans e3) _ fun H4 e4 => ?_⟩
      show te σ2 H4 _
      refine hE H4 (((gr.sub.trans e).trans e3).trans e4) _ fun p xs H5 Hm g5 hp4 _ h5 hx => ?_
      have ex := dpa_ints_inv hx
      subst ex
      have L4 := L.ext (e3.trans e4)
      have L5 : LL H5 Dl ps _ := L4.ext g5.ex
      have e14 : Ex H1 H4 := e.trans (e3.trans e4)
      have na : p ≠ Dl := (ne_of_none L4.top hp4).symm
      have nps : p ∉ ps := fun hm => by
        obtain ⟨k, hk, ek⟩ := List.getElem_of_mem hm
        have hl := L4.len
        have := L4.row k p (((List.range i).map rw')[k]'(by omega)) (List.getElem?_eq_some_iff.mpr ⟨hk, ek⟩) (List.getElem?_eq_getElem _)
        rw [hp4] at this
        cases this
      have lps : ps.length = i := by
        have := L5.len
        rw [List.length_map, List.length_range] at this
        exact this
      refine ⟨ps.map .ref, L5.top, sz_lt (by rw [List.length_map]; omega), hi, ps ++ [p], ?_, ?_, ?_⟩
      · exact Ex.mut (e14.trans g5.ex) hD
      · intro q hq
        rcases List.mem_append.mp hq with hq | hq
        · exact hf q hq
        · rw [List.mem_singleton.mp hq]
          exact fresh_back e14 hp4
      · have et : (List.range (i + 1)).map rw' = (List.range i).map rw' ++ [rw' i] := by rw [List.range_succ, List.map_append]; rfl
        rw [et]
        have := L5.more h5 na nps
        rw [List.map_append] at this
        exact this
    · obtain ⟨_, ps, e, hf, L⟩ := p
      exact q Dl ps H' (gr.ex.trans e) (fresh_back gr.ex hD) (fun p hp => fresh_back gr.ex (hf p hp)) L
/-- lists of the heap change that were not there -/
theorem GrW.put {Tt : List (Addr × Str)} {Hd H Hn H2 : Hp} {p : Addr} {xs ys : List V} (g : GrW Tt [] Hd H Hn H2) (hp : H2 p = some (.lst xs)) (n1 : NewAt H p) (n2 : Hn p = none) : GrW Tt [] Hd H Hn (upd H2 p (.lst ys)) := ⟨fun a o h n z => by
    rw [upd_ne (n1.ne h z)]
    exact g.ex a o h n z, g.dx, Ex.mut g.sub n2, g.fr, g.nt, tabs_but hp (fun a o z h => by rw [upd_ne z]; exact h) g.tb, fun a o h z => by
    rw [upd_ne (n1.ne h z)]
    exact g.al a o h z⟩
/-- more of what is new counted to the data -/
theorem GrW.more {Tt : List (Addr × Str)} {M : List Addr} {Hd H Hn H2 N : Hp} (g : GrW Tt M Hd H Hn H2) (y1 : Ex Hn N) (y2 : Ex N H2) (y3 : ∀ x o, H x = some o → NoTb o → Hn x = none → N x = none) (nt : ∀ a ps, N a ≠ some (.tbl ps)) : GrW Tt M Hd H N H2 := ⟨g.ex, g.dx.trans y1, y2, fun a o h z hd => y3 a o h z (g.fr a o h z hd), nt, g.tb, g.al⟩
theorem LL.step {Tt : List (Addr × Str)} {Hd H Hn H2 : Hp} {a : Addr} {ps : List Addr} {rs : List (List Int)} (L : LL H a ps rs) (g : GrW Tt [] Hd H Hn H2) : LL H2 a ps rs := ⟨g.ex _ _ L.top (by simp) noTb_lst, L.len, L.nd, L.out, fun i p r h1 h2 => g.ex _ _ (L.row i p r h1 h2) (by simp) noTb_lst⟩
theorem LL.at {H : Hp} {a : Addr} {ps : List Addr} {rs : List (List Int)} (L : LL H a ps rs) {p : Addr} (hp : p ∈ ps) : ∃ xs, H p = some (.lst xs) := by
  obtain ⟨i, hi, rfl⟩ := List.getElem_of_mem hp
  have := L.len
  exact ⟨_, L.row i _ (rs[i]'(by omega)) (List.getElem?_eq_getElem hi) (List.getElem?_eq_getElem _)⟩
end
section
variable {K : PySem.W.Frag} {T : List (Addr × Str)} {M M' : List Addr} {b : Bid} {σ : L2.St} {H H' Hd Hn H1 H2 : Hp} {ta tb te : TE} {t u : TT} {tr : TA} {D : Ends} {tu tw tz : TS} {i j : Nat} {v : V} {P : V → Hp → Hp → Prop}
theorem go_asgE (h : EvW T M te σ Hd H P) (k : ∀ v H2 Hn, GrW T M Hd H Hn H2 → P v Hn H2 → Go tz D (σ.set i (some v)) H2) : Go (tSeq (tAsg te (gName i)) tz) D σ H :=
  go_bind (C := fun te => tSeq (tAsg te (gName i)) tz) h fun v H2 Hn g p => go_asg ev_val (k v H2 Hn g p)
theorem go_dropE (h : EvW T M te σ Hd H P) (k : ∀ v H2 Hn, GrW T M Hd H Hn H2 → P v Hn H2 → Go tz D σ H2) : Go (tSeq (tDrop te) tz) D σ H :=
  go_bind (C := fun te => tSeq (tDrop te) tz) h fun v H2 Hn g p => go_drop ev_val (k v H2 Hn g p)
theorem go_retE' (h : EvW T M te σ Hd H P) (k : ∀ v H2 Hn, GrW T M Hd H Hn H2 → P v Hn H2 → ∀ H3, Ex H2 H3 → D.rt v H3) : Go (tSeq (tRet te) tz) D σ H :=
  go_bind (C := fun te => tSeq (tRet te) tz) h fun v H2 Hn g p => go_retV ev_val (k v H2 Hn g p)
/-- xs.append(e) -/
theorem go_appE {l : Addr} {xs : List V} (hl : H l = some (.lst xs)) (nl : l ∉ M) (ha : Ev ta σ H (.ref l)) (h : EvW T M te σ Hd H P) (hz : xs.length < 100000) (k : ∀ v H2 Hn, GrW T M Hd H Hn H2 → P v Hn H2 → Go tz D σ (upd H2 l (.lst (xs ++ [v])))) : Go (tSeq (tDrop (tBM K "list" rAppend ta (tCons te tNil))) tz) D σ H := fun H0 e0 =>
  ha H0 e0 _ fun H2 e2 => ⟨Or.inl ⟨rfl, xs, sq_of ((e0.trans e2) _ _ hl)⟩, h H2 (e0.trans e2) _ fun v H3 Hn g p => ⟨l, xs, v, rfl, rfl, g.ex _ _ ((e0.trans e2) _ _ hl) nl noTb_lst, sz_lt hz, k v H3 Hn (g.pre (e0.trans e2)) p _ (Ex.refl _)⟩⟩
theorem go_retAnd (h : Ev ta σ H (.bl true)) (k : Go (tSeq (tRet tb) tz) D σ H) : Go (tSeq (tRet (tAndV ta tb)) tz) D σ H := fun H1 e1 => h H1 e1 _ fun H2 e2 => ⟨true, rfl, k H2 (e1.trans e2)⟩
/-- an or of tests whose first one is a plain one -/
theorem go_whenOr {D : Ends} (h : EvT t σ H false) (k : Go (tSeq (tIfS u tu tw) tz) D σ H) : Go (tSeq (tIfS (tOr t u) tu tw) tz) D σ H := fun H1 e1 => h H1 e1 _ fun H2 e2 => by
  show (if false = true then _ else _)
  rw [if_neg (by decide)]
  exact k H2 (e1.trans e2)
end
end Cot
namespace Cot
open PySem PySem.Spec PyProof.Rows L2 Evl LamX
section
variable {K : PySem.W.Frag} {T : List (Addr × Str)} {M M' : List Addr} {σ : L2.St} {H H' Hd Hn H1 H2 H0 Hd0 : Hp} {ta te : TE} {t : TT} {D : Ends} {tu tz : TS}
theorem bx_step {b : Bid} (B : Bx H b) (g : GrW T M Hd H Hn H2) (n1 : b.b ∉ M) (n2 : b.ca ∉ M) : Bx H2 b := by
  obtain ⟨c, x, h1, h2, h3, h4⟩ := B
  exact ⟨c, x, g.ex _ _ h1 n1 noTb_lst, h2, g.ex _ _ h3 n2 noTb_lst, h4⟩
end
end Cot
set_option Elab.async false
set_option linter.all false
set_option maxRecDepth 100000
set_option maxHeartbeats 4000000
namespace Cot
open PySem PySem.Spec PyProof.Rows L2 Evl LamX PySem.Calls
section
variable {K : PySem.W.Frag} {σ : L2.St} {H H1 H2 Hd Hn H0 Hd0 : Hp} {T : List (Addr × Str)} {M M' : List Addr} {ta tb te ti : TE} {tr : TA} {a l f p : Addr} {xs ys vs : List V} {v : V} {b : Bid} {D : Ends} {tz : TS} {i : Nat}
/-- a list beside the data changes -/
theorem Wld.put (W : Wld T M Hd H) (hp : H p = some (.lst xs)) (n : Hd p = none) : Wld T M Hd (upd H p (.lst ys)) := ⟨Ex.mut W.sub n, W.nt, tabs_but hp (fun a o z h => by rw [upd_ne z]; exact h) W.tb, fun a ha => by
  obtain ⟨h1, o, h2, h3⟩ := W.mn a ha
  by_cases e : a = p
  · exact ⟨h1, .lst ys, by rw [e]; exact upd_same, noTb_lst⟩
  · exact ⟨h1, o, by rw [upd_ne e]; exact h2, h3⟩⟩
/-- more of what stands counted to the data -/
theorem Wld.more {o : HO} (W : Wld T M Hd H) (h : H p = some o) (no : NoTb o) (n : Hd p = none) (hm : p ∉ M) : Wld T M (upd Hd p o) H := ⟨ex_add W.sub h, fun a ps z => by
  by_cases e : a = p
  · rw [e, upd_same] at z
    cases z
    exact no _ rfl
  · rw [upd_ne e] at z
    exact W.nt a ps z, W.tb, fun a ha => by
    obtain ⟨h1, o2, h2, h3⟩ := W.mn a ha
    exact ⟨by rw [upd_ne (fun e => hm (by rw [← e]; exact ha))]; exact h1, o2, h2, h3⟩⟩
end
end Cot
set_option Elab.async false
set_option linter.all false
set_option maxRecDepth 100000
set_option maxHeartbeats 4000000
namespace Cot
open PySem PySem.Spec PyProof.Rows L2 Evl LamX PySem.Calls
def rLenF : List V → Hp → VK → Prop := fun xs H Q => ∃ a kvs, xs = [V.ref a] ∧ Rd H a (.dK kvs) ∧ Q (.int kvs.length) H
theorem call_lenF {X : Cx} : CallR X (.builtin "len") rLenF := by
  intro pins s σ H xs us Q I r h
  obtain ⟨a, kvs, rfl, ha, q⟩ := h
  obtain ⟨u, rfl, ru⟩ := vals1 r
  cases ru
  exact d_len I ha fun t s' I' => ⟨.int kvs.length, H, I', ⟨t, rfl⟩, q⟩
/-- a new dict that is told is read from then on, never written -/
def tFrzE (t : TE) : TE := fun σ H Q => t σ H fun v H' => ∃ d kvs, H' d = some (.dK kvs) ∧ ∀ o, Q v (upd H' d (.frz o (.dK kvs)))
theorem pe_frz {X : Cx} {e : Expr} {t : TE} (h : PE X e t) : PE X e (tFrzE t) := by
  refine ⟨fun pins s σ H Q I hw => ?_⟩
  refine thn (h.run pins s σ H _ I hw) fun v s1 ⟨x, H1, I1, r1, d, kvs, hd, q⟩ => ?_
  obtain ⟨od, I2⟩ := I1.lock hd trivial
  exact ⟨x, _, I2, r1, q od⟩
/-- a new tuple of these values -/
def EvTN (te : TE) (σ : L2.St) (H : Hp) (xs : List V) : Prop := ∀ H1, Ex H H1 → ∀ Q : VK, (∀ p H2, Ex H1 H2 → H1 p = none → H2 p = some (.tup xs) → Q (.ref p) H2) → te σ H1 Q
section
variable {K : PySem.W.Frag} {σ : L2.St} {H H0 H1 H2 Hd Hm Hn : Hp} {ta tb te tx : TE} {tr : TA} {a d p t : Addr} {xs ys vs : List V} {x v : V} {D : Ends} {tz : TS} {i n : Nat} {js : List Nat} {gs : TGs} {kvs : List (Key × V)} {k : Key} {dd : PyData}
theorem etn_tup (h : EvA tr σ H xs) (hl : xs.length ≤ 100000) : EvTN (tTup tr) σ H xs := fun H1 e1 Q q =>
  h H1 e1 _ fun H2 e2 => ⟨sz_of hl, fun p hp => q p _ (e2.trans (Ex.new hp)) (fresh_back e2 hp) upd_same⟩
/-- a, b, .. = t -/
theorem go_unpV (h : Ev te σ H (.ref t)) (hs : SqT K H t vs) (hl : vs.length = n) (hj : js.length = n) (hg : gNs js = gs) (k : Go tz D (setAll σ js vs) H) : Go (tSeq (tAsg te (gTup K n gs)) tz) D σ H := fun H1 e1 => by
  subst hg
  exact h H1 e1 _ fun H2 e2 => ⟨t, vs, rfl, ex_t (e1.trans e2) hs, hl, gNs_run (by rw [hl, hj]) (k H2 (e1.trans e2))⟩
/-- d[k] = a new tuple of these values -/
theorem go_dputN (ho : Ev ta σ H (.ref a)) (hk : Ev tb σ H (kV k)) (hv : EvTN te σ H xs) (hd : H a = some (.dK kvs)) (hl : kvs.length < 1000000) (q : ∀ p H', Ex H H' → H p = none → H' p = some (.tup xs) → Go tz D σ (upd H' a (.dK (putK kvs k (.ref p))))) : Go (tSeq (sDPut ta tb te) tz) D σ H := fun H1 e1 =>
  hv H1 e1 _ fun p H2 e2 n2 h2 => ho H2 (e1.trans e2) _ fun H3 e3 => hk H3 ((e1.trans e2).trans e3) _ fun H4 e4 => by
    have e14 := ((e1.trans e2).trans e3).trans e4
    refine ⟨a, _, rfl, DPut.k (e14 _ _ hd) (by show kvs.length < sizeLine; unfold sizeLine; omega), ?_⟩
    exact q p H4 e14 (fresh_back e1 n2) ((e3.trans e4) _ _ h2) _ (Ex.refl _)
theorem go_bindEv {C : TE → TS} (h : Ev te σ H v) (k : Go (C (tVal v)) D σ H) (hC : ∀ te D σ H, C te D σ H = te σ H fun v H1 => C (tVal v) D σ H1 := by intros; rfl) : Go (C te) D σ H := fun H1 e1 => by
  rw [hC]
  exact h H1 e1 _ fun H2 e2 => k H2 (e1.trans e2)
theorem ev_dgetF {o : Obj} (ho : Ev ta σ H (.ref a)) (hk : Ev tb σ H (kV k)) (hd : H a = some (.frz o (.dK kvs))) (hv : valV kvs k = some v) : Ev (tDGet ta tb) σ H v := fun H1 e1 Q q =>
  ho H1 e1 _ fun H2 e2 => hk H2 (e1.trans e2) _ fun H3 e3 => ⟨a, v, rfl, .inl ⟨kvs, k, .inr ⟨o, ((e1.trans e2).trans e3) _ _ hd⟩, rfl, hv.symm⟩, q H3 (e2.trans e3)⟩
theorem ev_dnotinF {o : Obj} (hk : Ev ta σ H (kV k)) (ho : Ev tb σ H (.ref a)) (hd : H a = some (.frz o (.dK kvs))) : Ev (tDNotIn ta tb) σ H (.bl (!(valV kvs k).isSome)) := fun H1 e1 Q q =>
  hk H1 e1 _ fun H2 e2 => ho H2 (e1.trans e2) _ fun H3 e3 => ⟨a, _, rfl, .inl ⟨kvs, k, .inr ⟨o, ((e1.trans e2).trans e3) _ _ hd⟩, rfl, rfl⟩, q H3 (e2.trans e3)⟩
/-- for k in d, d known for good -/
theorem ei_keysF {td : TE} {o : Obj} {j : Nat} (h : Ev td σ Hd (.ref d)) (hf : Hd d = some (.frz o (.dK kvs))) : EvI K (iKeys td) (gName j) σ Hd kvs.length (fun i σ' σ2 _ => ∃ k v, kvs[i]? = some (k, v) ∧ σ2 = σ'.set j (some (kV k))) := fun H s R r =>
  h H s _ fun H2 e2 => ⟨d, o, rfl, .inl ⟨kvs, (s.trans e2) _ _ hf, r _ H2 Hd _ _ (Gr.ext s e2) walk_keys (fun H' e => e _ _ hf) fun i x H' H'' σ' k hi e y q => by
    obtain ⟨rfl, key, v, hk, rfl⟩ := y
    exact q _ _ (Ex.refl _) ⟨key, v, hk, rfl⟩⟩⟩
theorem ev_lenF {o : Obj} (h : Ev ta σ H (.ref a)) (hd : H a = some (.frz o (.dK kvs))) : Ev (tCB rLenF (tCons ta tNil)) σ H (.int (kvs.length : Int)) := fun H1 e Q q => h H1 e _ fun H2 e2 => ⟨a, kvs, rfl, .inr ⟨o, e2 _ _ (e _ _ hd)⟩, q H2 e2⟩
end
end Cot
set_option Elab.async false
set_option linter.all false
set_option maxRecDepth 100000
set_option maxHeartbeats 4000000
namespace Cot
open PySem PySem.Spec PyProof.Rows L2 Evl LamX PySem.Calls
end Cot
namespace Cot
open PySem PySem.Spec PyProof.Rows L2 Evl LamX
section
variable {K : PySem.W.Frag} {T : List (Addr × Str)} {M : List Addr} {σ : L2.St} {H H1 H2 Hd Hn Hm : Hp} {ta tb te : TE} {a p C dx : Addr} {fs : List (Str × V)} {kvs : List (Key × V)} {f : Str} {D : Ends} {tz : TS}
/-- what changes in a second step is new since the first -/
theorem GrW.drop (g1 : GrW T [] Hd H Hn H1) (g2 : GrW T M Hn H1 Hm H2) (hM : ∀ a ∈ M, NewAt H a) : GrW T [] Hd H Hm H2 := ⟨fun a o ha n z => g2.ex a o (g1.ex a o ha n z) (fun hm => hM a hm o ha z) z, g1.dx.trans g2.dx, g2.sub, fun a o ha n hd => g2.fr a o (g1.ex a o ha (by simp) n) n (g1.fr a o ha n hd), g2.nt, g2.tb, fun a o ha n => by
  obtain ⟨o', h', n'⟩ := g1.al a o ha n
  exact g2.al a o' h' n'⟩
/-- x.f = dict(d) -/
theorem go_fldCopy (ho : ∀ H, Ev tb σ H (.ref p)) (h : Ev ta σ H (.ref a)) (hd : H a = some (.dK kvs)) (hi : H p = some (.ins C dx fs)) (c : Cls K C) (n : NoAttr K C f) (hl : fs.length < 1000) (q : ∀ d H', Ex H H' → H d = none → H' d = some (.dK kvs) → H' p = some (.ins C dx fs) → Go tz D σ (upd H' p (.ins C dx (putF f (.ref d) fs)))) : Go (tSeq (sFld K tb (tCB rDictK (tCons ta tNil)) f) tz) D σ H := fun H1 e1 =>
  h H1 e1 _ fun H2 e2 => ⟨a, kvs, rfl, .inl ((e1.trans e2) _ _ hd), fun d hdn => by
    have e := (e1.trans e2).trans (Ex.new (o := .dK kvs) hdn)
    exact ho _ _ (Ex.refl _) _ fun H4 e4 => by
      have e14 := e.trans e4
      exact ⟨p, C, dx, fs, rfl, e14 _ _ hi, c, n, hl, q d H4 e14 (fresh_back (e1.trans e2) hdn) (e4 _ _ upd_same) (e14 _ _ hi) _ (Ex.refl _)⟩⟩
end
end Cot
set_option Elab.async false
set_option linter.all false
set_option maxRecDepth 100000
set_option maxHeartbeats 4000000
namespace Cot
open PySem PySem.Spec PyProof.Rows L2 Evl LamX PySem.Calls
end Cot
namespace Cot
open PySem PySem.Spec PyProof.Rows L2 Evl LamX PySem.Calls
end Cot
namespace Cot
open PySem PySem.Spec PyProof.Rows L2 Evl LamX
/-- a text of parts -/
def tFs (ts : List TE) : TE := fun σ H Q => tJs ts Str.empty σ H fun out H1 => Q (.str out) H1
theorem pe_fs {X : Cx} {v1 v2 : Expr} {rest : List Expr} {ts : List TE} {pos : Pos} (h : PJ X (v1 :: v2 :: rest) ts) : PE X (.JoinedStr (v1 :: v2 :: rest) pos) (tFs ts) := pe_joined h
section
variable {σ : L2.St} {H : Hp} {ts : List TE} {ta te : TE} {z acc : Str} {n : Int} {zs : List Str}
/-- the parts' texts -/
inductive EvFs (σ : L2.St) (H : Hp) : List TE → List Str → Prop
  | nil : EvFs σ H [] []
  | cons {t : TE} {ts : List TE} {z : Str} {zs : List Str} (h : Ev t σ H (.str z)) (r : EvFs σ H ts zs) : EvFs σ H (t :: ts) (z :: zs)
def catS (acc : Str) : List Str → Str
  | [] => acc
  | z :: zs => catS (acc ++ z) zs
theorem js_run : ∀ {ts : List TE} {zs : List Str} {acc : Str} {H1 : Hp} {Q : Str → Hp → Prop}, EvFs σ H ts zs → Ex H H1 → acc.length + (zs.map (·.length)).sum ≤ 100000 → (∀ H2, Ex H1 H2 → Q (catS acc zs) H2) → tJs ts acc σ H1 Q
  | _, _, acc, H1, Q, .nil, e, _, q => q H1 (Ex.refl _)
  | _, _, acc, H1, Q, .cons (z := z) (zs := zs) h r, e, hl, q => h H1 e _ fun H2 e2 => by
    rw [List.map_cons, List.sum_cons] at hl
    refine ⟨z, rfl, sz_of (by rw [Str.length_append]; omega), js_run r (e.trans e2) (by rw [Str.length_append]; omega) fun H3 e3 => q H3 (e2.trans e3)⟩
theorem ev_fs (h : EvFs σ H ts zs) (hl : (zs.map (·.length)).sum ≤ 100000) : Ev (tFs ts) σ H (.str (catS Str.empty zs)) := fun H1 e1 Q q => js_run h e1 (by show 0 + _ ≤ _; omega) q
theorem ev_fmtI (h : Ev te σ H (.int n)) (hn : n.natAbs.log2 < 1920) : Ev (tFmt te) σ H (.str (Str.ofString (toString n))) := fun H1 e1 Q q => h H1 e1 _ fun H2 e2 => .inr ⟨n, rfl, hn, q H2 e2⟩
end
end Cot
set_option Elab.async false
set_option linter.all false
set_option maxRecDepth 100000
set_option maxHeartbeats 4000000
namespace Cot
open PySem PySem.Spec PyProof.Rows L2 Evl LamX PySem.Calls
end Cot
namespace Cot
open PySem PySem.Spec PyProof.Rows L2 Evl LamX PySem.Calls
end Cot
namespace Cot
open PySem PySem.Spec PyProof.Rows L2 Evl LamX
end Cot
set_option Elab.async false
set_option linter.all false
set_option maxRecDepth 100000
set_option maxHeartbeats 4000000
namespace Cot
open PySem PySem.Spec PyProof.Rows L2
/-- the builtin classes behind it -/
theorem lk_pass (self : Value) : refuseLoop self "__setattr__" lkTail = pure () := by kernel_rfl
section
open Builtin Builtin.ObjectAttr PySem.HandSPX
variable {prog : Program} {w : World} {A : Around} {R : Result → Shared → Prop} {hp : Heap} {g : Array GenState} {d : Drawn} {t : Nat} {os : OsState}
/-- the first field of an exception, whatever its class's line is made of -/
theorem setattr_first {K : W.Frag} {name : Str} {tk : Tok} {v : Value} {x C : Addr} {fv : Array Value} {cd : ClassData}
    (kin : K.In hp) (at_ : hp.get? x = some { cls := .ref C, data := .fields fv }) (cl : W.clsIn K C = some cd) (full : cd.mro.isEmpty = false) (ob : cd.mro.contains (.type "object") = true) (pass : refuseLoop (.ref x) "__setattr__" cd.mro = pure ()) (dc : cd.hasDict = true) (free : W.findIn K (.ref C) name = some none)
    (then_ : ∀ h' tk' dx, (∀ b o, b ≠ x → hp.get? b = some o → h'.get? b = some o) → hp.objs.size ≤ dx → dx ≠ x → h'.get? x = some { cls := .ref C, dict := some dx, data := .fields fv } →
      h'.Ns1 dx (fun y => if y = name then some v else none) → R (.ok (.ret .none)) ⟨h', g, d, tk', os⟩) :
    codeAny (model prog w) A (.call (.builtin "object.__setattr__") ⟨[.ref x, .str name tk, v], []⟩) R ⟨hp, g, d, t, os⟩ := by
  have inst : W.InstAt hp x { cls := .ref C, data := .fields fv } C none := ⟨at_, rfl, rfl, trivial⟩
  have slot := F.store_object
  have apart : x ≠ hp.objs.size := Nat.ne_of_lt (Heap.lt_size at_)
  have isOb : W.Looks (model prog w) hp (isInstance (.ref x) (.type "object")) true := inst.type.andThen (W.looks_mroIn kin (by
    unfold W.mroIn
    rw [cl, Option.bind_some, if_neg (by rw [full]; decide), ob]))
  have line : W.Looks (model prog w) hp (mroOf (.ref C)) cd.mro := (W.looks_clsIn kin cl).andThen .now
  have taker : W.Looks (model prog w) hp (storeTaker? none) none := .now
  have data : W.Looks (model prog w) hp (classData C) cd := W.looks_clsIn kin cl
  refine codeAny_call_builtin slot.slot.plain slot.entry (@W.check_slot (model prog w) _ _ ⟨hp, g, d, t, os⟩ "object.__setattr__" "object" "__setattr__" (.ref x) [.str name tk, v] [] _ slot.kind slot.split isOb (slot.args (.ref x) (.str name tk) v) ?_)
  rw [W.osa_eq, refuse_eq]
  refine wpAny_bind (wpAny_bind (inst.type.at (wpAny_bind (line.at ?_))))
  rw [pass]
  refine wpAny_pure (wpAny_bind (inst.type.at (wpAny_bind ((W.looks_findIn kin free).at (wpAny_bind (taker.at ?_))))))
  show wpAny _ _ (storeInOwnDict (.ref x) (.ref C) (.str name tk) name v false) _ _ _
  rcases cd with ⟨_, _, _, _, _, hd, _, _, _, _, _⟩
  obtain rfl : hd = true := dc
  unfold storeInOwnDict ownDictForStores
  repeat (first | with_reducible refine store_in_new ?_ ?_ | with_reducible refine wpAny_loadPart_at at_ ?_ | with_reducible refine data.at ?_ | wp_step)
  · exact ⟨_, #[], _, (Heap.get?_update_ne _ _ _ _ apart.symm).trans (Heap.get?_push_at rfl rfl), rfl, fun e he => absurd he (by simp), fun _ => rfl⟩
  · intro h' tk' ns same
    have at1 : (hp.push { cls := .type "dict", data := .dict #[] }).get? x = some { cls := .ref C, data := .fields fv } := Heap.get?_push_of_some _ at_
    refine then_ h' tk' hp.objs.size (fun b o nb ho => ?_) (Nat.le_refl _) apart.symm ?_ ns
    · exact (same.2 b (Nat.ne_of_lt (Heap.lt_size ho))).trans ((Heap.get?_update_ne _ _ _ _ nb).trans (Heap.get?_push_of_some _ ho))
    · exact (same.2 x apart).trans (Heap.get?_update_self _ at1 rfl)
end
/-- what the written part says of such a class -/
structure OexK (K : PySem.W.Frag) (C : Addr) : Prop where
  cls : ∃ nm q N bs sn sub ab col dd k0 k1 k2 k3 k5, K.lookup C = some (excClassObj nm q C N bs lkTail true sn sub ab col dd k0 k1 k2 k3 k5 "LookupError.__new__")
  sa : PySem.W.findIn K (.ref C) "__setattr__" = some (some (.builtin "object.__setattr__"))
  exC : PySem.W.subIn K (.ref C) (.type "BaseException") = some true
  tyC : PySem.W.typeIn K (.ref C) = some (.type "type")
  kC : PySem.W.keepIn K (.ref C) = true
section
variable {X : Cx} {pins : List (Addr × Obj)} {σ : L2.St} {H : Hp} {s : Shared} {a C : Addr} {f : Str} {y : V} {u : Value} {Q : Unit → Shared → Prop} {E : Value → Shared → Prop} {A : Around}
/-- self.f = y -/
theorem put_first (T : OexK X.K C) (I : Inv X pins σ H s) (e : H a = some (exo a C none)) (free : PySem.W.findIn X.K (.ref C) f = some none) (ry : RelV y u)
    (h : ∀ dx s', H dx = none → dx ≠ a → Inv X pins σ (upd (upd H dx (exd dx [(f, y)])) a (exo a C (some dx))) s' → Q () s') : wpAny (model X.prog X.w) A (setAttr (.ref a) f u) Q E s := by
  obtain ⟨nm, q, N, bs, sn, sub, ab, col, dd, k0, k1, k2, k3, k5, hC⟩ := T.cls
  have cl : PySem.W.clsIn X.K C = some { name := nm, bases := bs, mro := .ref C :: lkTail, ns := N, qualname := q, hasDict := true, slotNames := sn, subclasses := sub, abstract := ab, collection := col, hasDel := false } := by
    unfold PySem.W.clsIn
    rw [hC] <;> rfl
  obtain ⟨t1, ho⟩ := exo_at I.hok e
  obtain ⟨hp, g, d, t, os⟩ := s
  refine PySem.W.set_plain I.kIn (ox := { cls := .ref C, dict := none, data := .fields #[.ref t1, .none, .none, .none, .bool false, .none] }) (od := none) ⟨ho, rfl, rfl, trivial⟩ T.sa ?_
  refine setattr_first I.kIn ho cl rfl (by rfl) (by rw [refuseLoop_ref]; exact lk_pass _) rfl free fun h' tk' dx kp fresh ne hx ns => ?_
  have nH : H dx = none := I.hok.fresh fresh
  have off : ∀ {b : Addr} {o : Obj}, hp.get? b = some o → b ≠ dx := fun {b o} z => Nat.ne_of_lt (Nat.lt_of_lt_of_le (Heap.lt_size z) fresh)
  have offA : ∀ {b : Addr}, H b = none → b ≠ a := fun {b} n z => by rw [z, e] at n; cases n
  refine h dx _ nH ne (I.un (t' := tk') ⟨fun b o z n _ _ => kp b o (offA n) z, fun b o z n _ _ => ⟨o.slots, kp b o (offA n) z⟩, fun b o z n _ => ?_, fun b o z _ => ?_, fun b xs z => ?_, fun b o v z => ?_, fun b ps z => ?_⟩ fun b o z => ?_)
  · rw [upd_ne (offA n), upd_ne (off z)]
    exact n
  · by_cases eb : b = a
    · exact ⟨_, by rw [eb]; exact hx⟩
    · exact ⟨o, kp b o eb z⟩
  · rw [upd_ne (at_ne e z exo_tup), upd_ne (L2.ne_of_none z nH)]
    exact z
  · rw [upd_ne (at_ne e z exo_frz), upd_ne (L2.ne_of_none z nH)]
    exact z
  · exact ⟨#[], by rw [upd_ne (at_ne e z exo_tbl), upd_ne (L2.ne_of_none z nH), z]; simp⟩
  · by_cases eb : b = a
    · subst eb
      rw [upd_same] at z
      cases z
      exact exo_ok hx
    · rw [upd_ne eb] at z
      by_cases ed : b = dx
      · subst ed
        rw [upd_same] at z
        cases z
        exact exd_ok ns (relO_put (fs := []) ry fun _ => True.intro)
      · rw [upd_ne ed] at z
        exact (I.hok b o z).stay (fun c v hc w => kp c v (by
            rcases hc with hc | hc
            · rw [hc]
              exact eb
            · exact at_ne e hc exo_own) w)
          (fun c hc => by rw [upd_ne (at_ne e hc exo_own), upd_ne (L2.ne_of_none hc nH)]; exact hc) (fun c xs hc => by rw [upd_ne (at_ne e hc exo_tup), upd_ne (L2.ne_of_none hc nH)]; exact hc)
end
section
variable {X : Cx} {pins : List (Addr × Obj)} {σ : L2.St} {H : Hp} {s : Shared} {a C : Addr} {A : Around} {E : Value → Shared → Prop}
/-- LookupError.__init__(self, ..): nothing of it is told -/
theorem lk_init {us : List Value} {Q : Value → Shared → Prop} (T : OexK X.K C) (I : Inv X pins σ H s) (e : H a = some (exo a C none)) (hl : us.length ≤ sizeLine) (h : ∀ s', Inv X pins σ H s' → Q .none s') :
    wpAny (model X.prog X.w) A (call (.builtin "LookupError.__init__") (.ref a :: us)) Q E s := by
  obtain ⟨nm, q, N, bs, sn, sub, ab, col, dd, k0, k1, k2, k3, k5, hC⟩ := T.cls
  obtain ⟨t1, ho⟩ := exo_at I.hok e
  obtain ⟨hp, g, d, t, os⟩ := s
  refine wpAny_call (PySem.HandSPX.init_base F.excBase_LookupError (fun Y => rfl) (I.kIn _ _ hC) ho hl fun h' t2 kp hx => ?_)
  have J := I.write (t' := t) (x := a) (e := a) (o := exo a C none) (by rw [e]; exact True.intro) (.inl rfl) kp ⟨_, hx⟩ (exo_ok hx)
  have same : upd H a (exo a C none) = H := funext fun b => by
    by_cases hb : b = a
    · rw [hb, upd_same, e]
    · rw [upd_ne hb]
  rw [same] at J
  exact h _ J
end
theorem typ_LE : typeOf (.type "LookupError") = pure (.type "type") := by kernel_rfl
/-- LookupError.__init__(self, ..) -/
def tLkI (K : PySem.W.Frag) (ta : TA) : TE := fun σ H Q => ta σ H fun vs H1 => ∃ (a C : Addr) (ws : List V), vs = .ref a :: ws ∧ ws.length ≤ 1000 ∧ OexK K C ∧ H1 a = some (exo a C none) ∧ Q .non H1
/-- self.f = e, the first field -/
def tPut1 (K : PySem.W.Frag) (f : Str) (to te : TE) : TS := fun D σ H => te σ H fun y H1 => to σ H1 fun x H2 => ∃ a C : Addr, x = .ref a ∧ OexK K C ∧ PySem.W.findIn K (.ref C) f = some none ∧
  H2 a = some (exo a C none) ∧ ∀ dx, H2 dx = none → dx ≠ a → D.nx σ (upd (upd H2 dx (exd dx [(f, y)])) a (exo a C (some dx)))
section
variable {X : Cx} {o e : Expr} {es : List Expr} {to te : TE} {ta : TA} {f : Str} {p p' p1 p2 pos : Pos}
theorem pe_lkinit {pl : Sem Bool} (hg : Gl X "LookupError") (hm : X.mg "LookupError" = none) (vV : PySem.W.findCls X.K (.type "LookupError") (.type "type") "__init__" = some (.val (.builtin "LookupError.__init__"))) (ha : PA X (e :: es) ta)
    (hc : eval (.Call (.Attribute (.Name "LookupError" p1) "__init__" p2) (e :: es) [] pos) X.env = (do
      let ov ← eval (.Name "LookupError" p1) X.env
      standAt p2.atName
      let (f, first) ← holding [ov] (getMethod ov "__init__" pl)
      callWith pos f first (backTo pos (starEach (e :: es) X.env)) (backToKw pos (keywordEach [] X.env))) := by rfl)
    (he : starEach (e :: es) X.env = (false, eval e X.env) :: starEach es X.env := by rfl) (hpl : (backTo pos (starEach es X.env)).any (·.1) = false := by rfl) :
    PE X (.Call (.Attribute (.Name "LookupError" p1) "__init__" p2) (e :: es) [] pos) (tLkI X.K ta) := by
  refine ⟨fun pins s σ H Q I h => PySem.W.methodCall_KW (ld_blt I hg hm PyProof.Rows.Boot.«LookupError» ?_ (by decide) (by decide)) hc⟩
  obtain ⟨m, fr⟩ := I.fr
  refine PySem.W.method_type fr I.ok.mod.kin typ_LE (by decide +kernel) vV (by decide +kernel) ?_
  show wpAny _ _ (callWith pos (Value.builtin "LookupError.__init__") [] (backTo pos (starEach (e :: es) X.env)) []) _ _ _
  refine PyProof.Rows.callWith_method1 (thn (ha.run pos pins _ σ H _ (I.tok _) h) fun us s1 hh => ?_) he hpl
  obtain ⟨vs, H1, I1, rel, a, C, ws, rfl, hl, T, at_, q⟩ := hh
  cases rel with
  | @cons _ u0 _ ur r0 rr =>
    obtain rfl : u0 = Value.ref a := r0
    refine lk_init T I1 at_ ?_ fun s' J => ⟨.non, H1, J, rfl, q⟩
    rw [← Paired.length rr, sizeLine_eq]
    omega
theorem ps_put1 (ho : PE X o to) (he : PE X e te) (hs : swapsWith e (some (.Attribute o f p')) pos.line X.env = pure false := by rfl) : PS X (.Assign [.Attribute o f p'] e pos) (tPut1 X.K f to te) := by
  refine ⟨fun pins s σ H D I h => plainObj_wpAny_Assign_Attribute (thn (he.run pins s σ H _ I h) fun v s1 h1 => ?_) hs⟩
  obtain ⟨y, H1, I1, ry, q1⟩ := h1
  refine thn (ho.run pins s1 σ H1 _ I1 q1) fun u s2 h2 => ?_
  obtain ⟨x, H2, I2, rx, a, C, rfl, T, free, at_, q⟩ := h2
  obtain rfl : u = Value.ref a := rx
  exact put_first T I2 at_ free ry fun dx s' n ne J => ⟨σ, _, J, q dx n ne⟩
theorem pmk_lk {CX : CXT} {x : Str} {C fI : Addr} {k : Nat} {fd : FuncData} {ps : List Str} {sp : Sp} {ds : List Value} {dvs : List V} (T : OexK X.K C) (iC : PySem.W.findIn X.K (.ref C) "__init__" = some (some (.ref fI))) (tI : PySem.W.typeIn X.K (.ref fI) = some (.type "function"))
    (F1 : FnOk X.prog X.w X.K X.mg X.base CX k fI fd ps sp) (hr : Room (k + 1) X.A) (hb : Binds X.K fd ps ds) (hd : Vals dvs ds) (hx : Passes CX X (fun _ _ _ => False)) (hg : Gl X x) (hm : X.mg x = some (.ref C)) (ha : PA X (e :: es) ta)
    (hdb : (x == ("__debug__" : Str)) = false := by decide) (he : starEach (e :: es) X.env = (false, eval e X.env) :: starEach es X.env := by rfl) (hpl : (backTo pos (starEach es X.env)).any (·.1) = false := by rfl) :
    L2N.PMk X (.Call (.Name x p) (e :: es) [] pos) (tMkO C sp dvs ta) := by
  intro pins s σ H Q I h
  obtain ⟨nm, q, N, bs, sn, sub, ab, col, dd, k0, k1, k2, k3, k5, hC⟩ := T.cls
  refine wpAny_Call_Name_kw (ld_glob I hg hm (PySem.W.callWith_K (h₀ := X.base) I.ok.mod.kin T.kC (thn (ha.run pos pins s σ H _ I h) fun us s1 hh => ?_) he hpl) hdb)
  obtain ⟨vs, H1, I1, rel, few, go⟩ := hh
  refine ⟨I1.kIn, ?_⟩
  show wpAny _ _ (call (.ref C) us) _ _ _
  obtain ⟨hp, g, dr, tk, os⟩ := s1
  have step : hp.objs.size ≤ hp.objs.size + 1 := Nat.le_succ _
  have n1 : H1 (hp.objs.size + 1) = none := I1.hok.fresh step
  have want := go (hp.objs.size + 1) n1
  have kp : ∀ b o, hp.get? b = some o → ((hp.push (PySem.W.kdv_tup us)).push (PySem.HandSPX.excO C hp.objs.size)).get? b = some o := fun b o z => Heap.get?_push_of_some _ (Heap.get?_push_of_some _ z)
  have here : ((hp.push (PySem.W.kdv_tup us)).push (PySem.HandSPX.excO C hp.objs.size)).get? (hp.objs.size + 1) = some (PySem.HandSPX.excO C hp.objs.size) := by heap_get
  have I2 : Inv X pins σ (upd H1 (hp.objs.size + 1) (exo (hp.objs.size + 1) C none)) ⟨(hp.push (PySem.W.kdv_tup us)).push (PySem.HandSPX.excO C hp.objs.size), g, dr, tk, os⟩ :=
    I1.laid (t' := tk) (a := hp.objs.size + 1) (o := exo (hp.objs.size + 1) C none) (h' := (hp.push (PySem.W.kdv_tup us)).push (PySem.HandSPX.excO C hp.objs.size)) kp step (exo_ok here)
  have rel2 : Vals (V.ref (hp.objs.size + 1) :: (vs ++ dvs)) (Value.ref (hp.objs.size + 1) :: (us ++ ds)) := .cons rfl (rel.append hd)
  have len : (Value.ref (hp.objs.size + 1) :: us ++ ds).length = ps.length := by
    have z := rel2.length
    rw [F1.len _ _ _ _ want] at z
    exact z.symm
  have fewU : us.length ≤ sizeLine := by
    rw [← Paired.length rel, sizeLine_eq]
    omega
  refine wpAny_call (PySem.HandSPX.call_own F.excBase_LookupError (fun Y => rfl) (I1.kIn _ _ hC) (PySem.W.looks_findIn I1.kIn iC) (fun self => PySem.W.bind_fn I1.kIn self tI) fewU
    (codeAny_mono (F1.run _ X.stack _ _ ⟨Value.ref (hp.objs.size + 1) :: us, []⟩ (Value.ref (hp.objs.size + 1) :: (us ++ ds)) _ _ (fun _ _ _ => False) (hr.make C us []) (I2.env0.make C us []) (hb _ (Value.ref (hp.objs.size + 1) :: us) I2.kIn len) rel2 want) fun r s' got => ?_))
  cases r with
  | error er => exact hx pins σ _ _ er s' I2 got
  | ok fl =>
    cases fl with
    | ret u =>
      obtain ⟨v, H2, os2, bare2, un2, hok2, rv, ev, d, fs, ea, ed, hd1, q2⟩ := got
      subst ev
      obtain ⟨h2, g2, d2, t2, os'⟩ := s'
      obtain ⟨t0, G, J, kG, ge, hoe, na⟩ := mk_end0 (d2 := d2) (t2 := t2) I1 step kp un2 hok2 os2 bare2 ea ed hd1
      exact ⟨rv, hp.objs.size + 1, _, _, ⟨G, g2, d2, t2, os'⟩, _, .ref C, some d, rfl, J, kG, ge, hoe, ⟨rfl, rfl, fun vs e => by cases e; rfl⟩, rfl, rfl, na, rfl, bare2, raises_own T.exC T.tyC, q2⟩
    | next => exact False.elim got
    | brk => exact False.elim got
    | cont => exact False.elim got
end
end Cot
set_option Elab.async false
set_option linter.all false
set_option maxRecDepth 100000
set_option maxHeartbeats 4000000
namespace Cot
open PySem PySem.Spec PyProof.Rows L2 L2N
end Cot
set_option Elab.async false
set_option linter.all false
set_option maxRecDepth 100000
set_option maxHeartbeats 4000000
namespace Cot
open PySem PySem.Spec PyProof.Rows L2
/-- the text f".. {n}" -/
def tNf (te : TE) (y : Str) : TE := fun σ H Q => tJs [tC (.str y), tFmt te] Str.empty σ H fun out H1 => Q (.str out) H1
theorem pe_nf {X : Cx} {e : Expr} {te : TE} {p1 p3 pos : Pos} {y : Str} {k : Nat} (he : PE X e te) : PE X (.JoinedStr [.Constant (.str y) k p3, .FormattedValue e (-1) none p1] pos) (tNf te y) := pe_joined (.cons pe_str (.cons (pe_fmt he) .nil))
theorem nf_run {i : Nat} {σ : L2.St} {H : Hp} {Q : VK} {n : Int} {y : Str} (h0 : 0 ≤ n) (h1 : n ≤ 1000000) (hy : y.length ≤ 1000) (h : σ[i]? = some (some (.int n))) (k : ∀ x, Q (.str x) H) : tNf (tVar i) y σ H Q := by
  have hl : (Str.ofString (toString n)).length ≤ 7 := toString_length_le h0 (k := 7) (by decide) (by omega)
  have e0 : (Str.empty ++ y).length = y.length := by rw [Str.length_append]; show 0 + _ = _; omega
  have e1 : (Str.empty ++ y ++ Str.ofString (toString n)).length = y.length + (Str.ofString (toString n)).length := by rw [Str.length_append, e0]
  exact ⟨y, rfl, by rw [e0, sizeLine_eq]; omega, .int n, h, .inr ⟨n, rfl, log2_small h0 h1, _, rfl, by rw [e1, sizeLine_eq]; omega, k _⟩⟩
end Cot
set_option Elab.async false
set_option linter.all false
set_option maxRecDepth 100000
set_option maxHeartbeats 4000000
namespace Cot
open PySem PySem.Spec PyProof.Rows L2 LamX
section
variable {X : Cx} {pins : List (Addr × Obj)} {σ : L2.St} {H : Hp} {s : Shared}
theorem actS {CXg : CXT} {Eg : XK} {Ng : List Str} {qg : Str} {sg : Scope} {g f c' : Addr} {cdg pm ctv : Value} {params : Arguments} {body : Expr} {scope : Scope} {k i : Nat} {a : Str} {pn : List (Addr × Obj)} {xe : Value → Shared → Prop} {W : WX} {E : XK} {tb : TE} {p1 p2 : Pos}
    (I : Inv X pins σ H s) (L : LamS X.env.scope scope) (of0 : s.heap.get? f = some (PySem.W.kla_obj "<lambda>" (X.env.qual ++ "<lambda>") params body scope (cloFrom X.env.cells scope.names []) pm c' ctv)) (nf : H f = none) (ff : f ∉ frs X.stack)
    (bnd : bindArgs (PySem.W.kla_fn "<lambda>" (X.env.qual ++ "<lambda>") params body scope (cloFrom X.env.cells scope.names []) pm (.ref c') ctv) ⟨[], []⟩ = pure [])
    (tk : L2N.Takes ((cxOf CXg X.prog X.w X.K X.mg X.base Ng qg sg g cdg X.A X.stack s H Eg).tr pn xe) W) (hr : Room (k + 1) (X.A.deeper (envOfC qg sg s.heap.objs.size g cdg)))
    (hb : ∀ (A : Around) (outer : List Env) (s : Shared) (H : Hp), Room k (A.deeper (lamEnv X scope s.heap.objs.size f c')) → PE (lamN X A outer s H E scope f c') body tb)
    (hN : Ng[i]? = some a) (hv : Vis sg a) (hd : (a == ("__debug__" : Str)) = false) (hcd : (a == ("__classdict__" : Str)) = false) :
    PE ((cxOf CXg X.prog X.w X.K X.mg X.base Ng qg sg g cdg X.A X.stack s H Eg).tr pn xe) (.Call (.Name a p1) [] [] p2)
      (fun σz Hz Q => σz[i]? = some (some (.ref f)) ∧ Hz c' = some (CodeO c' (X.env.qual ++ "<lambda>")) ∧ (∀ cls d H1, E cls d H1 → W cls d σz H1) ∧ tb σ Hz Q) := by
  refine ⟨fun pz sz σz Hz Q Iz hq => ?_⟩
  obtain ⟨h1, h2, hW, h3⟩ := hq
  have var := (pe_var (X := (cxOf CXg X.prog X.w X.K X.mg X.base Ng qg sg g cdg X.A X.stack s H Eg).tr pn xe) (pos := p1) (i := i) hN hv hd hcd).run pz sz σz Hz (fun v H1 => v = .ref f ∧ H1 = Hz) Iz ⟨.ref f, h1, rfl, rfl⟩
  refine wpAny_Call_Name_kw (thn var fun u sa hh => ?_)
  obtain ⟨v, Ha, Ia, ra, rfl, eHa⟩ := hh
  rw [eHa] at Ia
  cases ra
  have ofa := Ia.base.keep f _ of0 nf ff (fun z => nomatch (show f ∈ ([] : List Addr) from z))
  refine PySem.W.callWith_F0 ⟨_, _, _, _, ofa⟩ ?_
  have una : Un (frs X.stack) [] H Hz s.heap sa.heap := Ia.base
  obtain ⟨⟨oc, vs, t, hoc, hdc, hvc⟩, _, _⟩ := Ia.hok c' _ h2
  have run : codeAny (model X.prog X.w) (X.A.deeper (envOfC qg sg s.heap.objs.size g cdg)) (.call (.ref f) ⟨[], []⟩) (CR (L2N.CX X.prog X.w) (envOfC qg sg s.heap.objs.size g cdg :: X.stack) X.prog X.w Hz sa Q E) sa := by
    refine PySem.W.kla_callFunE hr.depth ofa rfl L.co L.gen rfl ⟨c', oc, vs, t, rfl, hoc, hdc, hvc⟩ ?_
    rw [bnd]
    apply wpAny_pure
    refine wpAny_newFunctionEnv (fun y hy => (L.own y hy).2) (fun y hy => absurd hy (by simp)) (fun hn ns sb => ⟨Ia.nolimit.fresh _ sb, ?_⟩) L.kind
    have keep : ∀ b o, sa.heap.get? b = some o → hn.get? b = some o := fun b o e => sb.extBut b o (Nat.ne_of_lt (Heap.lt_size e)) (Heap.get?_push_of_some _ e)
    have J := (lam_start2 (E := E) (f := f) (c' := c') (tk := sa.toks + ([] : List (Str × Value)).length) I L Ia.env0 hr.hd una ns keep).wish (fun e s1 => wpAny (model X.prog X.w) ((X.A.deeper (envOfC qg sg s.heap.objs.size g cdg)).deeper (lamEnv X scope sa.heap.objs.size f c')) (leaving (lamEnv X scope sa.heap.objs.size f c') e) (fun _ s2 => L2N.CX X.prog X.w (envOfC qg sg s.heap.objs.size g cdg :: X.stack) Hz sa E e s2) (fun e2 s2 => L2N.CX X.prog X.w (envOfC qg sg s.heap.objs.size g cdg :: X.stack) Hz sa E e2 s2) s1)
    show codeAny _ _ (.expr body (lamEnv X scope sa.heap.objs.size f c')) _ _
    refine PySem.W.kla_codeExpr (wpAny_mono ((hb _ _ sa Hz (hr.deeper _)).run [] _ _ Hz Q J h3) (fun v s1 hv => ?_) fun e s1 hv => hv)
    obtain ⟨v1, H1, J1, r1, q1⟩ := hv
    exact ⟨v1, H1, J1.os, J1.bare, J1.base, J1.hok, r1, q1⟩
  refine wpAny_call (codeAny_mono run fun r s1 hv => ?_)
  cases r with
  | error e => exact tk e s1 (L2N.XE.of_call Ia hW hv)
  | ok fl =>
    cases fl with
    | ret u => exact Ia.after hv
    | next => exact hv.elim
    | brk => exact hv.elim
    | cont => exact hv.elim
end
end Cot
set_option Elab.async false
set_option linter.all false
set_option maxRecDepth 100000
set_option maxHeartbeats 4000000
namespace PySem
section
variable {prog : Program} {w : World} {K : Type} [DecidableEq K] {knd : KeyKind prog w K} {A : Around} {E : Value → Shared → Prop} {s : Shared}
theorem wpAny_dictPut_pairs {d : Addr} {kvs : List (K × Value)} {k : K} {key v : Value} {Q : Unit → Shared → Prop} (hkey : knd.is k key = true) (hm : s.heap.DictOf knd d kvs)
    (hQ : ∀ h', h'.DictOf knd d (stored kvs k v) → Heap.SameBut d s.heap h' → Q () { s with heap := h' })
    (hsz : kvs.length ≤ sizeLine := by size_fits) :
    wpAny (model prog w) A (dictPut d (knd.hash k) key v) Q E s := by
  obtain ⟨o, es, ep, ho, hc, hd, hk, hp, hn⟩ := hm
  have hes : es.size ≤ sizeLine := by have e1 := hp.length; have e2 : es.toList.length = es.size := by simp
                                      omega
  unfold dictPut
  refine wpAny_bind (wpAny_dictFind_of hkey ho hd hk ?_)
  have hidx : (es.findIdx? fun e => knd.is k e.key) = kvs.findIdx? fun kv => decide (kv.1 = k) := by
    rw [← hp.findIdx k]; obtain ⟨l⟩ := es; simp
  cases hi : es.findIdx? fun e => knd.is k e.key with
  | some i =>
    refine wpAny_updateDict ho hd (hQ _ ⟨_, _, ep, Heap.get?_update_self _ ho (Obj.isFreed_of_dict (Obj.data_mapDict hd _)),
      hc.mapDict _, Obj.data_mapDict hd _, hk.modify _ _, ?_, ?_⟩ (Heap.SameBut.update ..))
    · rw [stored, if_pos (any_of_findIdx_some (hidx ▸ hi))]
      have hl : (es.toList.findIdx? fun e => knd.is k e.key) = some i := by rw [← hi]; obtain ⟨l⟩ := es; simp
      have := hp.modify hn hl v
      obtain ⟨l⟩ := es
      simpa using this
    · rw [stored, if_pos (any_of_findIdx_some (hidx ▸ hi)), keys_map_store]; exact hn
  | none =>
    have hnot : k ∉ kvs.map (·.1) := not_mem_of_findIdx_none (hidx ▸ hi)
    have hany : ¬ (kvs.any fun kv => decide (kv.1 = k)) = true := by
      rw [List.any_eq_true]; rintro ⟨kv, hkv, he⟩
      exact hnot (List.mem_map.mpr ⟨kv, hkv, of_decide_eq_true he⟩)
    refine wpAny_updateDictKeys (hz := hes) ho hd (hQ _ ⟨_, _, ep + 1, Heap.get?_update_self _ ho (Obj.isFreed_of_dict (Obj.data_mapDictKeys hd _)),
      hc.mapDictKeys _, Obj.data_mapDictKeys hd _, hk.push hkey _, ?_, ?_⟩ (Heap.SameBut.update ..))
    · rw [stored, if_neg hany]
      have := hp.append hkey (knd.hash k) v
      obtain ⟨l⟩ := es
      simpa using this
    · rw [stored, if_neg hany, List.map_append, List.nodup_append]
      refine ⟨hn, by simp, ?_⟩
      intro a ha b hb
      simp only [List.map_cons, List.map_nil, List.mem_singleton] at hb
      subst hb
      exact fun e => hnot (e ▸ ha)
theorem wpAny_mergeMapping {d o : Addr} {kvs more : List (K × Value)} {Q : Unit → Shared → Prop} (hdo : d ≠ o) (hoS : (o == sysModules) = false) (href : ∀ k a, knd.is k (.ref a) = false)
    (hd : s.heap.DictOf knd d kvs) (ho : s.heap.DictOf knd o more)
    (hQ : ∀ h', h'.DictOf knd d (merged kvs more) → h'.DictOf knd o more → Heap.SameBut d s.heap h' → Q () { s with heap := h' })
    (hsz : kvs.length + more.length ≤ sizeLine) :
    wpAny (model prog w) A (mergeMapping d (.ref o) false) Q E s := by
  obtain ⟨od, esd, epd, hod, hcd, hdd, hkd, hpd, hnd⟩ := id hd
  obtain ⟨oo, eso, epo, hoo, hco, hdo', hko, hpo, hno⟩ := id ho
  have hlen : more.length = eso.size := by rw [← hpo.length]; simp
  unfold mergeMapping
  refine wpAny_bind (wpAny_isInstance ho.typeIs isSubtype_dict_dict ?_)
  simp only [if_true]
  refine wpAny_bind (wpAny_specialOf ho.typeIs F.slot_dict_iter.lookup ?_)
  simp only [beq_self_eq_true]
  have tail : wpAny (model prog w) A (do
      let l ← dictEntries o
      let epoch ← dictEpoch o
      forIn (List.range l.size) PUnit.unit fun i (_ : PUnit) => (do
          let l' ← dictEntries o
          match l'[i]? with
            | some e => do
              holding [e.key, e.val] (if false = true then do
                  let r ← dictFind d e.key e.hash
                  if r.isSome = true then do
                      rule "dict.merge.duplicate-key"
                      let x ← newExc (Value.type "KeyError") [e.key]
                      raiseNew x
                      dictPut d e.hash e.key e.val
                    else dictPut d e.hash e.key e.val
                else dictPut d e.hash e.key e.val)
              let ep' ← dictEpoch o
              if (ep' != epoch) = true then do
                  (unsupported "dict.changed-during-merge" : Sem PUnit)
                  pure (ForInStep.yield PUnit.unit)
                else pure (ForInStep.yield PUnit.unit)
            | _ => do
              (unsupported "dict.changed-during-merge" : Sem PUnit)
              pure (ForInStep.yield PUnit.unit) : Sem (ForInStep PUnit))
      pure ()) Q E s := by
    refine wpAny_bind (wpAny_dictEntries hoo hdo' ?_)
    refine wpAny_bind (wpAny_dictEpoch hoo hdo' ?_)
    refine wpAny_bind ?_
    rw [List.range_eq_range']
    refine wpAny_forIn_list _
      (fun rest _ s' => ∃ h' i, s' = { s with heap := h' } ∧ rest = List.range' i (eso.size - i) ∧ i ≤ eso.size ∧ h'.DictOf knd d (merged kvs (more.take i)) ∧ h'.get? o = some oo ∧ Heap.SameBut d s.heap h')
      _ ?_ ?_ _ _ ⟨s.heap, 0, rfl, by simp, Nat.zero_le _, by simpa [merged] using hd, hoo, Heap.SameBut.refl _ _⟩
    · rintro x rest b s' ⟨h', i, rfl, hr, hi, hd', hoo', hs'⟩
      have hlt : i < eso.size := by
        rcases Nat.lt_or_ge i eso.size with h | h
        · exact h
        · rw [Nat.sub_eq_zero_of_le h] at hr; simp at hr
      obtain ⟨rfl, hrest⟩ : x = i ∧ rest = List.range' (i + 1) (eso.size - (i + 1)) := by
        have e : eso.size - i = (eso.size - (i + 1)) + 1 := by omega
        rw [e, List.range'_succ] at hr
        injection hr with h1 h2
        exact ⟨h1, h2⟩
      refine wpAny_bind (wpAny_dictEntries hoo' hdo' ?_)
      rw [Array.getElem?_eq_getElem hlt]
      obtain ⟨kv, hkv⟩ : ∃ kv, more[x]? = some kv := ⟨more[x]'(by rw [hlen]; exact hlt), List.getElem?_eq_getElem _⟩
      obtain ⟨k, v⟩ := kv
      obtain ⟨hkey, hval⟩ := hpo.get? (e := eso[x]) (by simp [hlt]) hkv
      obtain ⟨k', hkey', hhash⟩ := hko eso[x] (Array.getElem_mem hlt)
      obtain rfl : k' = k := knd.inj _ _ _ hkey' hkey
      dsimp only
      rw [if_neg (by decide)]
      rw [hhash, hval]
      have hmx : (merged kvs (more.take x)).length ≤ sizeLine := by
        have e1 := merged_length_le kvs (more.take x)
        have e2 : (more.take x).length ≤ more.length := by rw [List.length_take]; omega
        omega
      refine wpAny_bind (wpAny_holding (wpAny_dictPut_pairs (hsz := hmx) hkey hd' fun h'' hd'' hs'' => ?_))
      have hoo'' : h''.get? o = some oo := (hs''.2 o (Ne.symm hdo)).trans hoo'
      refine wpAny_bind (wpAny_dictEpoch hoo'' hdo' ?_)
      rw [if_neg (by simp)]
      exact wpAny_pure ⟨h'', x + 1, rfl, hrest, hlt, by rw [merged_take_succ kvs more x (k', v) hkv]; exact hd'', hoo'', hs'.trans hs''⟩
    · rintro b s' ⟨h', i, rfl, hr, hi, hd', hoo', hs'⟩
      have hin : i = eso.size := by
        rcases Nat.lt_or_ge i eso.size with h | h
        · have e : eso.size - i = (eso.size - (i + 1)) + 1 := by omega
          rw [e, List.range'_succ] at hr; exact nomatch hr
        · exact Nat.le_antisymm hi h
      refine wpAny_pure (hQ h' ?_ ⟨oo, eso, epo, hoo', hco, hdo', hko, hpo, hno⟩ hs')
      rw [hin, ← hlen, List.take_length] at hd'; exact hd'
  refine wpAny_bind (wpAny_pure ?_)
  dsimp only
  rw [if_neg (by rw [hoS]; exact Bool.false_ne_true)]
  refine wpAny_bind (wpAny_dictEntries hod hdd ?_)
  split
  · refine wpAny_bind (wpAny_dictEntries hoo hdo' ?_)
    refine wpAny_bind ?_
    rw [← Array.forIn_toList]
    refine wpAny_forIn_list _ (fun rest _ s' => s' = s ∧ ∀ e ∈ rest, e ∈ eso.toList) _ ?_ ?_ _ _ ⟨rfl, fun e h => h⟩
    · rintro e rest b s' ⟨rfl, h⟩
      obtain ⟨k, hk, _⟩ := hko e (by simpa using h e List.mem_cons_self)
      cases he : e.key with
      | ref a =>
        rw [he, href] at hk
        cases hk
      | _ => exact wpAny_pure ⟨rfl, fun x hx => h x (List.mem_cons_of_mem _ hx)⟩
    · rintro b s' ⟨rfl, _⟩
      exact tail
  · exact tail
end
end PySem
set_option Elab.async false
set_option linter.all false
set_option maxRecDepth 100000
set_option maxHeartbeats 4000000
namespace Cot
open PySem PySem.Spec PyProof.Rows L2
/-- {**d, k: v} -/
def tDStar (td tk tv : TE) : TE := fun σ H Q => ∀ p, H p = none → td σ (upd H p (.dK [])) fun x H1 => ∃ a kvs, x = .ref a ∧ Rd H1 a (.dK kvs) ∧ a ≠ p ∧ H1 p = some (.dK []) ∧ (kvs.map (·.1)).Nodup ∧ kvs.length ≤ 1000 ∧
  ∀ p2, upd H1 p (.dK kvs) p2 = none → tPairs [(tk, tv)] σ (upd (upd H1 p (.dK kvs)) p2 (.dK [])) fun ps H2 => ∃ k y, ps = [(kV k, y)] ∧ H2 p = some (.dK kvs) ∧ H2 p2 = some (.dK []) ∧ Q (.ref p) (upd (upd H2 p2 (.dK [(k, y)])) p (.dK (putK kvs k y)))
theorem mix_ref (P : Program) (w : World) (k : Key) (a : Addr) : (mixKind P w).is k (.ref a) = false := by
  cases k <;> rfl
section
variable {X : Cx} {d k v : Expr} {td tk tv : TE} {pos : Pos}
theorem pe_dstar (hd : PE X d td) (hk : PE X k tk) (hv : PE X v tv) : PE X (.Dict [none, some k] [d, v] pos) (tDStar td tk tv) := by
  refine ⟨fun pins s σ H Q I q => ?_⟩
  have hn := I.hok.fresh (Nat.le_refl s.heap.objs.size)
  have I1 := I.laid (a := s.heap.objs.size) (o := .dK []) (h' := s.heap.push { cls := .type "dict", data := .dict #[] }) (t' := s.toks) (fun _ _ q => Heap.get?_push_of_some _ q) (Nat.le_refl _) (dk_empty s.heap I.big)
  rw [arm_eval_Dict]
  refine wpAny_bind (wpAny_standAt ?_)
  show wpAny _ _ (dictDisplay [(none, do let x ← eval d X.env; standAt pos; pure x), (some (eval k X.env), do let x ← eval v X.env; standAt pos; pure x)]) _ _ _
  unfold dictDisplay
  simp only [List.forIn_cons, List.forIn_nil, List.isEmpty_nil, if_true]
  refine wpAny_bind (wpAny_bind (wpAny_bind (wpAny_pure ?_)))
  dsimp only
  refine wpAny_bind (wpAny_alloc ?_)
  refine wpAny_bind (wpAny_holding (wpAny_bind (thn (hd.run pins _ σ _ _ I1 (q _ hn)) fun u s1 ⟨x, H1, I1', rx, a, kvs, ex, ha, nap, hp, hnd, hz, q1⟩ => wpAny_bind (wpAny_standAt (wpAny_pure ?_)))))
  subst ex
  cases rx
  obtain ⟨z1, lo1, vs1, rel1, dd1⟩ := dk_rd I1'.hok ha
  obtain ⟨z0, lo0, vs0, rel0, dd0⟩ := dk_of I1'.hok hp
  cases rel0
  refine wpAny_bind (wpAny_onRaise (wpAny_tryCatch (wpAny_onRaise (wpAny_holding (wpAny_mergeMapping (knd := mixKind X.prog X.w) (Ne.symm nap) lo1 (mix_ref X.prog X.w) dd0 dd1 (fun h1 dd1' dd1'' sb1 => ?_) (by rw [← rel1.length]; simpa using z1))))))
  have ek : vs1.map (·.1) = kvs.map (·.1) := rel1.keys.symm
  have em : merged [] vs1 = vs1 := merged_nil_of_nodup vs1 (by rw [ek]; exact hnd)
  rw [em] at dd1'
  have I2 : L2.Inv X pins σ (upd H1 s.heap.objs.size (.dK kvs)) { s1 with heap := h1 } := by
    have he : ∃ q, h1.get? s.heap.objs.size = some q := let ⟨q, _, _, hq, _⟩ := dd1'; ⟨q, hq⟩
    exact d_write I1' (by rw [hp]; exact True.intro) sb1 he (dk_new z1 lo0 rel1 dd1')
  refine wpAny_pure ?_
  dsimp only
  refine wpAny_bind ?_
  rw [if_neg (by simp)]
  refine wpAny_pure ?_
  dsimp only
  refine wpAny_pure ?_
  dsimp only
  simp only [List.nil_append, List.isEmpty_cons, Bool.false_eq_true, if_false]
  have hn2 := I2.hok.fresh (Nat.le_refl h1.objs.size)
  have I3 := I2.laid (a := h1.objs.size) (o := .dK []) (h' := h1.push { cls := .type "dict", data := .dict #[] }) (t' := s1.toks) (fun _ _ q => Heap.get?_push_of_some _ q) (Nat.le_refl _) (dk_empty h1 I2.big)
  have nhp : h1.objs.size ≠ s.heap.objs.size := fun e => by
    rw [e, upd_same] at hn2
    cases hn2
  refine wpAny_bind (wpAny_bind (wpAny_holding (wpAny_subDict (knd := mixKind X.prog X.w) (by simp) ?_)))
  have PP : PPs X pos [some k] [v] [(tk, tv)] := pps_cons hk hv pps_nil
  refine thn (PP.run pins _ σ _ _ I3 (q1 _ hn2)) fun ws s2 hh => ?_
  obtain ⟨ps, H2, I4, rel2, kk, yy, eps, hp2, hs2, q2⟩ := hh
  subst eps
  obtain ⟨rs, cr, rk⟩ := carries_of (P := X.prog) (w := X.w) (kvs := [(kk, yy)]) rel2
  obtain ⟨z2, lo2, vs2, rel3, dd2⟩ := dk_of I4.hok hs2
  cases rel3
  obtain ⟨z3, lo3, vs3, rel4, dd3⟩ := dk_of I4.hok hp2
  refine ⟨rs, cr, dd2, fun h2 dd2' sb2 => ?_⟩
  have I5 : L2.Inv X pins σ (upd H2 h1.objs.size (.dK [(kk, yy)])) { s2 with heap := h2, toks := s2.toks + ws.length } := by
    have he : ∃ q, h2.get? h1.objs.size = some q := let ⟨q, _, _, hq, _⟩ := dd2'; ⟨q, hq⟩
    have em2 : mergeK [] [(kk, yy)] = [(kk, yy)] := rfl
    exact d_write I4 (by rw [hs2]; exact True.intro) sb2 he (dk_new (by show 1 ≤ _; rw [sizeLine_eq]; omega) lo2 (by rw [← em2]; exact rk.merge .nil) dd2')
  have hp5 : upd H2 h1.objs.size (.dK [(kk, yy)]) s.heap.objs.size = some (.dK kvs) := by
    rw [upd_ne nhp.symm]
    exact hp2
  obtain ⟨z4, lo4, vs4, rel5, dd4⟩ := dk_of I5.hok hp5
  obtain ⟨z6, lo6, vs6, rel6, dd6⟩ := dk_of I5.hok (upd_same (a := h1.objs.size))
  refine wpAny_bind (wpAny_onRaise (wpAny_holding (wpAny_mergeMapping (knd := mixKind X.prog X.w) nhp.symm lo2 (mix_ref X.prog X.w) dd4 dd6 (fun h3 dd7 dd8 sb3 => ?_) ?_)))
  · have hl : (putK kvs kk yy).length ≤ sizeLine := by
      have := length_putK kvs kk yy
      rw [sizeLine_eq]
      omega
    have I6 : L2.Inv X pins σ (upd (upd H2 h1.objs.size (.dK [(kk, yy)])) s.heap.objs.size (.dK (putK kvs kk yy))) { s2 with heap := h3, toks := s2.toks + ws.length } := by
      have he : ∃ q, h3.get? s.heap.objs.size = some q := let ⟨q, _, _, hq, _⟩ := dd7; ⟨q, hq⟩
      have em3 : mergeK kvs [(kk, yy)] = putK kvs kk yy := rfl
      exact d_write (s := { s2 with heap := h2, toks := s2.toks + ws.length }) I5 (by rw [hp5]; exact True.intro) sb3 he (dk_new hl lo4 (by rw [← em3]; exact rel6.merge rel5) dd7)
    exact wpAny_pure (wpAny_pure ⟨.ref s.heap.objs.size, _, I6, rfl, q2⟩)
  · have e1 := rel5.length
    have e2 := rel6.length
    rw [← e1, ← e2, sizeLine_eq]
    show kvs.length + 1 ≤ _
    omega
end
end Cot
set_option Elab.async false
set_option linter.all false
set_option maxRecDepth 100000
set_option maxHeartbeats 4000000
namespace Cot
open PySem PySem.Spec PyProof.Rows L2 Evl LamX
/-- a new dict that is known for good -/
def EvDF (te : TE) (σ : L2.St) (H : Hp) (kvs : List (Key × V)) : Prop := ∀ H1, Ex H H1 → ∀ Q : VK, (∀ p o H2, Ex H1 H2 → H1 p = none → H2 p = some (.frz o (.dK kvs)) → Q (.ref p) H2) → te σ H1 Q
section
variable {K : PySem.W.Frag} {σ : L2.St} {H H1 H2 Hd : Hp} {ta td tk tv te : TE} {a d p : Addr} {x y v : V} {D : Ends} {tz : TS} {kvs : List (Key × V)} {k : Key}
theorem rd_ext {u : HO} (h : Rd H a u) (e : Ex H H2) : Rd H2 a u := by
  rcases h with h | ⟨o, h⟩
  · exact .inl (e _ _ h)
  · exact .inr ⟨o, e _ _ h⟩
theorem rd_frz {o : Obj} (h : H a = some (.frz o (.dK kvs))) : Rd H a (.dK kvs) := .inr ⟨o, h⟩
theorem rd_some {u : HO} (h : Rd H a u) : ∃ o, H a = some o := by
  rcases h with h | ⟨o, h⟩ <;> exact ⟨_, h⟩
theorem edf_star (hd : Ev td σ H (.ref a)) (hk : Ev tk σ H (kV k)) (hv : Ev tv σ H y) (h : Rd H a (.dK kvs)) (nd : (kvs.map (·.1)).Nodup) (hz : kvs.length ≤ 1000) : EvDF (tFrzE (tDStar td tk tv)) σ H (putK kvs k y) := fun H1 e1 Q q p hp => by
  have eN : Ex H1 (upd H1 p (.dK [])) := Ex.new hp
  refine hd _ (e1.trans eN) _ fun H2 e2 => ?_
  have h2 := rd_ext h ((e1.trans eN).trans e2)
  obtain ⟨o1, ho1⟩ := rd_some (rd_ext h e1)
  have nap : a ≠ p := fun z => by rw [z, hp] at ho1; cases ho1
  have hp2 : H2 p = some (.dK []) := e2 _ _ upd_same
  refine ⟨a, kvs, rfl, h2, nap, hp2, nd, hz, fun r hr => ?_⟩
  -- the heap with the new dict filled, and the small one beside it
  have rp : r ≠ p := fun z => by rw [z, upd_same] at hr; cases hr
  have hr2 : H2 r = none := by rw [upd_ne rp] at hr; exact hr
  have E1 : Ex H1 (upd (upd H2 p (.dK kvs)) r (.dK [])) := fun b o hb => by
    have bp : b ≠ p := fun z => by rw [z, hp] at hb; cases hb
    have hb2 := (eN.trans e2) _ _ hb
    have br : b ≠ r := fun z => by rw [z, hr2] at hb2; cases hb2
    rw [upd_ne br, upd_ne bp]
    exact hb2
  refine hk _ (e1.trans E1) _ fun H3 e3 => hv _ ((e1.trans E1).trans e3) _ fun H4 e4 => ?_
  have e34 := e3.trans e4
  refine ⟨k, y, rfl, e34 _ _ (by rw [upd_ne rp.symm, upd_same]), e34 _ _ upd_same, p, putK kvs k y, upd_same, fun o => ?_⟩
  refine q p o _ (fun b u hb => ?_) hp upd_same
  have bp : b ≠ p := fun z => by rw [z, hp] at hb; cases hb
  have hb2 := (eN.trans e2) _ _ hb
  have br : b ≠ r := fun z => by rw [z, hr2] at hb2; cases hb2
  rw [upd_ne bp, upd_ne bp, upd_ne br]
  exact e34 _ _ (E1 _ _ hb)
/-- {k: v for k in d if ..} -/
theorem dc_it {J : It} {n : Nat} {G : Hp → Prop} {Y : Nat → Hp → V → Hp → Prop} (w : Walk J n G Y) {g : TG} {tt : TT} {tk tv : TE} {vs : List Nat} {σ : L2.St} {H1 : Hp} {D : Addr} {Qd : Hp → Prop} (Pv : Nat → Hp → Prop) (h0 : Pv 0 (upd H1 D (.dK []))) (hG : ∀ i H, i ≤ n → Pv i H → G H)
    (hs : ∀ i x H H', i < n → Pv i H → Y i H x H' → g x (wipe σ vs) H' fun σ2 H2 => wipe σ2 vs = wipe σ vs ∧ tt σ2 H2 fun b H3 =>
      if b = true then tk σ2 H3 fun y H4 => tv σ2 H4 fun z H5 => ∃ kvs k, y = kV k ∧ H5 D = some (.dK kvs) ∧ kvs.length < sizeLine ∧ Pv (i + 1) (upd H5 D (.dK (putK kvs k z))) else Pv (i + 1) H3) (hd : ∀ H, Pv n H → Qd H) :
    ∃ W : Nat → Nat → Hp → Prop, (∃ m, W 0 m (upd H1 D (.dK []))) ∧ ∀ i m H, W i m H →
      (J.stop i H ∧ Qd H) ∨ (J.go i H ∧ ∃ Nx : Hp → Prop, (∀ H', Nx H' → ∃ m', m' < m ∧ W (i + 1) m' H') ∧ ∀ x H', J.yld i H x H' → g x (wipe σ vs) H' fun σ2 H2 => wipe σ2 vs = wipe σ vs ∧ tt σ2 H2 fun b H3 =>
        if b = true then tk σ2 H3 fun y H4 => tv σ2 H4 fun z H5 => ∃ kvs k, y = kV k ∧ H5 D = some (.dK kvs) ∧ kvs.length < sizeLine ∧ Nx (upd H5 D (.dK (putK kvs k z))) else Nx H3) :=
  ⟨fun i m H => m = n - i ∧ i ≤ n ∧ Pv i H, ⟨n, by simp, Nat.zero_le _, h0⟩, fun i m H ⟨e, hi, p⟩ => by
    rcases Nat.lt_or_ge i n with h | h
    · exact .inr ⟨w.goes i H h (hG i H hi p), Pv (i + 1), fun H' p' => ⟨n - (i + 1), by omega, rfl, h, p'⟩, fun x H' y => hs i x H H' h p (w.yields i H x H' h (hG i H hi p) y)⟩
    · obtain rfl : i = n := by omega
      exact .inl ⟨w.stops H (hG i H hi p), hd H p⟩⟩
theorem edf_keep {o : Obj} {j : Nat} {vs : List Nat} {f : Key → Bool} {wi : TI} {g : TG} {tt : TT} (hI : EvI K wi g σ Hd kvs.length (fun i σ' σ2 _ => ∃ k v, kvs[i]? = some (k, v) ∧ σ2 = σ'.set j (some (kV k)))) (nd : (kvs.map (·.1)).Nodup) (hz : kvs.length ≤ 1000)
    (ht : ∀ (k : Key) (v : V) (σ2 : L2.St) (Hn : Hp), (k, v) ∈ kvs → Ex Hd Hn → σ2 = (wipe σ vs).set j (some (kV k)) → wipe σ2 vs = wipe σ vs ∧ EvT tt σ2 Hn (f k) ∧ (f k = true → Ev tk σ2 Hn (kV k) ∧ Ev tv σ2 Hn v)) :
    ∀ H1, Ex Hd H1 → ∀ Q : VK, (∀ p o H2, Ex H1 H2 → H1 p = none → H2 p = some (.frz o (.dK (kvs.filter fun e => f e.1))) → Q (.ref p) H2) → tFrzE (tDc wi g tt tk tv vs) σ H1 Q := fun H1 s Q q =>
  hI H1 s _ fun J H2 Hn G Y gr w hG hY D hD => by
    refine dc_it w (fun i H' => i ≤ kvs.length ∧ Ex H2 H' ∧ H' D = some (.dK ((kvs.take i).filter fun e => f e.1))) ⟨Nat.zero_le _, Ex.new hD, by rw [upd_same]; rfl⟩ (fun i H' _ p => hG H' (gr.sub.trans p.2.1)) (fun i x H' H'' hi p y => ?_) (fun H' p => ?_)
    · obtain ⟨_, e2, hDi⟩ := p
      have sx := gr.sub.trans e2
      refine hY i x H' H'' _ _ hi sx y fun σ2 H3 e3 hS => ?_
      obtain ⟨k, v, hk, rfl⟩ := hS
      obtain ⟨hw, hT, hE⟩ := ht k v _ H3 (List.mem_of_getElem? hk) ((gr.dx.trans sx).trans e3) rfl
      have htake : kvs.take (i + 1) = kvs.take i ++ [(k, v)] := by rw [List.take_succ, hk]; rfl
      refine ⟨hw, hT H3 (Ex.refl _) _ fun H4 e4 => ?_⟩
      cases hf : f k with
      | false =>
        show (i + 1 ≤ kvs.length ∧ _)
        refine ⟨hi, (e2.trans e3).trans e4, ?_⟩
        rw [htake, List.filter_append, List.filter_cons_of_neg (by simp [hf]), List.filter_nil, List.append_nil]
        exact (e3.trans e4) _ _ hDi
      | true =>
        obtain ⟨h1, h2⟩ := hE hf
        show tk _ H4 _
        refine h1 H4 e4 _ fun H5 e5 => h2 H5 (e4.trans e5) _ fun H6 e6 => ?_
        have e36 := ((e3.trans e4).trans e5).trans e6
        have hD6 := e36 _ _ hDi
        have hv : valV ((kvs.take i).filter fun e => f e.1) k = none := by
          cases hq : valV ((kvs.take i).filter fun e => f e.1) k with
          | none => rfl
          | some z =>
            exfalso
            unfold valV at hq
            rw [Option.map_eq_some_iff] at hq
            obtain ⟨e, he, _⟩ := hq
            have hm := List.mem_of_find?_eq_some he
            have hek := List.find?_some he
            have hek : e.1 = k := of_decide_eq_true hek
            have hm2 := (List.mem_filter.mp hm).1
            obtain ⟨i2, hi2, hge⟩ := List.getElem_of_mem hm2
            rw [List.length_take] at hi2
            rw [List.getElem_take] at hge
            have g1 : (kvs.map (·.1))[i2]? = some k := by rw [List.getElem?_map, List.getElem?_eq_getElem (by omega), hge]; exact congrArg some hek
            have g2 : (kvs.map (·.1))[i]? = some k := by rw [List.getElem?_map, hk]; rfl
            have := ((List.getElem?_inj (by rw [List.length_map]; omega) nd).mp (g1.trans g2.symm))
            omega
        refine ⟨_, k, rfl, hD6, ?_, hi, Ex.mut (e2.trans e36) hD, ?_⟩
        · have h1 := List.length_filter_le (fun e : Key × V => f e.1) (kvs.take i)
          have h2 := List.length_take_le i kvs
          unfold sizeLine
          omega
        · rw [upd_same, putK_new _ hv, htake, List.filter_append, List.filter_cons_of_pos (by simpa using hf), List.filter_nil]
    · obtain ⟨_, e2, hDi⟩ := p
      rw [List.take_length] at hDi
      refine ⟨D, _, hDi, fun o => q D o _ ?_ (fresh_back gr.ex hD) upd_same⟩
      exact Ex.mut (gr.ex.trans e2) (fresh_back gr.ex hD)
end
/-- a def that keeps its promise, and may raise -/
structure HeldX (P : Program) (w : World) (K : PySem.W.Frag) (mg : Str → Option Value) (base : Heap) (k : Nat) (f : Addr) (sp : Sp) : Prop where
  ex : ∃ (fd : FuncData) (ps : List Str), FnOk P w K mg base (L2N.CX P w) k f fd ps sp ∧ PySem.W.keepIn K (.ref f) = true ∧ Binds K fd ps []
def tCallX (i : Nat) (S : Addr → Sp → Prop) (E : XK) (t : TA) : TE := fun σ H Q => ∃ f sp, σ[i]? = some (some (.ref f)) ∧ S f sp ∧ t σ H fun vs H1 => sp vs H1 Q E
theorem pe_callX {X : Cx} {k i : Nat} {E : XK} {x : Str} {p pos : Pos} {e : Expr} {es : List Expr} {t : TA} {S : Addr → Sp → Prop} (A : ∀ f sp, S f sp → HeldX X.prog X.w X.K X.mg X.base k f sp) (hr : Room k X.A) (hN : X.N[i]? = some x) (hv : Vis X.env.scope x) (hx : Passes (L2N.CX X.prog X.w) X E) (ha : PA X (e :: es) t)
    (hdb : (x == ("__debug__" : Str)) = false := by decide) (hcd : (x == ("__classdict__" : Str)) = false := by decide)
    (he : starEach (e :: es) X.env = (false, eval e X.env) :: starEach es X.env := by rfl) (hpl : (backTo pos (starEach es X.env)).any (·.1) = false := by rfl) : PE X (.Call (.Name x p) (e :: es) [] pos) (tCallX i S E t) := by
  refine ⟨fun pins s σ H Q I h => ?_⟩
  obtain ⟨f, sp, hs, hS, ht⟩ := h
  obtain ⟨fd, ps, F, hk, hb⟩ := (A f sp hS).ex
  refine (pe_callL (i := i) (f := f) (sp := sp) (dvs := []) (E := E) F hr hN hv hk hb .nil hx ha hdb hcd he hpl).run pins s σ H Q I ⟨hs, ?_⟩
  simpa only [List.append_nil] using ht
end Cot
set_option Elab.async false
set_option linter.all false
set_option maxRecDepth 100000
set_option maxHeartbeats 4000000
namespace Cot
open PySem PySem.Spec PyProof.Rows L2 Evl
end Cot
set_option Elab.async false
set_option linter.all false
set_option maxRecDepth 100000
set_option maxHeartbeats 4000000
namespace Cot
open PySem PySem.Spec PyProof.Rows L2 Evl
end Cot
set_option Elab.async false
set_option linter.all false
set_option maxRecDepth 100000
set_option maxHeartbeats 4000000
namespace Cot
open PySem PySem.Spec PyProof.Rows L2 Evl
end Cot
set_option Elab.async false
set_option linter.all false
set_option maxRecDepth 100000
set_option maxHeartbeats 4000000
namespace Cot
open PySem PySem.Spec PyProof.Rows L2 Evl LamX
end Cot
set_option Elab.async false
set_option linter.all false
set_option maxRecDepth 100000
set_option maxHeartbeats 4000000
namespace Cot
open PySem PySem.Spec PyProof.Rows L2 Evl
end Cot
set_option Elab.async false
set_option linter.all false
set_option maxRecDepth 100000
set_option maxHeartbeats 4000000
namespace Cot
open PySem PySem.Spec PyProof.Rows L2 Evl LamX
section
variable {K : PySem.W.Frag} {T : List (Addr × Str)} {M M' : List Addr} {σ : L2.St} {Hd H : Hp} {ta tb te ti : TE} {a l : Addr} {xs ys : List V} {x y : V} {D : Ends} {tz : TS}
/-- xs.append(v), a list beside the data -/
theorem GrW.app {v : V} (W : Wld T M' Hd H) (hm : l ∈ M') (hl : H l = some (.lst xs)) : GrW T [l] Hd H Hd (upd H l (.lst (xs ++ [v]))) :=
  GrW.chg W (fun a ha => by rw [List.mem_singleton.mp ha]; exact hm) (fun a o h n => by
    rw [upd_ne (by simpa using n)]
    exact h) (fun a ha => by
    rw [List.mem_singleton.mp ha]
    exact ⟨_, upd_same, noTb_lst⟩) (fun a ha => by
    rw [List.mem_singleton.mp ha]
    exact ntb_lst hl)
end
end Cot
set_option Elab.async false
set_option linter.all false
set_option maxRecDepth 100000
set_option maxHeartbeats 4000000
namespace Cot
open PySem PySem.Spec PyProof.Rows L2 Evl LamX
/-- the object at f is this lambda -/
def FunO (q : Str) (pr : Arguments) (bd : Expr) (sc : Scope) (clo : List (Str × Addr)) (f c' : Addr) : HO := .ext fun h => ∃ pm ctv : Value, h.get? f = some (PySem.W.kla_obj "<lambda>" q pr bd sc clo pm c' ctv)
/-- a lambda of X, and what its reading asks -/
def LamAt (X : Cx) (k : Nat) (H : Hp) (f c' : Addr) (t : XK → TE) : Prop := ∃ (pr : Arguments) (bd : Expr) (sc : Scope), H f = some (FunO (X.env.qual ++ "<lambda>") pr bd sc (cloFrom X.env.cells sc.names []) f c') ∧ H c' = some (CodeO c' (X.env.qual ++ "<lambda>")) ∧ LamS X.env.scope sc ∧
  (∀ (q : Str) (cl : List (Str × Addr)) (pm cv ctv : Value), bindArgs (PySem.W.kla_fn "<lambda>" q pr bd sc cl pm cv ctv) ⟨[], []⟩ = pure []) ∧
  ∀ (A : Around) (outer : List Env) (s : Shared) (H : Hp) (E : XK) (f c' : Addr), Room k (A.deeper (lamEnv X sc s.heap.objs.size f c')) → PE (lamN X A outer s H E sc f c') bd (t E)
theorem noTb_fun {q : Str} {pr : Arguments} {bd : Expr} {sc : Scope} {clo : List (Str × Addr)} {f c' : Addr} : NoTb (FunO q pr bd sc clo f c') := fun ps z => by cases z
theorem noTb_code {c : Addr} {q : Str} : NoTb (CodeO c q) := fun ps z => by cases z
section
variable {X : Cx} {k : Nat} {H H2 : Hp} {f c' : Addr} {t : XK → TE}
theorem LamAt.keep (h : LamAt X k H f c' t) (e : ∀ a o, a = f ∨ a = c' → H a = some o → NoTb o → H2 a = some o) : LamAt X k H2 f c' t := by
  obtain ⟨pr, bd, sc, h1, h2, h3⟩ := h
  exact ⟨pr, bd, sc, e _ _ (.inl rfl) h1 noTb_fun, e _ _ (.inr rfl) h2 noTb_code, h3⟩
theorem LamAt.ext (h : LamAt X k H f c' t) (e : Ex H H2) : LamAt X k H2 f c' t := h.keep fun a o _ ha _ => e a o ha
theorem LamAt.step {T : List (Addr × Str)} {M : List Addr} {Hd Hn : Hp} (h : LamAt X k H f c' t) (g : GrW T M Hd H Hn H2) (n1 : f ∉ M) (n2 : c' ∉ M) : LamAt X k H2 f c' t := h.keep fun a o ha h1 n => g.ex a o h1 (by rcases ha with rfl | rfl <;> assumption) n
theorem LamAt.ne_lst (h : LamAt X k H f c' t) {p : Addr} {xs : List V} (hp : H p = some (.lst xs)) : f ≠ p ∧ c' ≠ p := by
  obtain ⟨pr, bd, sc, h1, h2, _⟩ := h
  exact ⟨fun z => (by rw [z, hp] at h1; cases h1), fun z => (by rw [z, hp] at h2; cases h2)⟩
theorem LamAt.put (h : LamAt X k H f c' t) {p : Addr} {xs ys : List V} (hp : H p = some (.lst xs)) : LamAt X k (upd H p (.lst ys)) f c' t := h.keep fun a o ha h1 n => by
  obtain ⟨n1, n2⟩ := h.ne_lst hp
  rw [upd_ne (by rcases ha with rfl | rfl <;> assumption)]
  exact h1
end
end Cot
namespace Cot
open PySem PySem.Spec PyProof.Rows L2 Evl LamX
/-- what is never reached -/
def tNev : TS := fun _ _ _ => False
theorem pss_nev {X : Cx} {ss : List Stmt} : PSs X ss tNev := ⟨fun _ _ _ _ _ _ h => h.elim⟩
end Cot
set_option Elab.async false
set_option linter.all false
set_option maxRecDepth 100000
set_option maxHeartbeats 4000000
namespace Cot
open PySem PySem.Spec PyProof.Rows L2 Evl LamX
end Cot
set_option Elab.async false
set_option linter.all false
set_option maxRecDepth 100000
set_option maxHeartbeats 4000000
namespace Cot
open PySem PySem.Spec PyProof.Rows L2 Evl
end Cot
set_option Elab.async false
set_option linter.all false
set_option maxRecDepth 100000
set_option maxHeartbeats 4000000
namespace Cot
open PySem PySem.Spec PyProof.Rows L2 L2N
end Cot
set_option Elab.async false
set_option linter.all false
set_option maxRecDepth 100000
set_option maxHeartbeats 4000000
namespace Cot
open PySem PySem.Spec PyProof.Rows L2 Evl
end Cot
set_option Elab.async false
set_option linter.all false
set_option maxRecDepth 100000
set_option maxHeartbeats 4000000
namespace Cot
open PySem PySem.Spec PyProof.Rows L2 L2N
/-- what is asked of an error by the clauses, one behind the other; some i: the clause has a name, in place i -/
def wMix (K : PySem.W.Frag) (D : Ends) : List (Value × (Addr → Value → Option Addr → TS) × Option Nat) → WX
  | [] => fun _ _ _ _ => False
  | (c, ts, some i) :: r => fun cls d σ H => ∃ b, PySem.W.exmOne K cls c = some b ∧ (b = true → ∀ a, H a = none →
      ts a cls d { nx := fun σ' H' => D.nx (σ'.set i none) H', rt := D.rt, bk := fun σ' H' => D.bk (σ'.set i none) H', ct := fun σ' H' => D.ct (σ'.set i none) H' } (σ.set i (some (.ref a))) H) ∧ (b = false → wMix K D r cls d σ H)
  | (c, ts, none) :: r => fun cls d σ H => ∃ b, PySem.W.exmOne K cls c = some b ∧ (b = true → ∀ a, H a = none → ts a cls d D σ H) ∧ (b = false → wMix K D r cls d σ H)
inductive Hdm (X : Cx) : List ExceptHandler → List (Value × (Addr → Value → Option Addr → TS) × Option Nat) → Prop
  | nil : Hdm X [] []
  | as {x n : Str} {i : Nat} {c : Value} {ts : Addr → Value → Option Addr → TS} {f0 : Stmt} {su : List Stmt} {np qos : Pos} {hds : List ExceptHandler} {l : List (Value × (Addr → Value → Option Addr → TS) × Option Nat)} (ni : X.N[i]? = some n) (kn : X.env.kindOf n = some .local) (hc : Names X x c)
      (go : ∀ (a : Addr) (oe : Obj) (cls : Value) (d : Option Addr) (ps : List (Addr × Obj)), L2N.Zn cls d oe → (∃ vs, oe.data = .fields vs) → PSs (X.suite a ((a, oe) :: ps)) (f0 :: su) (ts a cls d)) (r : Hdm X hds l) :
      Hdm X (.ExceptHandler (some (.Name x np)) (some n) (f0 :: su) qos :: hds) ((c, ts, some i) :: l)
  | un {x : Str} {c : Value} {ts : Addr → Value → Option Addr → TS} {f0 : Stmt} {su : List Stmt} {np qos : Pos} {hds : List ExceptHandler} {l : List (Value × (Addr → Value → Option Addr → TS) × Option Nat)} (hc : Names X x c)
      (go : ∀ (a : Addr) (oe : Obj) (cls : Value) (d : Option Addr) (ps : List (Addr × Obj)), L2N.Zn cls d oe → (∃ vs, oe.data = .fields vs) → PSs (X.suite a ((a, oe) :: ps)) (f0 :: su) (ts a cls d)) (r : Hdm X hds l) :
      Hdm X (.ExceptHandler (some (.Name x np)) none (f0 :: su) qos :: hds) ((c, ts, none) :: l)
theorem ps_tryMix {X : Cx} {todo : List Stmt} {h0 : ExceptHandler} {more : List ExceptHandler} {l : List (Value × (Addr → Value → Option Addr → TS) × Option Nat)} {pos : Pos} {tb : WX → TS}
    (st : X.stack = X.env :: X.outer) (fr : X.env.frame = some X.env.locals) (nd : X.N.Nodup)
    (go : ∀ (W : WX) (ps : List (Addr × Obj)) (xe : Value → Shared → Prop), L2N.Takes (X.tr ps xe) W → PassesOwn (model X.prog X.w) X.A X.env xe → PSs (X.tr ps xe) todo (tb W))
    (hs : Hdm X (h0 :: more) l) : PS X (.Try todo (h0 :: more) [] [] pos) (fun D σ H => tb (wMix X.K D l) D σ H) := by
  refine ⟨fun ps s σ H D I w => wpAny_Try_except ?_⟩
  have I0 := I.ok
  have F0 : X.A.frames = some (X.env :: X.outer) := by rw [I0.frames, st]
  let xe' : Value → Shared → Prop := fun e s1 => wpAny (model X.prog X.w) X.A (noteFrame e X.env) (fun _ s2 => wpAny (model X.prog X.w) X.A (setFlight e none) (fun _ s3 => wpAny (model X.prog X.w) X.A (handleBy e X.env (h0 :: more)) (SP X ps D) X.xe s3) X.xe s2) X.xe s1
  have tk : L2N.Takes (X.tr (X.pn ++ ps) xe') (wMix X.K D l) := by
    rintro u s1 ⟨a, B, sJ, qs, τ, G, cls, d, rfl, Jt, nb, up, sky, na, eos, ag, want⟩
    have J : Inv X ps τ G sJ := Jt.ofTry I0
    have sk : L2.Sky B (X.env :: X.outer) a (L2N.Zn cls d) X.env.locals s1.heap := by rw [← st]; exact sky
    show wpAny (model X.prog X.w) X.A (noteFrame (.ref a) X.env) _ _ _
    refine L2N.Sky.land L2N.Zn.steady F0 fr sk fun g1 l1 u1 => ?_
    obtain ⟨o1, v1, e1, z1, d1⟩ := l1.there
    have J1 : Inv X ps τ G { s1 with heap := g1 } := J.landed nb l1.1 (up.trans u1) eos ag
    have off : a ∉ frs (X.env :: X.outer) := fun hm => by
      obtain ⟨_, o2, e2, no⟩ := l1.2.2.1.mem hm
      rw [e1] at e2
      cases e2
      exact no _ d1
    have offL : a ≠ X.env.locals := fun z => off (List.mem_filterMap.mpr ⟨X.env, List.mem_cons_self, by rw [fr, z]⟩)
    have offF : a ∉ X.fs := fun hm => by
      obtain ⟨e, he, hq⟩ := List.mem_filterMap.mp hm
      exact off (List.mem_filterMap.mpr ⟨e, List.mem_cons_of_mem _ he, hq⟩)
    have S1 := J1.suite e1 d1 na offL offF
    have ty : PySem.W.Looks (model X.prog X.w) g1 (typeOf (.ref a)) cls := fun A Q E s k hq => wpAny_typeOf_ref (k _ _ e1) (by rw [z1.1]; exact hq)
    have pick : ∀ {hds : List ExceptHandler} {l : List (Value × (Addr → Value → Option Addr → TS) × Option Nat)}, Hdm X hds l → wMix X.K D l cls d τ G →
        wpAny (model X.prog X.w) X.A (handleBy (.ref a) X.env hds) (SP X ps D) X.xe { s1 with heap := g1 } := by
      intro hds l hk
      induction hk with
      | nil => exact fun w => w.elim
      | @as x n i c ts f0 su np qos hds l ni kn hc su1 _ ih =>
        rintro ⟨b, hb, yes, no⟩
        refine wpAny_handleBy_cons (codeAny_handlers_test ?_) (by intro hq; cases hq)
        have look : ∀ {Q : Value → Shared → Prop} {E : Value → Shared → Prop}, Q c { s1 with heap := g1 } → wpAny (model X.prog X.w) (X.A.mark (some (.ref a))) (eval (.Name x np) X.env) Q E { s1 with heap := g1 } := fun {Q E} hq => by
          rcases hc with ⟨h1, h2, h3 | ⟨h3, h4, h5⟩⟩
          · exact ld_glob (X := X.suite a ((a, o1) :: (X.pn ++ ps))) S1 h1 h3 hq h2
          · exact ld_blt (X := X.suite a ((a, o1) :: (X.pn ++ ps))) S1 h1 h3 h4 hq h5 h2
        refine look ((PySem.W.exm_one (M := model X.prog X.w) J1.kIn ty hb).here ?_)
        cases b with
        | false =>
          show wpAny _ X.A (handleBy (.ref a) X.env hds) _ _ _
          exact ih (no rfl)
        | true =>
          refine codeAny_handlers_suite_as (HandSPX.lands_againZ l1 fun g2 l2 u2 => ?_)
          obtain ⟨o2, v2, e2, z2, d2⟩ := l2.there
          have J2 : Inv X ps τ G { s1 with heap := g2 } := J.landed nb l2.1 ((up.trans u1).trans u2) eos ag
          refine store_ok (X := X.suite a ((a, o2) :: (X.pn ++ ps))) (v := .ref a) (J2.suite e2 d2 na offL offF) nd ni (.inl kn) rfl (fun s5 S5 => ?_) (.inr kn)
          refine wpAny_mono ((su1 a o2 cls d (X.pn ++ ps) z2 ⟨_, d2⟩).run [] s5 _ G _ S5 (yes rfl a na)) (fun f s6 fin => ?_) (fun _ _ z => z.elim)
          have gone : ∀ {τ' : L2.St} {G' : Hp} {Q : Shared → Prop}, Inv (X.suite a ((a, o2) :: (X.pn ++ ps))) [] τ' G' s6 → (∀ s7, Inv X ps (τ'.set i none) G' s7 → Q s7) →
            wpAny (model X.prog X.w) X.A (do bindName X.env n .none; unbindBehindTheSuite X.env n qos) (fun _ s7 => Q s7) X.xe s6 := fun {τ' G' Q} S6 hq => gone_ok (S6.unsuite I0) nd ni kn hq
          cases f with
          | ret u =>
            obtain ⟨v6, τ6, G6, S6, r6, w6⟩ := fin
            exact gone S6 fun s7 J7 => ⟨_, _, _, J7, r6, w6⟩
          | next =>
            obtain ⟨τ6, G6, S6, w6⟩ := fin
            exact gone S6 fun s7 J7 => ⟨_, _, J7, w6⟩
          | brk =>
            obtain ⟨τ6, G6, S6, w6⟩ := fin
            exact gone S6 fun s7 J7 => ⟨_, _, J7, w6⟩
          | cont =>
            obtain ⟨τ6, G6, S6, w6⟩ := fin
            exact gone S6 fun s7 J7 => ⟨_, _, J7, w6⟩
      | @un x c ts f0 su np qos hds l hc su1 _ ih =>
        rintro ⟨b, hb, yes, no⟩
        refine wpAny_handleBy_cons (codeAny_handlers_test ?_) (by intro hq; cases hq)
        have look : ∀ {Q : Value → Shared → Prop} {E : Value → Shared → Prop}, Q c { s1 with heap := g1 } → wpAny (model X.prog X.w) (X.A.mark (some (.ref a))) (eval (.Name x np) X.env) Q E { s1 with heap := g1 } := fun {Q E} hq => by
          rcases hc with ⟨h1, h2, h3 | ⟨h3, h4, h5⟩⟩
          · exact ld_glob (X := X.suite a ((a, o1) :: (X.pn ++ ps))) S1 h1 h3 hq h2
          · exact ld_blt (X := X.suite a ((a, o1) :: (X.pn ++ ps))) S1 h1 h3 h4 hq h5 h2
        refine look ((PySem.W.exm_one (M := model X.prog X.w) J1.kIn ty hb).here ?_)
        cases b with
        | false =>
          show wpAny _ X.A (handleBy (.ref a) X.env hds) _ _ _
          exact ih (no rfl)
        | true =>
          refine codeAny_handlers_suite ?_
          refine HandSPX.lands_againZ l1 fun g2 l2 u2 => ?_
          obtain ⟨o2, v2, e2, z2, d2⟩ := l2.there
          have J2 : Inv X ps τ G { s1 with heap := g2 } := J.landed nb l2.1 ((up.trans u1).trans u2) eos ag
          have S2 := J2.suite e2 d2 na offL offF
          refine wpAny_mono ((su1 a o2 cls d (X.pn ++ ps) z2 ⟨_, d2⟩).run [] _ _ G _ S2 (yes rfl a na)) (fun f s6 fin => ?_) (fun _ _ z => z.elim)
          cases f with
          | ret u =>
            obtain ⟨v6, τ6, G6, S6, r6, w6⟩ := fin
            exact ⟨_, _, _, S6.unsuite I0, r6, w6⟩
          | next =>
            obtain ⟨τ6, G6, S6, w6⟩ := fin
            exact ⟨_, _, S6.unsuite I0, w6⟩
          | brk =>
            obtain ⟨τ6, G6, S6, w6⟩ := fin
            exact ⟨_, _, S6.unsuite I0, w6⟩
          | cont =>
            obtain ⟨τ6, G6, S6, w6⟩ := fin
            exact ⟨_, _, S6.unsuite I0, w6⟩
    exact pick hs want
  refine wpAny_mono ((go (wMix X.K D l) (X.pn ++ ps) xe' tk PassesOwn.looking).run [] s σ H D (I.toTry _) w) (fun f s1 fin => ?_) (fun e s1 he => he)
  cases f with
  | ret u =>
    obtain ⟨v, τ, G, J, r, w1⟩ := fin
    exact ⟨v, τ, G, J.ofTry I0, r, w1⟩
  | next =>
    obtain ⟨τ, G, J, w1⟩ := fin
    exact wpAny_execs_nil ⟨τ, G, J.ofTry I0, w1⟩
  | brk =>
    obtain ⟨τ, G, J, w1⟩ := fin
    exact ⟨τ, G, J.ofTry I0, w1⟩
  | cont =>
    obtain ⟨τ, G, J, w1⟩ := fin
    exact ⟨τ, G, J.ofTry I0, w1⟩
end Cot
set_option Elab.async false
set_option linter.all false
set_option maxRecDepth 100000
set_option maxHeartbeats 4000000
namespace Cot
open PySem PySem.Spec PyProof.Rows L2
section
variable {X : Cx} {o e : Expr} {es : List Expr} {to te : TE} {ta : TA} {f : Str} {p p' p1 p2 pos : Pos}
theorem pmk_oexN {CX : CXT} {x : Str} {C fI : Addr} {k : Nat} {fd : FuncData} {ps : List Str} {sp : Sp} {ds : List Value} {dvs : List V} (T : OexC X.K C) (iC : PySem.W.findIn X.K (.ref C) "__init__" = some (some (.ref fI))) (tI : PySem.W.typeIn X.K (.ref fI) = some (.type "function"))
    (F1 : FnOk X.prog X.w X.K X.mg X.base CX k fI fd ps sp) (hr : Room (k + 1) X.A) (hb : Binds X.K fd ps ds) (hd : Vals dvs ds) (hx : Passes CX X (fun _ _ _ => False)) (hg : Gl X x) (hm : X.mg x = some (.ref C)) (ha : PA X (e :: es) ta)
    (hdb : (x == ("__debug__" : Str)) = false := by decide) (he : starEach (e :: es) X.env = (false, eval e X.env) :: starEach es X.env := by rfl) (hpl : (backTo pos (starEach es X.env)).any (·.1) = false := by rfl) :
    L2N.PMk X (.Call (.Name x p) (e :: es) [] pos) (tMkO C sp dvs ta) := by
  intro pins s σ H Q I h
  obtain ⟨nm, q, N, bs, bm, sn, sub, ab, col, dd, k0, k1, k2, k3, k5, hC, hbm⟩ := T.cls
  refine wpAny_Call_Name_kw (ld_glob I hg hm (PySem.W.callWith_K (h₀ := X.base) I.ok.mod.kin T.kC (thn (ha.run pos pins s σ H _ I h) fun us s1 hh => ?_) he hpl) hdb)
  obtain ⟨vs, H1, I1, rel, few, go⟩ := hh
  refine ⟨I1.kIn, ?_⟩
  show wpAny _ _ (call (.ref C) us) _ _ _
  obtain ⟨hp, g, dr, tk, os⟩ := s1
  have step : hp.objs.size ≤ hp.objs.size + 1 := Nat.le_succ _
  have n1 : H1 (hp.objs.size + 1) = none := I1.hok.fresh step
  have want := go (hp.objs.size + 1) n1
  have kp : ∀ b o, hp.get? b = some o → ((hp.push (PySem.W.kdv_tup us)).push (PySem.HandSPX.excO C hp.objs.size)).get? b = some o := fun b o z => Heap.get?_push_of_some _ (Heap.get?_push_of_some _ z)
  have here : ((hp.push (PySem.W.kdv_tup us)).push (PySem.HandSPX.excO C hp.objs.size)).get? (hp.objs.size + 1) = some (PySem.HandSPX.excO C hp.objs.size) := by heap_get
  have I2 : Inv X pins σ (upd H1 (hp.objs.size + 1) (exo (hp.objs.size + 1) C none)) ⟨(hp.push (PySem.W.kdv_tup us)).push (PySem.HandSPX.excO C hp.objs.size), g, dr, tk, os⟩ :=
    I1.laid (t' := tk) (a := hp.objs.size + 1) (o := exo (hp.objs.size + 1) C none) (h' := (hp.push (PySem.W.kdv_tup us)).push (PySem.HandSPX.excO C hp.objs.size)) kp step (exo_ok here)
  have rel2 : Vals (V.ref (hp.objs.size + 1) :: (vs ++ dvs)) (Value.ref (hp.objs.size + 1) :: (us ++ ds)) := .cons rfl (rel.append hd)
  have len : (Value.ref (hp.objs.size + 1) :: us ++ ds).length = ps.length := by
    have z := rel2.length
    rw [F1.len _ _ _ _ want] at z
    exact z.symm
  have fewU : us.length ≤ sizeLine := by
    rw [← Paired.length rel, sizeLine_eq]
    omega
  refine wpAny_call (PySem.HandSPX.call_own F.excBase_ValueError (fun Y => PySem.HandSPX.refsVE_contains Y bm hbm) (I1.kIn _ _ hC) (PySem.W.looks_findIn I1.kIn iC) (fun self => PySem.W.bind_fn I1.kIn self tI) fewU
    (codeAny_mono (F1.run _ X.stack _ _ ⟨Value.ref (hp.objs.size + 1) :: us, []⟩ (Value.ref (hp.objs.size + 1) :: (us ++ ds)) _ _ (fun _ _ _ => False) (hr.make C us []) (I2.env0.make C us []) (hb _ (Value.ref (hp.objs.size + 1) :: us) I2.kIn len) rel2 want) fun r s' got => ?_))
  cases r with
  | error er => exact hx pins σ _ _ er s' I2 got
  | ok fl =>
    cases fl with
    | ret u =>
      obtain ⟨v, H2, os2, bare2, un2, hok2, rv, ev, d, fs, ea, ed, hd1, q2⟩ := got
      subst ev
      obtain ⟨h2, g2, d2, t2, os'⟩ := s'
      obtain ⟨t0, G, J, kG, ge, hoe, na⟩ := mk_end0 (d2 := d2) (t2 := t2) I1 step kp un2 hok2 os2 bare2 ea ed hd1
      exact ⟨rv, hp.objs.size + 1, _, _, ⟨G, g2, d2, t2, os'⟩, _, .ref C, some d, rfl, J, kG, ge, hoe, ⟨rfl, rfl, fun vs e => by cases e; rfl⟩, rfl, rfl, na, rfl, bare2, raises_own T.exC T.tyC, q2⟩
    | next => exact False.elim got
    | brk => exact False.elim got
    | cont => exact False.elim got
end
end Cot
namespace C_k56
open PySem PySem.Spec PyProof.Rows L2 Evl Cot RZ L2H
local macro_rules | `(tactic| walk_at "side") => `(tactic| first | decide | omega | (show (0 : Int) < _; omega) | (show (0 : Int) < _ ∧ _ < (1073741824 : Int); omega) | (exact Or.inr (by omega)) | (exact Or.inl (by omega)) | (show (0 : Int) ≤ _ ∧ _ ≤ (1000000 : Int) ∧ _; refine ⟨by decide, by decide, by decide⟩))
local macro_rules | `(tactic| walk_at "rv") => `(tactic| first
  | with_reducible exact rv_I0
  | ((with_reducible apply rv_I); walk_at "side")
  | ((with_reducible apply rv_eq); rfl)
  | ((with_reducible apply rv_ne); rfl)
  | ((with_reducible apply rv_ixL); (first | exact sq_of (by assumption) | exact sq_of upd_same); rfl)
  | with_reducible exact rv_isN)
local macro_rules | `(tactic| walk_at "ev") => `(tactic| first
  | ((with_reducible apply ev_var); rfl)
  | with_reducible exact ev_c
  | ((with_reducible apply ev_op); walk_at "ev"; walk_at "ev"; walk_at "rv")
  | ((with_reducible apply ev_un); walk_at "ev"; exact ru_neg)
  | ((with_reducible apply ev_chainB); walk_at "ev"; walk_at "ev"; walk_at "rv"; walk_at "ev"; walk_at "rv")
  | ((with_reducible apply ev_andB); walk_at "ev"; walk_at "ev")
  | ((with_reducible apply ev_orB); walk_at "ev"; walk_at "ev")
  | ((with_reducible apply ev_notV); walk_at "ev")
  | ((with_reducible apply ev_ifB); walk_at "et"; walk_at "ev"; walk_at "ev"))
local macro_rules | `(tactic| walk_at "ea") => `(tactic| first
  | with_reducible exact ea_nil
  | ((with_reducible apply ea_cons); walk_at "ev"; walk_at "ea"))
local macro_rules | `(tactic| walk_at "et") => `(tactic| first
  | ((with_reducible apply et_test); walk_at "ev")
  | ((with_reducible apply et_B); walk_at "ev")
  | ((with_reducible apply et_not); walk_at "et")
  | ((with_reducible apply et_andB); walk_at "et"; walk_at "et")
  | ((with_reducible apply et_orB); walk_at "et"; walk_at "et"))
local macro_rules | `(tactic| walk_at "kb") => `(tactic| first | exact kb_NoneType_bool | exact kb_NoneType_int | exact kb_NoneType_str | exact kb_NoneType_list | exact kb_NoneType_tuple | exact kb_bool_bool | exact kb_bool_int | exact kb_bool_str | exact kb_bool_list | exact kb_bool_tuple | exact kb_int_bool | exact kb_int_int | exact kb_int_str | exact kb_int_list | exact kb_int_tuple | exact kb_str_bool | exact kb_str_int | exact kb_str_str | exact kb_str_list | exact kb_str_tuple | exact kb_list_bool | exact kb_list_int | exact kb_list_str | exact kb_list_list | exact kb_list_tuple | exact kb_tuple_bool | exact kb_tuple_int | exact kb_tuple_str | exact kb_tuple_list | exact kb_tuple_tuple)
local macro_rules | `(tactic| walk_at "ed") => `(tactic| first
  | ((with_reducible apply ed_var); rfl; first | assumption | exact Dp.int _ | exact Dp.bl _ | exact Dp.str _ | exact Dp.non)
  | ((with_reducible apply ed_tup); walk_at "eda"; (simp only [List.length_cons, List.length_nil]; decide))
  | ((with_reducible apply ed_new); walk_at "en")
  | ((with_reducible apply ed_int); walk_at "ev")
  | ((with_reducible apply ed_bool); walk_at "ev")
  | ((with_reducible apply ed_str); walk_at "ev")
  | ((with_reducible apply ed_non); walk_at "ev"))
local macro_rules | `(tactic| walk_at "en") => `(tactic| first
  | ((with_reducible apply en_lst); walk_at "eda"; (simp only [List.length_cons, List.length_nil]; decide)))
local macro_rules | `(tactic| walk_at "eda") => `(tactic| first
  | with_reducible exact eda_nil
  | ((with_reducible apply eda_cons); walk_at "ed"; walk_at "eda"))
local macro_rules | `(tactic| walk_at "ev") => `(tactic| first
  | ((with_reducible apply ev_isi); walk_at "ed"; walk_at "kb")
  | ((with_reducible apply ev_isiT2); walk_at "ed"; walk_at "kb"; walk_at "kb")
  | ((with_reducible apply ev_eqD); walk_at "ed"; walk_at "ed"; rfl; rfl)
  | ((with_reducible apply ev_neD); walk_at "ed"; walk_at "ed"; rfl; rfl)
  | ((with_reducible apply ev_lenL); walk_at "ed")
  | ((with_reducible apply ev_lenT); walk_at "ed"))
abbrev N_is_clock : List Str := ["clock"]
theorem sc_is_clock : FnScope N_is_clock ["clock"] (defScope s_is_clock) := ⟨rfl, rfl, rfl, by decide +kernel, rfl, by decide +kernel, by decide +kernel⟩
abbrev N_need_clock : List Str := ["clock"]
theorem sc_need_clock : FnScope N_need_clock ["clock"] (defScope s_need_clock) := ⟨rfl, rfl, rfl, by decide +kernel, rfl, by decide +kernel, by decide +kernel⟩
abbrev N_is_what : List Str := ["clock", "one"]
theorem sc_is_what : FnScope N_is_what ["clock", "one"] (defScope s_is_what) := ⟨rfl, rfl, rfl, by decide +kernel, rfl, by decide +kernel, by decide +kernel⟩
abbrev N_is_row : List Str := ["clock", "row", "wide", "one"]
theorem sc_is_row : FnScope N_is_row ["clock", "row", "wide"] (defScope s_is_row) := ⟨rfl, rfl, rfl, by decide +kernel, rfl, by decide +kernel, by decide +kernel⟩
abbrev N_is_chart : List Str := ["chart", "clock", "rows", "wide", "row"]
theorem sc_is_chart : FnScope N_is_chart ["chart"] (defScope s_is_chart) := ⟨rfl, rfl, rfl, by decide +kernel, rfl, by decide +kernel, by decide +kernel⟩
abbrev N_need_chart : List Str := ["chart"]
theorem sc_need_chart : FnScope N_need_chart ["chart"] (defScope s_need_chart) := ⟨rfl, rfl, rfl, by decide +kernel, rfl, by decide +kernel, by decide +kernel⟩
abbrev N_size : List Str := ["chart", "rows"]
theorem sc_size : FnScope N_size ["chart"] (defScope s_size) := ⟨rfl, rfl, rfl, by decide +kernel, rfl, by decide +kernel, by decide +kernel⟩
abbrev N_need_within : List Str := ["chart", "top", "left", "high", "wide", "rows", "columns"]
theorem sc_need_within : FnScope N_need_within ["chart", "top", "left", "high", "wide"] (defScope s_need_within) := ⟨rfl, rfl, rfl, by decide +kernel, rfl, by decide +kernel, by decide +kernel⟩
abbrev N_need_fit : List Str := ["chart", "patch", "top", "left", "high", "wide"]
theorem sc_need_fit : FnScope N_need_fit ["chart", "patch", "top", "left"] (defScope s_need_fit) := ⟨rfl, rfl, rfl, by decide +kernel, rfl, by decide +kernel, by decide +kernel⟩
abbrev N_is_name : List Str := ["word", "letter"]
theorem sc_is_name : FnScope N_is_name ["word"] (defScope s_is_name) := ⟨rfl, rfl, rfl, by decide +kernel, rfl, by decide +kernel, by decide +kernel⟩
abbrev N_read_number : List Str := ["word", "figure"]
theorem sc_read_number : FnScope N_read_number ["word"] (defScope s_read_number) := ⟨rfl, rfl, rfl, by decide +kernel, rfl, by decide +kernel, by decide +kernel⟩
abbrev N_read_what : List Str := ["word"]
theorem sc_read_what : FnScope N_read_what ["word"] (defScope s_read_what) := ⟨rfl, rfl, rfl, by decide +kernel, rfl, by decide +kernel, by decide +kernel⟩
abbrev N_read_thing : List Str := ["kind", "word"]
theorem sc_read_thing : FnScope N_read_thing ["kind", "word"] (defScope s_read_thing) := ⟨rfl, rfl, rfl, by decide +kernel, rfl, by decide +kernel, by decide +kernel⟩
abbrev N_read_things : List Str := ["kinds", "words", "things", "kind", "word"]
theorem sc_read_things : FnScope N_read_things ["kinds", "words"] (defScope s_read_things) := ⟨rfl, rfl, rfl, by decide +kernel, rfl, by decide +kernel, by decide +kernel⟩
abbrev N_need_day : List Str := ["day"]
theorem sc_need_day : FnScope N_need_day ["day"] (defScope s_need_day) := ⟨rfl, rfl, rfl, by decide +kernel, rfl, by decide +kernel, by decide +kernel⟩
abbrev N_need_what : List Str := ["clock", "one"]
theorem sc_need_what : FnScope N_need_what ["clock", "one"] (defScope s_need_what) := ⟨rfl, rfl, rfl, by decide +kernel, rfl, by decide +kernel, by decide +kernel⟩
abbrev N_log_of : List Str := ["logs", "name"]
theorem sc_log_of : FnScope N_log_of ["logs", "name"] (defScope s_log_of) := ⟨rfl, rfl, rfl, by decide +kernel, rfl, by decide +kernel, by decide +kernel⟩
abbrev N_begin_chart : List Str := ["logs", "things", "name", "clock", "high", "wide", "begun"]
theorem sc_begin_chart : FnScope N_begin_chart ["logs", "things"] (defScope s_begin_chart) := ⟨rfl, rfl, rfl, by decide +kernel, rfl, by decide +kernel, by decide +kernel⟩
abbrev N_tell_square : List Str := ["logs", "things", "name", "row", "column", "one", "day", "changed", "number"]
theorem sc_tell_square : FnScope N_tell_square ["logs", "things"] (defScope s_tell_square) := ⟨rfl, rfl, rfl, by decide +kernel, rfl, by decide +kernel, by decide +kernel⟩
abbrev N_right_entry : List Str := ["logs", "things", "name", "number", "one", "changed"]
theorem sc_right_entry : FnScope N_right_entry ["logs", "things"] (defScope s_right_entry) := ⟨rfl, rfl, rfl, by decide +kernel, rfl, by decide +kernel, by decide +kernel⟩
abbrev N_strike_entry : List Str := ["logs", "things", "name", "number", "changed"]
theorem sc_strike_entry : FnScope N_strike_entry ["logs", "things"] (defScope s_strike_entry) := ⟨rfl, rfl, rfl, by decide +kernel, rfl, by decide +kernel, by decide +kernel⟩
abbrev N_drop_chart : List Str := ["logs", "things", "name", "other"]
theorem sc_drop_chart : FnScope N_drop_chart ["logs", "things"] (defScope s_drop_chart) := ⟨rfl, rfl, rfl, by decide +kernel, rfl, by decide +kernel, by decide +kernel⟩
abbrev N_lay_chart : List Str := ["logs", "things", "name", "other", "top", "left", "day", "changed", "patch", "many", "at", "row", "column", "one"]
theorem sc_lay_chart : FnScope N_lay_chart ["logs", "things"] (defScope s_lay_chart) := ⟨rfl, rfl, rfl, by decide +kernel, rfl, by decide +kernel, by decide +kernel⟩
abbrev N_need_deed : List Str := ["deed"]
theorem sc_need_deed : FnScope N_need_deed ["deed"] (defScope s_need_deed) := ⟨rfl, rfl, rfl, by decide +kernel, rfl, by decide +kernel, by decide +kernel⟩
abbrev N_read_deed : List Str := ["text", "words", "things"]
theorem sc_read_deed : FnScope N_read_deed ["text"] (defScope s_read_deed) := ⟨rfl, rfl, rfl, by decide +kernel, rfl, by decide +kernel, by decide +kernel⟩
abbrev N_answer_deed : List Str := ["atlas", "line", "told"]
theorem sc_answer_deed : FnScope N_answer_deed ["atlas", "line"] (defScope s_answer_deed) := ⟨rfl, rfl, rfl, by decide +kernel, rfl, by decide +kernel, by decide +kernel⟩
abbrev N_answer : List Str := ["atlas", "line", "words", "things", "action"]
theorem sc_answer : FnScope N_answer ["atlas", "line"] (defScope s_answer) := ⟨rfl, rfl, rfl, by decide +kernel, rfl, by decide +kernel, by decide +kernel⟩
abbrev N_law_box : List Str := ["_law_script", "_law_seed", "_law_cell"]
theorem sc_law_box : FnScope N_law_box ["_law_script"] (defScope s_law_box) := ⟨rfl, rfl, rfl, by decide +kernel, rfl, by decide +kernel, by decide +kernel⟩
abbrev N_law_mixed : List Str := ["_law_number", "_law_turn", "_law_base", "_law_more"]
theorem sc_law_mixed : FnScope N_law_mixed ["_law_number", "_law_turn"] (defScope s_law_mixed) := ⟨rfl, rfl, rfl, by decide +kernel, rfl, by decide +kernel, by decide +kernel⟩
abbrev N_law_take : List Str := ["_law_box_here", "_law_many", "_law_rest", "_law_cell"]
theorem sc_law_take : FnScope N_law_take ["_law_box_here", "_law_many"] (defScope s_law_take) := ⟨rfl, rfl, rfl, by decide +kernel, rfl, by decide +kernel, by decide +kernel⟩
abbrev N_law_clock : List Str := ["_law_box_here"]
theorem sc_law_clock : FnScope N_law_clock ["_law_box_here"] (defScope s_law_clock) := ⟨rfl, rfl, rfl, by decide +kernel, rfl, by decide +kernel, by decide +kernel⟩
abbrev N_law : List Str := ["_law_script", "_law_box_here", "_law_desk", "_law_clock_here", "_law_odd", "_law_k", "_law_wide", "_law_words", "_law_lines", "_law_found", "_law_number", "_law_line"]
theorem sc_law : FnScope N_law ["_law_script"] (defScope s_law) := ⟨rfl, rfl, rfl, by decide +kernel, rfl, by decide +kernel, by decide +kernel⟩
abbrev N_Log_init : List Str := ["self", "clock", "high", "wide"]
theorem sc_Log_init : FnScope N_Log_init ["self", "clock", "high", "wide"] (defScope s_Log_init) := ⟨rfl, rfl, rfl, by decide +kernel, rfl, by decide +kernel, by decide +kernel⟩
abbrev N_Log_len : List Str := ["self"]
theorem sc_Log_len : FnScope N_Log_len ["self"] (defScope s_Log_len) := ⟨rfl, rfl, rfl, by decide +kernel, rfl, by decide +kernel, by decide +kernel⟩
abbrev N_Log_need_entry : List Str := ["self", "number"]
theorem sc_Log_need_entry : FnScope N_Log_need_entry ["self", "number"] (defScope s_Log_need_entry) := ⟨rfl, rfl, rfl, by decide +kernel, rfl, by decide +kernel, by decide +kernel⟩
abbrev N_Log_add : List Str := ["self", "row", "column", "one", "day", "number"]
theorem sc_Log_add : FnScope N_Log_add ["self", "row", "column", "one", "day"] (defScope s_Log_add) := ⟨rfl, rfl, rfl, by decide +kernel, rfl, by decide +kernel, by decide +kernel⟩
abbrev N_Log_right : List Str := ["self", "number", "one", "day", "row", "column", "before"]
theorem sc_Log_right : FnScope N_Log_right ["self", "number", "one"] (defScope s_Log_right) := ⟨rfl, rfl, rfl, by decide +kernel, rfl, by decide +kernel, by decide +kernel⟩
abbrev N_Log_strike : List Str := ["self", "number"]
theorem sc_Log_strike : FnScope N_Log_strike ["self", "number"] (defScope s_Log_strike) := ⟨rfl, rfl, rfl, by decide +kernel, rfl, by decide +kernel, by decide +kernel⟩
abbrev N_Log_entries : List Str := ["self", "found", "number", "day", "row", "column", "one"]
theorem sc_Log_entries : FnScope N_Log_entries ["self"] (defScope s_Log_entries) := ⟨rfl, rfl, rfl, by decide +kernel, rfl, by decide +kernel, by decide +kernel⟩
abbrev N_Log_chart : List Str := ["self", "day", "rows", "number", "told_on", "row", "column", "one"]
theorem sc_Log_chart : FnScope N_Log_chart ["self", "day"] (defScope s_Log_chart) := ⟨rfl, rfl, rfl, by decide +kernel, rfl, by decide +kernel, by decide +kernel⟩
abbrev N_Log_twin : List Str := ["self", "other"]
theorem sc_Log_twin : FnScope N_Log_twin ["self"] (defScope s_Log_twin) := ⟨rfl, rfl, rfl, by decide +kernel, rfl, by decide +kernel, by decide +kernel⟩
abbrev N_Atlas_init : List Str := ["self"]
theorem sc_Atlas_init : FnScope N_Atlas_init ["self"] (defScope s_Atlas_init) := ⟨rfl, rfl, rfl, by decide +kernel, rfl, by decide +kernel, by decide +kernel⟩
abbrev N_Atlas_do : List Str := ["self", "deed", "action", "logs", "told"]
theorem sc_Atlas_do : FnScope N_Atlas_do ["self", "deed"] (defScope s_Atlas_do) := ⟨rfl, rfl, rfl, by decide +kernel, rfl, by decide +kernel, by decide +kernel⟩
abbrev N_Atlas_twin : List Str := ["self", "other"]
theorem sc_Atlas_twin : FnScope N_Atlas_twin ["self"] (defScope s_Atlas_twin) := ⟨rfl, rfl, rfl, by decide +kernel, rfl, by decide +kernel, by decide +kernel⟩
abbrev N_Atlas_log : List Str := ["self", "name"]
theorem sc_Atlas_log : FnScope N_Atlas_log ["self", "name"] (defScope s_Atlas_log) := ⟨rfl, rfl, rfl, by decide +kernel, rfl, by decide +kernel, by decide +kernel⟩
abbrev N_Desk_init : List Str := ["self"]
theorem sc_Desk_init : FnScope N_Desk_init ["self"] (defScope s_Desk_init) := ⟨rfl, rfl, rfl, by decide +kernel, rfl, by decide +kernel, by decide +kernel⟩
abbrev N_Desk_atlas : List Str := ["self"]
theorem sc_Desk_atlas : FnScope N_Desk_atlas ["self"] (defScope s_Desk_atlas) := ⟨rfl, rfl, rfl, by decide +kernel, rfl, by decide +kernel, by decide +kernel⟩
abbrev N_Desk_say : List Str := ["self", "line", "refusal", "missing"]
theorem sc_Desk_say : FnScope N_Desk_say ["self", "line"] (defScope s_Desk_say) := ⟨rfl, rfl, rfl, by decide +kernel, rfl, by decide +kernel, by decide +kernel⟩
abbrev N_BadText_init : List Str := ["self", "row"]
theorem sc_BadText_init : FnScope N_BadText_init ["self", "row"] (defScope s_BadText_init) := ⟨rfl, rfl, rfl, by decide +kernel, rfl, by decide +kernel, by decide +kernel⟩
abbrev N_NoEntry_init : List Str := ["self", "many"]
theorem sc_NoEntry_init : FnScope N_NoEntry_init ["self", "many"] (defScope s_NoEntry_init) := ⟨rfl, rfl, rfl, by decide +kernel, rfl, by decide +kernel, by decide +kernel⟩
structure Tx (w : World) (K : PySem.W.Frag) (mg : Str → Option Value) (base : Heap) where
  a_Log : Addr
  Q_Log : Cls K a_Log
  na_Log_clock : NoAttr K a_Log "clock"
  na_Log_high : NoAttr K a_Log "high"
  na_Log_wide : NoAttr K a_Log "wide"
  na_Log_kept : NoAttr K a_Log "kept"
  na_Log_next_number : NoAttr K a_Log "next_number"
  a_Atlas : Addr
  Q_Atlas : Cls K a_Atlas
  na_Atlas_logs : NoAttr K a_Atlas "logs"
  na_Atlas_past : NoAttr K a_Atlas "past"
  na_Atlas_ahead : NoAttr K a_Atlas "ahead"
  a_Desk : Addr
  Q_Desk : Cls K a_Desk
  na_Desk_held : NoAttr K a_Desk "held"
  a_is_clock : Addr
  d_is_clock : FuncData
  F_is_clock : Fun K "is_clock" "is_clock" s_is_clock a_is_clock d_is_clock
  g_is_clock : mg "is_clock" = some (.ref a_is_clock)
  b_is_clock : Binds K d_is_clock ["clock"] []
  a_need_clock : Addr
  d_need_clock : FuncData
  F_need_clock : Fun K "need_clock" "need_clock" s_need_clock a_need_clock d_need_clock
  g_need_clock : mg "need_clock" = some (.ref a_need_clock)
  b_need_clock : Binds K d_need_clock ["clock"] []
  a_is_what : Addr
  d_is_what : FuncData
  F_is_what : Fun K "is_what" "is_what" s_is_what a_is_what d_is_what
  g_is_what : mg "is_what" = some (.ref a_is_what)
  b_is_what : Binds K d_is_what ["clock", "one"] []
  a_is_row : Addr
  d_is_row : FuncData
  F_is_row : Fun K "is_row" "is_row" s_is_row a_is_row d_is_row
  g_is_row : mg "is_row" = some (.ref a_is_row)
  b_is_row : Binds K d_is_row ["clock", "row", "wide"] []
  a_is_chart : Addr
  d_is_chart : FuncData
  F_is_chart : Fun K "is_chart" "is_chart" s_is_chart a_is_chart d_is_chart
  g_is_chart : mg "is_chart" = some (.ref a_is_chart)
  b_is_chart : Binds K d_is_chart ["chart"] []
  a_need_chart : Addr
  d_need_chart : FuncData
  F_need_chart : Fun K "need_chart" "need_chart" s_need_chart a_need_chart d_need_chart
  g_need_chart : mg "need_chart" = some (.ref a_need_chart)
  b_need_chart : Binds K d_need_chart ["chart"] []
  a_size : Addr
  d_size : FuncData
  F_size : Fun K "size" "size" s_size a_size d_size
  g_size : mg "size" = some (.ref a_size)
  b_size : Binds K d_size ["chart"] []
  a_need_within : Addr
  d_need_within : FuncData
  F_need_within : Fun K "need_within" "need_within" s_need_within a_need_within d_need_within
  g_need_within : mg "need_within" = some (.ref a_need_within)
  b_need_within : Binds K d_need_within ["chart", "top", "left", "high", "wide"] []
  a_need_fit : Addr
  d_need_fit : FuncData
  F_need_fit : Fun K "need_fit" "need_fit" s_need_fit a_need_fit d_need_fit
  g_need_fit : mg "need_fit" = some (.ref a_need_fit)
  b_need_fit : Binds K d_need_fit ["chart", "patch", "top", "left"] []
  a_is_name : Addr
  d_is_name : FuncData
  F_is_name : Fun K "is_name" "is_name" s_is_name a_is_name d_is_name
  g_is_name : mg "is_name" = some (.ref a_is_name)
  b_is_name : Binds K d_is_name ["word"] []
  a_read_number : Addr
  d_read_number : FuncData
  F_read_number : Fun K "read_number" "read_number" s_read_number a_read_number d_read_number
  g_read_number : mg "read_number" = some (.ref a_read_number)
  b_read_number : Binds K d_read_number ["word"] []
  a_read_what : Addr
  d_read_what : FuncData
  F_read_what : Fun K "read_what" "read_what" s_read_what a_read_what d_read_what
  g_read_what : mg "read_what" = some (.ref a_read_what)
  b_read_what : Binds K d_read_what ["word"] []
  a_read_thing : Addr
  d_read_thing : FuncData
  F_read_thing : Fun K "read_thing" "read_thing" s_read_thing a_read_thing d_read_thing
  g_read_thing : mg "read_thing" = some (.ref a_read_thing)
  b_read_thing : Binds K d_read_thing ["kind", "word"] []
  a_read_things : Addr
  d_read_things : FuncData
  F_read_things : Fun K "read_things" "read_things" s_read_things a_read_things d_read_things
  g_read_things : mg "read_things" = some (.ref a_read_things)
  b_read_things : Binds K d_read_things ["kinds", "words"] []
  a_need_day : Addr
  d_need_day : FuncData
  F_need_day : Fun K "need_day" "need_day" s_need_day a_need_day d_need_day
  g_need_day : mg "need_day" = some (.ref a_need_day)
  b_need_day : Binds K d_need_day ["day"] []
  a_need_what : Addr
  d_need_what : FuncData
  F_need_what : Fun K "need_what" "need_what" s_need_what a_need_what d_need_what
  g_need_what : mg "need_what" = some (.ref a_need_what)
  b_need_what : Binds K d_need_what ["clock", "one"] []
  a_log_of : Addr
  d_log_of : FuncData
  F_log_of : Fun K "log_of" "log_of" s_log_of a_log_of d_log_of
  g_log_of : mg "log_of" = some (.ref a_log_of)
  b_log_of : Binds K d_log_of ["logs", "name"] []
  a_begin_chart : Addr
  d_begin_chart : FuncData
  F_begin_chart : Fun K "begin_chart" "begin_chart" s_begin_chart a_begin_chart d_begin_chart
  g_begin_chart : mg "begin_chart" = some (.ref a_begin_chart)
  b_begin_chart : Binds K d_begin_chart ["logs", "things"] []
  a_tell_square : Addr
  d_tell_square : FuncData
  F_tell_square : Fun K "tell_square" "tell_square" s_tell_square a_tell_square d_tell_square
  g_tell_square : mg "tell_square" = some (.ref a_tell_square)
  b_tell_square : Binds K d_tell_square ["logs", "things"] []
  a_right_entry : Addr
  d_right_entry : FuncData
  F_right_entry : Fun K "right_entry" "right_entry" s_right_entry a_right_entry d_right_entry
  g_right_entry : mg "right_entry" = some (.ref a_right_entry)
  b_right_entry : Binds K d_right_entry ["logs", "things"] []
  a_strike_entry : Addr
  d_strike_entry : FuncData
  F_strike_entry : Fun K "strike_entry" "strike_entry" s_strike_entry a_strike_entry d_strike_entry
  g_strike_entry : mg "strike_entry" = some (.ref a_strike_entry)
  b_strike_entry : Binds K d_strike_entry ["logs", "things"] []
  a_drop_chart : Addr
  d_drop_chart : FuncData
  F_drop_chart : Fun K "drop_chart" "drop_chart" s_drop_chart a_drop_chart d_drop_chart
  g_drop_chart : mg "drop_chart" = some (.ref a_drop_chart)
  b_drop_chart : Binds K d_drop_chart ["logs", "things"] []
  a_lay_chart : Addr
  d_lay_chart : FuncData
  F_lay_chart : Fun K "lay_chart" "lay_chart" s_lay_chart a_lay_chart d_lay_chart
  g_lay_chart : mg "lay_chart" = some (.ref a_lay_chart)
  b_lay_chart : Binds K d_lay_chart ["logs", "things"] []
  a_need_deed : Addr
  d_need_deed : FuncData
  F_need_deed : Fun K "need_deed" "need_deed" s_need_deed a_need_deed d_need_deed
  g_need_deed : mg "need_deed" = some (.ref a_need_deed)
  b_need_deed : Binds K d_need_deed ["deed"] []
  a_read_deed : Addr
  d_read_deed : FuncData
  F_read_deed : Fun K "read_deed" "read_deed" s_read_deed a_read_deed d_read_deed
  g_read_deed : mg "read_deed" = some (.ref a_read_deed)
  b_read_deed : Binds K d_read_deed ["text"] []
  a_answer_deed : Addr
  d_answer_deed : FuncData
  F_answer_deed : Fun K "answer_deed" "answer_deed" s_answer_deed a_answer_deed d_answer_deed
  g_answer_deed : mg "answer_deed" = some (.ref a_answer_deed)
  b_answer_deed : Binds K d_answer_deed ["atlas", "line"] []
  a_answer : Addr
  d_answer : FuncData
  F_answer : Fun K "answer" "answer" s_answer a_answer d_answer
  g_answer : mg "answer" = some (.ref a_answer)
  b_answer : Binds K d_answer ["atlas", "line"] []
  a_law_box : Addr
  d_law_box : FuncData
  F_law_box : Fun K "_law_box" "_law_box" s_law_box a_law_box d_law_box
  g_law_box : mg "_law_box" = some (.ref a_law_box)
  b_law_box : Binds K d_law_box ["_law_script"] []
  a_law_mixed : Addr
  d_law_mixed : FuncData
  F_law_mixed : Fun K "_law_mixed" "_law_mixed" s_law_mixed a_law_mixed d_law_mixed
  g_law_mixed : mg "_law_mixed" = some (.ref a_law_mixed)
  b_law_mixed : Binds K d_law_mixed ["_law_number", "_law_turn"] []
  a_law_take : Addr
  d_law_take : FuncData
  F_law_take : Fun K "_law_take" "_law_take" s_law_take a_law_take d_law_take
  g_law_take : mg "_law_take" = some (.ref a_law_take)
  b_law_take : Binds K d_law_take ["_law_box_here", "_law_many"] []
  a_law_clock : Addr
  d_law_clock : FuncData
  F_law_clock : Fun K "_law_clock" "_law_clock" s_law_clock a_law_clock d_law_clock
  g_law_clock : mg "_law_clock" = some (.ref a_law_clock)
  b_law_clock : Binds K d_law_clock ["_law_box_here"] []
  a_law : Addr
  d_law : FuncData
  F_law : Fun K "law" "law" s_law a_law d_law
  g_law : mg "law" = some (.ref a_law)
  b_law : Binds K d_law ["_law_script"] []
  a_Log_init : Addr
  d_Log_init : FuncData
  F_Log_init : Fun K "__init__" "Log.__init__" s_Log_init a_Log_init d_Log_init
  m_Log_init : Meth K a_Log "__init__" a_Log_init
  M_Log : Mk K a_Log a_Log_init
  b_Log_init : Binds K d_Log_init ["self", "clock", "high", "wide"] []
  a_Log_len : Addr
  d_Log_len : FuncData
  F_Log_len : Fun K "__len__" "Log.__len__" s_Log_len a_Log_len d_Log_len
  m_Log_len : Meth K a_Log "__len__" a_Log_len
  b_Log_len : Binds K d_Log_len ["self"] []
  a_Log_need_entry : Addr
  d_Log_need_entry : FuncData
  F_Log_need_entry : Fun K "need_entry" "Log.need_entry" s_Log_need_entry a_Log_need_entry d_Log_need_entry
  m_Log_need_entry : Meth K a_Log "need_entry" a_Log_need_entry
  b_Log_need_entry : Binds K d_Log_need_entry ["self", "number"] []
  a_Log_add : Addr
  d_Log_add : FuncData
  F_Log_add : FunD K "add" "Log.add" (defArgs s_Log_add) (defBody s_Log_add) (defScope s_Log_add) [.int (0)] [] a_Log_add d_Log_add
  m_Log_add : Meth K a_Log "add" a_Log_add
  b_Log_add : Binds K d_Log_add ["self", "row", "column", "one", "day"] []
  a_Log_right : Addr
  d_Log_right : FuncData
  F_Log_right : Fun K "right" "Log.right" s_Log_right a_Log_right d_Log_right
  m_Log_right : Meth K a_Log "right" a_Log_right
  b_Log_right : Binds K d_Log_right ["self", "number", "one"] []
  a_Log_strike : Addr
  d_Log_strike : FuncData
  F_Log_strike : Fun K "strike" "Log.strike" s_Log_strike a_Log_strike d_Log_strike
  m_Log_strike : Meth K a_Log "strike" a_Log_strike
  b_Log_strike : Binds K d_Log_strike ["self", "number"] []
  a_Log_entries : Addr
  d_Log_entries : FuncData
  c_Log_entries : Addr
  P_Log_entries : Addr
  F_Log_entries : FunC K "entries" "Log.entries" s_Log_entries a_Log_entries d_Log_entries c_Log_entries
  TB_Log_entries : LamX.TabB base mg c_Log_entries P_Log_entries
  m_Log_entries : Meth K a_Log "entries" a_Log_entries
  b_Log_entries : Binds K d_Log_entries ["self"] []
  a_Log_chart : Addr
  d_Log_chart : FuncData
  F_Log_chart : FunD K "chart" "Log.chart" (defArgs s_Log_chart) (defBody s_Log_chart) (defScope s_Log_chart) [.int (999)] [] a_Log_chart d_Log_chart
  m_Log_chart : Meth K a_Log "chart" a_Log_chart
  b_Log_chart : Binds K d_Log_chart ["self", "day"] []
  a_Log_twin : Addr
  d_Log_twin : FuncData
  F_Log_twin : Fun K "twin" "Log.twin" s_Log_twin a_Log_twin d_Log_twin
  m_Log_twin : Meth K a_Log "twin" a_Log_twin
  b_Log_twin : Binds K d_Log_twin ["self"] []
  a_Atlas_init : Addr
  d_Atlas_init : FuncData
  F_Atlas_init : Fun K "__init__" "Atlas.__init__" s_Atlas_init a_Atlas_init d_Atlas_init
  m_Atlas_init : Meth K a_Atlas "__init__" a_Atlas_init
  M_Atlas : Mk K a_Atlas a_Atlas_init
  b_Atlas_init : Binds K d_Atlas_init ["self"] []
  a_Atlas_do : Addr
  d_Atlas_do : FuncData
  F_Atlas_do : Fun K "do" "Atlas.do" s_Atlas_do a_Atlas_do d_Atlas_do
  m_Atlas_do : Meth K a_Atlas "do" a_Atlas_do
  b_Atlas_do : Binds K d_Atlas_do ["self", "deed"] []
  a_Atlas_twin : Addr
  d_Atlas_twin : FuncData
  F_Atlas_twin : Fun K "twin" "Atlas.twin" s_Atlas_twin a_Atlas_twin d_Atlas_twin
  m_Atlas_twin : Meth K a_Atlas "twin" a_Atlas_twin
  b_Atlas_twin : Binds K d_Atlas_twin ["self"] []
  a_Atlas_log : Addr
  d_Atlas_log : FuncData
  F_Atlas_log : Fun K "log" "Atlas.log" s_Atlas_log a_Atlas_log d_Atlas_log
  m_Atlas_log : Meth K a_Atlas "log" a_Atlas_log
  b_Atlas_log : Binds K d_Atlas_log ["self", "name"] []
  a_Desk_init : Addr
  d_Desk_init : FuncData
  F_Desk_init : Fun K "__init__" "Desk.__init__" s_Desk_init a_Desk_init d_Desk_init
  m_Desk_init : Meth K a_Desk "__init__" a_Desk_init
  M_Desk : Mk K a_Desk a_Desk_init
  b_Desk_init : Binds K d_Desk_init ["self"] []
  a_Desk_atlas : Addr
  d_Desk_atlas : FuncData
  F_Desk_atlas : Fun K "atlas" "Desk.atlas" s_Desk_atlas a_Desk_atlas d_Desk_atlas
  m_Desk_atlas : Meth K a_Desk "atlas" a_Desk_atlas
  b_Desk_atlas : Binds K d_Desk_atlas ["self"] []
  a_Desk_say : Addr
  d_Desk_say : FuncData
  F_Desk_say : Fun K "say" "Desk.say" s_Desk_say a_Desk_say d_Desk_say
  m_Desk_say : Meth K a_Desk "say" a_Desk_say
  b_Desk_say : Binds K d_Desk_say ["self", "line"] []
  t_LEAST_HOURS : Tok
  c_LEAST_HOURS : mg "LEAST_HOURS" = some (.int (3) t_LEAST_HOURS)
  t_MOST_HOURS : Tok
  c_MOST_HOURS : mg "MOST_HOURS" = some (.int (15) t_MOST_HOURS)
  t_MOST_SQUARES : Tok
  c_MOST_SQUARES : mg "MOST_SQUARES" = some (.int (9) t_MOST_SQUARES)
  t_LAND : Tok
  c_LAND : mg "LAND" = some (.int (-1) t_LAND)
  t_UNTOLD : Tok
  c_UNTOLD : mg "UNTOLD" = some (.int (-2) t_UNTOLD)
  o_OUTSIDE_eyes : Addr
  c_OUTSIDE_eyes : mg "OUTSIDE_eyes" = some (.ref o_OUTSIDE_eyes)
  s_OUTSIDE_eyes : ∀ H : Hp, SqT K H o_OUTSIDE_eyes [.int (-1), .int (-1)]
  t_OUTSIDE_breaks : Tok
  c_OUTSIDE_breaks : mg "OUTSIDE_breaks" = some (.int (-1) t_OUTSIDE_breaks)
  t_LETTERS : Tok
  c_LETTERS : mg "LETTERS" = some (.str "abcdefghijklmnopqrstuvwxyz" t_LETTERS)
  t_FIGURES : Tok
  c_FIGURES : mg "FIGURES" = some (.str "0123456789" t_FIGURES)
  t_MOST_LETTERS : Tok
  c_MOST_LETTERS : mg "MOST_LETTERS" = some (.int (8) t_MOST_LETTERS)
  t_MOST_FIGURES : Tok
  c_MOST_FIGURES : mg "MOST_FIGURES" = some (.int (6) t_MOST_FIGURES)
  t_LAST_DAY : Tok
  c_LAST_DAY : mg "LAST_DAY" = some (.int (999) t_LAST_DAY)
  t_MOST_ENTRIES : Tok
  c_MOST_ENTRIES : mg "MOST_ENTRIES" = some (.int (200) t_MOST_ENTRIES)
  t_MOST_CHARTS : Tok
  c_MOST_CHARTS : mg "MOST_CHARTS" = some (.int (8) t_MOST_CHARTS)
  t_HOUR_SIGNS : Tok
  c_HOUR_SIGNS : mg "HOUR_SIGNS" = some (.str "0123456789abcde" t_HOUR_SIGNS)
  t_LAND_SIGN : Tok
  c_LAND_SIGN : mg "LAND_SIGN" = some (.str "#" t_LAND_SIGN)
  t_UNTOLD_SIGN : Tok
  c_UNTOLD_SIGN : mg "UNTOLD_SIGN" = some (.str "." t_UNTOLD_SIGN)
  t_TITLE : Tok
  c_TITLE : mg "TITLE" = some (.str "atlas" t_TITLE)
  o_DEEDS : Addr
  c_DEEDS : mg "DEEDS" = some (.ref o_DEEDS)
  o_DEEDS_0 : Addr
  s_DEEDS_0 : ∀ H : Hp, SqT K H o_DEEDS_0 [.str "name", .str "number", .str "number", .str "number"]
  o_DEEDS_1 : Addr
  s_DEEDS_1 : ∀ H : Hp, SqT K H o_DEEDS_1 [.str "name", .str "number", .str "number", .str "what", .str "number"]
  o_DEEDS_2 : Addr
  s_DEEDS_2 : ∀ H : Hp, SqT K H o_DEEDS_2 [.str "name", .str "number", .str "what"]
  o_DEEDS_3 : Addr
  s_DEEDS_3 : ∀ H : Hp, SqT K H o_DEEDS_3 [.str "name", .str "number"]
  o_DEEDS_4 : Addr
  s_DEEDS_4 : ∀ H : Hp, SqT K H o_DEEDS_4 [.str "name"]
  o_DEEDS_5 : Addr
  s_DEEDS_5 : ∀ H : Hp, SqT K H o_DEEDS_5 [.str "name", .str "name", .str "number", .str "number", .str "number"]
  k_DEEDS : DicK K w o_DEEDS [("begin", .ref o_DEEDS_0), ("tell", .ref o_DEEDS_1), ("right", .ref o_DEEDS_2), ("strike", .ref o_DEEDS_3), ("drop", .ref o_DEEDS_4), ("lay", .ref o_DEEDS_5)]
  o_ACTIONS : Addr
  c_ACTIONS : mg "ACTIONS" = some (.ref o_ACTIONS)
  k_ACTIONS : DicK K w o_ACTIONS [("begin", .ref a_begin_chart), ("tell", .ref a_tell_square), ("right", .ref a_right_entry), ("strike", .ref a_strike_entry), ("drop", .ref a_drop_chart), ("lay", .ref a_lay_chart)]
  o_LINES : Addr
  c_LINES : mg "LINES" = some (.ref o_LINES)
  o_LINES_0 : Addr
  s_LINES_0 : ∀ H : Hp, SqT K H o_LINES_0 []
  o_LINES_1 : Addr
  s_LINES_1 : ∀ H : Hp, SqT K H o_LINES_1 []
  o_LINES_2 : Addr
  s_LINES_2 : ∀ H : Hp, SqT K H o_LINES_2 []
  o_LINES_3 : Addr
  s_LINES_3 : ∀ H : Hp, SqT K H o_LINES_3 []
  o_LINES_4 : Addr
  s_LINES_4 : ∀ H : Hp, SqT K H o_LINES_4 [.str "name"]
  o_LINES_5 : Addr
  s_LINES_5 : ∀ H : Hp, SqT K H o_LINES_5 [.str "name", .str "number"]
  o_LINES_6 : Addr
  s_LINES_6 : ∀ H : Hp, SqT K H o_LINES_6 [.str "name", .str "number"]
  o_LINES_7 : Addr
  s_LINES_7 : ∀ H : Hp, SqT K H o_LINES_7 [.str "name", .str "number"]
  o_LINES_8 : Addr
  s_LINES_8 : ∀ H : Hp, SqT K H o_LINES_8 [.str "name", .str "number"]
  o_LINES_9 : Addr
  s_LINES_9 : ∀ H : Hp, SqT K H o_LINES_9 [.str "name", .str "number"]
  o_LINES_10 : Addr
  s_LINES_10 : ∀ H : Hp, SqT K H o_LINES_10 [.str "name", .str "number"]
  o_LINES_11 : Addr
  s_LINES_11 : ∀ H : Hp, SqT K H o_LINES_11 [.str "name", .str "number", .str "number", .str "number"]
  k_LINES : DicK K w o_LINES [("undo", .ref o_LINES_0), ("redo", .ref o_LINES_1), ("names", .ref o_LINES_2), ("page", .ref o_LINES_3), ("log", .ref o_LINES_4), ("chart", .ref o_LINES_5), ("knots", .ref o_LINES_6), ("whole", .ref o_LINES_7), ("ages", .ref o_LINES_8), ("weight", .ref o_LINES_9), ("bar", .ref o_LINES_10), ("may", .ref o_LINES_11)]
  n_all : mg "all" = none
  n_dict : mg "dict" = none
  n_enumerate : mg "enumerate" = none
  n_int : mg "int" = none
  n_len : mg "len" = none
  n_list : mg "list" = none
  n_range : mg "range" = none
  n_sorted : mg "sorted" = none
  n_str : mg "str" = none
  n_tuple : mg "tuple" = none
  n_zip : mg "zip" = none
  a_TideError : Addr
  a_BadClock : Addr
  a_BadHour : Addr
  a_BadChart : Addr
  a_BadSquare : Addr
  a_NoFill : Addr
  a_Unlike : Addr
  a_BadName : Addr
  a_Taken : Addr
  a_Full : Addr
  a_NoChart : Addr
  a_BadDay : Addr
  a_BadDeed : Addr
  a_NothingLeft : Addr
  a_Knotted : Addr
  a_BadText : Addr
  a_NoEntry : Addr
  x_TideError : ExB K mg "TideError" a_TideError
  x_BadClock : ExB K mg "BadClock" a_BadClock
  x_BadHour : ExB K mg "BadHour" a_BadHour
  x_BadChart : ExB K mg "BadChart" a_BadChart
  x_BadSquare : ExB K mg "BadSquare" a_BadSquare
  x_NoFill : ExB K mg "NoFill" a_NoFill
  x_Unlike : ExB K mg "Unlike" a_Unlike
  x_BadName : ExB K mg "BadName" a_BadName
  x_Taken : ExB K mg "Taken" a_Taken
  x_Full : ExB K mg "Full" a_Full
  x_NoChart : ExB K mg "NoChart" a_NoChart
  x_BadDay : ExB K mg "BadDay" a_BadDay
  x_BadDeed : ExB K mg "BadDeed" a_BadDeed
  x_NothingLeft : ExB K mg "NothingLeft" a_NothingLeft
  x_Knotted : ExB K mg "Knotted" a_Knotted
  x_BadText : ExB K mg "BadText" a_BadText
  x_NoEntry : ExB K mg "NoEntry" a_NoEntry
  x_Log : ExB K mg "Log" a_Log
  x_Atlas : ExB K mg "Atlas" a_Atlas
  x_Desk : ExB K mg "Desk" a_Desk
  X_BadClock : Exn K mg "BadClock" a_BadClock
  m_BadClock : PySem.W.exmOne K (.ref a_BadClock) (.ref a_TideError) = some true
  mm_BadClock : PySem.W.exmOne K (.ref a_BadClock) (.ref a_BadClock) = some true
  X_BadHour : Exn K mg "BadHour" a_BadHour
  m_BadHour : PySem.W.exmOne K (.ref a_BadHour) (.ref a_TideError) = some true
  mm_BadHour : PySem.W.exmOne K (.ref a_BadHour) (.ref a_BadHour) = some true
  X_BadChart : Exn K mg "BadChart" a_BadChart
  m_BadChart : PySem.W.exmOne K (.ref a_BadChart) (.ref a_TideError) = some true
  X_BadSquare : Exn K mg "BadSquare" a_BadSquare
  m_BadSquare : PySem.W.exmOne K (.ref a_BadSquare) (.ref a_TideError) = some true
  mm_BadSquare : PySem.W.exmOne K (.ref a_BadSquare) (.ref a_BadSquare) = some true
  X_Unlike : Exn K mg "Unlike" a_Unlike
  m_Unlike : PySem.W.exmOne K (.ref a_Unlike) (.ref a_TideError) = some true
  mm_Unlike : PySem.W.exmOne K (.ref a_Unlike) (.ref a_Unlike) = some true
  X_BadName : Exn K mg "BadName" a_BadName
  m_BadName : PySem.W.exmOne K (.ref a_BadName) (.ref a_TideError) = some true
  X_Taken : Exn K mg "Taken" a_Taken
  m_Taken : PySem.W.exmOne K (.ref a_Taken) (.ref a_TideError) = some true
  mm_Taken : PySem.W.exmOne K (.ref a_Taken) (.ref a_Taken) = some true
  X_Full : Exn K mg "Full" a_Full
  m_Full : PySem.W.exmOne K (.ref a_Full) (.ref a_TideError) = some true
  mm_Full : PySem.W.exmOne K (.ref a_Full) (.ref a_Full) = some true
  X_NoChart : Exn K mg "NoChart" a_NoChart
  m_NoChart : PySem.W.exmOne K (.ref a_NoChart) (.ref a_TideError) = some true
  mm_NoChart : PySem.W.exmOne K (.ref a_NoChart) (.ref a_NoChart) = some true
  X_BadDay : Exn K mg "BadDay" a_BadDay
  m_BadDay : PySem.W.exmOne K (.ref a_BadDay) (.ref a_TideError) = some true
  mm_BadDay : PySem.W.exmOne K (.ref a_BadDay) (.ref a_BadDay) = some true
  X_BadDeed : Exn K mg "BadDeed" a_BadDeed
  m_BadDeed : PySem.W.exmOne K (.ref a_BadDeed) (.ref a_TideError) = some true
  m_BadText : PySem.W.exmOne K (.ref a_BadText) (.ref a_TideError) = some true
  a_BadText_init : Addr
  d_BadText_init : FuncData
  F_BadText_init : Fun K "__init__" "BadText.__init__" s_BadText_init a_BadText_init d_BadText_init
  b_BadText_init : Binds K d_BadText_init ["self", "row"] []
  O_BadText : OexC K a_BadText
  f_BadText : XfC K a_BadText
  i_BadText : PySem.W.findIn K (.ref a_BadText) "__init__" = some (some (.ref a_BadText_init))
  it_BadText : PySem.W.typeIn K (.ref a_BadText_init) = some (.type "function")
  no_BadText : PySem.W.findIn K (.ref a_BadText) "row" = some none
  mm_BadText : PySem.W.exmOne K (.ref a_BadText) (.ref a_BadText) = some true
  B_BadText : BaseI K a_TideError
  a_NoEntry_init : Addr
  d_NoEntry_init : FuncData
  F_NoEntry_init : Fun K "__init__" "NoEntry.__init__" s_NoEntry_init a_NoEntry_init d_NoEntry_init
  b_NoEntry_init : Binds K d_NoEntry_init ["self", "many"] []
  O_NoEntry : OexK K a_NoEntry
  f_NoEntry : XfC K a_NoEntry
  i_NoEntry : PySem.W.findIn K (.ref a_NoEntry) "__init__" = some (some (.ref a_NoEntry_init))
  it_NoEntry : PySem.W.typeIn K (.ref a_NoEntry_init) = some (.type "function")
  no_NoEntry : PySem.W.findIn K (.ref a_NoEntry) "many" = some none
  mm_NoEntry : PySem.W.exmOne K (.ref a_NoEntry) (.ref a_NoEntry) = some true
  bi_NoEntry : PySem.W.findCls K (.type "LookupError") (.type "type") "__init__" = some (.val (.builtin "LookupError.__init__"))
  nl_NoEntry : mg "LookupError" = none
  kl_NoEntry : PySem.W.kitOne K (.ref a_NoEntry) (.type "LookupError") = some true
  kv_NoEntry : PySem.W.kitOne K (.ref a_NoEntry) (.type "ValueError") = some false
  nm_BadClock_NoEntry : PySem.W.exmOne K (.ref a_BadClock) (.ref a_NoEntry) = some false
  nm_BadHour_NoEntry : PySem.W.exmOne K (.ref a_BadHour) (.ref a_NoEntry) = some false
  nm_BadChart_NoEntry : PySem.W.exmOne K (.ref a_BadChart) (.ref a_NoEntry) = some false
  nm_BadSquare_NoEntry : PySem.W.exmOne K (.ref a_BadSquare) (.ref a_NoEntry) = some false
  nm_Unlike_NoEntry : PySem.W.exmOne K (.ref a_Unlike) (.ref a_NoEntry) = some false
  nm_BadName_NoEntry : PySem.W.exmOne K (.ref a_BadName) (.ref a_NoEntry) = some false
  nm_Taken_NoEntry : PySem.W.exmOne K (.ref a_Taken) (.ref a_NoEntry) = some false
  nm_Full_NoEntry : PySem.W.exmOne K (.ref a_Full) (.ref a_NoEntry) = some false
  nm_NoChart_NoEntry : PySem.W.exmOne K (.ref a_NoChart) (.ref a_NoEntry) = some false
  nm_BadDay_NoEntry : PySem.W.exmOne K (.ref a_BadDay) (.ref a_NoEntry) = some false
  nm_BadDeed_NoEntry : PySem.W.exmOne K (.ref a_BadDeed) (.ref a_NoEntry) = some false
  nm_BadText_NoEntry : PySem.W.exmOne K (.ref a_BadText) (.ref a_NoEntry) = some false
  xm : ([a_BadClock, a_BadHour, a_BadChart, a_BadSquare, a_Unlike, a_BadName, a_Taken, a_Full, a_NoChart, a_BadDay, a_BadDeed, a_BadText, a_NoEntry] : List Addr).map (fun x => ([a_BadDay, a_BadHour, a_BadSquare, a_Full, a_Taken, a_Unlike, a_NoChart, a_BadClock, a_NothingLeft, a_Knotted, a_NoEntry, a_BadText] : List Addr).map fun y => PySem.W.exmOne K (.ref x) (.ref y)) = [[some false, some false, some false, some false, some false, some false, some false, some true, some false, some false, some false, some false], [some false, some true, some false, some false, some false, some false, some false, some false, some false, some false, some false, some false], [some false, some false, some false, some false, some false, some false, some false, some false, some false, some false, some false, some false], [some false, some false, some true, some false, some false, some false, some false, some false, some false, some false, some false, some false], [some false, some false, some false, some false, some false, some true, some false, some false, some false, some false, some false, some false], [some false, some false, some false, some false, some false, some false, some false, some false, some false, some false, some false, some false], [some false, some false, some false, some false, some true, some false, some false, some false, some false, some false, some false, some false], [some false, some false, some false, some true, some false, some false, some false, some false, some false, some false, some false, some false], [some false, some false, some false, some false, some false, some false, some true, some false, some false, some false, some false, some false], [some true, some false, some false, some false, some false, some false, some false, some false, some false, some false, some false, some false], [some false, some false, some false, some false, some false, some false, some false, some false, some false, some false, some false, some false], [some false, some false, some false, some false, some false, some false, some false, some false, some false, some false, some false, some true], [some false, some false, some false, some false, some false, some false, some false, some false, some false, some false, some true, some false]]
  tnd : ([P_Log_entries] : List Addr).Nodup
def tabsOf {w : World} {K : PySem.W.Frag} {mg : Str → Option Value} {base : Heap} (T : Tx w K mg base) : List (Addr × Str) := [(T.P_Log_entries, lamQ "Log.entries")]
theorem tabs_nd {w : World} {K : PySem.W.Frag} {mg : Str → Option Value} {base : Heap} (T : Tx w K mg base) : ((tabsOf T).map (·.1)).Nodup := T.tnd
section
variable {P : Program} {w : World} {K : PySem.W.Frag} {mg : Str → Option Value} {base : Heap}
def isClock (c : Int) : Bool := decide (3 ≤ c) && decide (c ≤ 15) && decide (c % 2 = 1)
theorem isClock_iff {c : Int} : isClock c = true ↔ 3 ≤ c ∧ c ≤ 15 ∧ c % 2 = 1 := by
  unfold isClock
  simp only [Bool.and_eq_true, decide_eq_true_eq, and_assoc]
def R_is_clock (vs : List V) (v : V) : Prop := ∃ c, vs = [.int c] ∧ v = .bl (isClock c)
theorem ok_is_clock (T : Tx w K mg base) : FnOk P w K mg base CX0 1 T.a_is_clock T.d_is_clock ["clock"] (spS R_is_clock) := by
  refine T.F_is_clock.ok sc_is_clock (fun vs H Q E h => ?_) (fun cdv A outer s H vs Q E hr h => ?_)
  · obtain ⟨v, ⟨c, rfl, rfl⟩, q⟩ := h
    rfl
  · obtain ⟨v, ⟨c, rfl, rfl⟩, q⟩ := h
    refine ⟨_, (pss_cons (ps_ret (pe_and (pe_chain op_le op_le (pe_glob (v := .int (3)) rfl T.c_LEAST_HOURS ⟨_, rfl⟩) (pv 0) (pe_glob (v := .int (15)) rfl T.c_MOST_HOURS ⟨_, rfl⟩)) (pe_one (pe_cmpR op_eq (pe_op op_mod (pv 0) pe_int) pe_int (nomark _)))))
      pss_nil), Go.go ?_⟩
    apply go_retE (k := q)
    · walk_at "ev"
    · unfold isClock
      simp only [V.int.injEq]
theorem ev_is_clock {σ : L2.St} {H : Hp} {E : XK} {tr : TA} {c : Int} (h : EvA tr σ H [.int c]) : Ev (tCall (spS R_is_clock) [] E tr) σ H (.bl (isClock c)) := ev_callS h ⟨c, rfl, rfl⟩
local macro_rules | `(tactic| walk_at "ev") => `(tactic| ((with_reducible apply ev_is_clock); walk_at "ea"))
def RX_clock (ds : List PyData) (d : PyData) : Prop := ∃ c, ds = [.int c] ∧ d = .none ∧ isClock c = true
def XX_clock (T : Tx w K mg base) (ds : List PyData) (C : Addr) : Prop := ∃ c, ds = [.int c] ∧ C = T.a_BadClock ∧ isClock c = false
theorem okX_need_clock (T : Tx w K mg base) : FnOk P w K mg base (L2N.CX P w) 2 T.a_need_clock T.d_need_clock ["clock"] (spX K RX_clock (XX_clock T)) := by
  refine okN T.F_need_clock sc_need_clock (fun vs H Q E h => ?_) (fun cdv A outer s H vs Q E hr h => ?_)
  · obtain ⟨Hd, ds, e, hd, ⟨d, ⟨c, rfl, _⟩, _⟩ | ⟨C, ⟨c, rfl, _⟩, _⟩⟩ := h <;> exact dpa_len hd
  · obtain ⟨Hd, ds, e, hd, h⟩ := h
    rcases h with ⟨d, ⟨c, rfl, rfl, hc⟩, q⟩ | ⟨C, ⟨c, rfl, rfl, hc⟩, q⟩
    · cases hd with
      | cons h1 h2 =>
        cases h2
        cases h1
        refine ⟨_, (pss_cons (ps_if (pt_not (pt_val (pe_call (ok_is_clock (P := P) (w := w) T) (hr.mono (by omega)) (by rfl) T.g_is_clock T.F_is_clock.kp T.b_is_clock .nil pass0 (pa_cons (pv 0) pa_nil)))) (pss_cons (L2N.ps_raise rfl (L2N.takes_of rfl rfl rfl rfl) (T.X_BadClock.pmk (by rfl)))
      pss_nil) pss_nil)
      pss_nil), Go.go ?_⟩
        apply go_when
        · walk_at "et"
        · intro z
          rw [hc] at z
          cases z
        · intro _
          exact go_next fun H2 e2 => q .non H2 Hd (Gr.ext e e2) .non
    · cases hd with
      | cons h1 h2 =>
        cases h2
        cases h1
        refine ⟨_, (pss_cons (ps_if (pt_not (pt_val (pe_call (ok_is_clock (P := P) (w := w) T) (hr.mono (by omega)) (by rfl) T.g_is_clock T.F_is_clock.kp T.b_is_clock .nil pass0 (pa_cons (pv 0) pa_nil)))) (pss_cons (L2N.ps_raise rfl (L2N.takes_of rfl rfl rfl rfl) (T.X_BadClock.pmk (by rfl)))
      pss_nil) pss_nil)
      pss_nil), Go.go ?_⟩
        apply go_when
        · walk_at "et"
        · intro _
          exact go_raise q
        · intro z
          rw [hc] at z
          cases z
def spMixed : Sp := fun vs H Q _ => ∃ a b, vs = [.int a, .int b] ∧ ∀ r H2, Ex H H2 → Q (.int r) H2
theorem ok_law_mixed (T : Tx w K mg base) : FnOk P w K mg base CX0 1 T.a_law_mixed T.d_law_mixed ["_law_number", "_law_turn"] spMixed := by
  refine T.F_law_mixed.ok sc_law_mixed (fun vs H Q E h => ?_) (fun cdv A outer s H vs Q E hr h => ?_)
  · obtain ⟨a, b, rfl, q⟩ := h
    rfl
  · obtain ⟨a, b, rfl, q⟩ := h
    refine ⟨_, (pss_cons (ps_set (i := 2) sc_law_mixed.nd rfl (.inl rfl) (pe_op op_mod (pe_op op_add (pe_op op_add (pe_op op_mul (pv 0) pe_int) (pe_op op_mul (pv 1) pe_int)) pe_int) pe_int))
      (pss_cons (ps_set (i := 3) sc_law_mixed.nd rfl (.inl rfl) (pe_op op_add (pe_op op_mul (pv 1) pe_int) (pe_op op_mod (pe_op op_fdiv (pv 0) pe_int) pe_int)))
      (pss_cons (ps_ret (pe_op op_fdiv (pe_op op_mod (pe_op op_add (pe_op op_mul (pv 2) (pe_op op_add (pe_op op_mod (pv 2) pe_int) pe_int)) (pv 3)) pe_int) pe_int))
      pss_nil))), Go.go ?_⟩
    have h1 : ∀ x y : Int, 0 ≤ x % y + y * 0 ∨ y = 0 := fun x y => by
      by_cases h : y = 0
      · exact .inr h
      · exact .inl (by have := Int.emod_nonneg x h; omega)
    apply go_asg
    · walk_at "ev"
    have h2 : ∀ x : Int, 0 ≤ x % 2147483647 ∧ x % 2147483647 < 2147483647 := fun x => ⟨by omega, by omega⟩
    generalize hz : (a * 7919 + b * 104729 + 17) % 2147483647 = z
    have hz2 := h2 (a * 7919 + b * 104729 + 17)
    rw [hz] at hz2
    apply go_asg
    · walk_at "ev"
    apply go_retV
    · walk_at "ev"
    exact fun H' e => q _ H' e
/-- a call that gives some int -/
theorem ev_mixed {σ : L2.St} {H : Hp} {E : XK} {tr : TA} {a b : Int} (h : EvA tr σ H [.int a, .int b]) {Q : VK} (k : ∀ r H2, Ex H H2 → Q (.int r) H2) : tCall spMixed [] E tr σ H Q :=
  h H (Ex.refl H) _ fun H2 e2 => ⟨a, b, rfl, fun r H3 e3 => k r H3 (e2.trans e3)⟩
def PreTake (ds : List PyData) : Prop := ∃ m : Int, ds = [.int m] ∧ 0 < m ∧ m < 2 ^ 80
def RTake (ds : List PyData) (d : PyData) : Prop := ∃ m r : Int, ds = [.int m] ∧ d = .int r ∧ 0 ≤ r ∧ r < m
theorem ok_law_take (T : Tx w K mg base) : FnOk P w K mg base CX0 2 T.a_law_take T.d_law_take ["_law_box_here", "_law_many"] (spB K PreTake RTake) := by
  refine T.F_law_take.ok sc_law_take (fun vs H Q E h => ?_) (fun cdv A outer s H vs Q E hr h => ?_)
  · obtain ⟨b, ws, Hd, ds, rfl, hb, sx, B, hds, ⟨m, rfl, hm, hm2⟩, q⟩ := h
    cases hds with
    | cons h1 h2 => cases h2; rfl
  · obtain ⟨b, ws, Hd, ds, rfl, hb, sx, B, hds, ⟨m, rfl, hm, hm2⟩, q⟩ := h
    obtain ⟨m', rfl⟩ : ∃ m', ws = [m'] := by
      cases hds with
      | cons h1 h2 => cases h2; exact ⟨_, rfl⟩
    have em : m' = .int m := by
      cases hds with
      | cons h1 h2 => cases h1; rfl
    subst em
    obtain ⟨bb, ca⟩ := b
    obtain ⟨cells, xs, h1, ⟨pos, rest, turn, seed, rfl, hpos⟩, h3, h4⟩ := B
    have nca : ca ≠ bb := by
      intro e
      subst e
      rw [h1] at h3
      have h5 := HO.lst.inj (Option.some.inj h3)
      cases cells with
      | nil => cases h5
      | cons c cs => cases h5
    have fin : ∀ (pos' rest' turn' r : Int) (H2 : Hp), 0 ≤ pos' → 0 ≤ r → r < m → Ex (upd H bb (.lst [.ref ca, .int pos', .int rest', .int turn', .int seed])) H2 → Q (.int r) H2 := fun pos' rest' turn' r H2 hp h0 hr e2 => by
      refine q (.int r) H2 Hd (.int r) ⟨fun a o n h => e2 a o (by rw [upd_ne n]; exact h), Ex.refl _, fun a o h => e2 a o (by rw [upd_ne (ne_of_none h hb)]; exact sx a o h), fun a o _ h => h, ?_⟩ (.int r) ⟨m, r, rfl, rfl, h0, hr⟩
      exact Bx.mono e2 ⟨cells, _, upd_same, ⟨pos', rest', turn', seed, rfl, hp⟩, by rw [upd_ne nca]; exact h3, h4⟩
    have wd : ∀ z : Int, CDivW z m := fun z => wide_div (b := 80) hm (by omega) (by decide) (by decide)
    have mm : ∀ z : Int, 0 ≤ z % m ∧ z % m < m := fun z => ⟨Int.emod_nonneg z (by omega), Int.emod_lt_of_pos z hm⟩
    refine ⟨_, (pss_cons (ps_asg (pe_op op_add (pe_ix (r := rIxL K) ix_list (pv 0) pe_int (fun _ _ => rfl)) pe_int) (pg_sub (pv 0) pe_int set_list))
      (pss_cons (ps_if (pt_cmpR op_gt (pe_ix (r := rIxL K) ix_list (pv 0) pe_int (fun _ _ => rfl)) pe_int (nomark _)) (pss_cons (ps_set (i := 2) sc_law_take.nd rfl (.inl rfl) (pe_ix (r := rIxL K) ix_list (pv 0) pe_int (fun _ _ => rfl)))
      (pss_cons (ps_asg (pe_op op_fdivW (pv 2) (pv 1)) (pg_sub (pv 0) pe_int set_list))
      (pss_cons (ps_ret (pe_op op_mod (pv 2) (pv 1)))
      pss_nil))) pss_nil)
      (pss_cons (ps_if (pt_cmpR op_ge (pe_ix (r := rIxL K) ix_list (pv 0) pe_int (fun _ _ => rfl)) (pe_callB (r := rLenS K) call_lenQ (by rfl) T.n_len PySem.boot_len (pa_cons (pe_ix (r := rIxL K) ix_list (pv 0) pe_int (fun _ _ => rfl)) pa_nil)) (nomark _)) (pss_cons (ps_ret (pe_op op_mod (pe_call (ok_law_mixed (P := P) (w := w) T) (hr.mono (by omega)) (by rfl) T.g_law_mixed T.F_law_mixed.kp T.b_law_mixed .nil pass0 (pa_cons (pe_ix (r := rIxL K) ix_list (pv 0) pe_int (fun _ _ => rfl)) (pa_cons (pe_ix (r := rIxL K) ix_list (pv 0) pe_int (fun _ _ => rfl)) pa_nil))) (pv 1)))
      pss_nil) pss_nil)
      (pss_cons (ps_set (i := 3) sc_law_take.nd rfl (.inl rfl) (pe_ix (r := rIxL K) ix_list (pe_ix (r := rIxL K) ix_list (pv 0) pe_int (fun _ _ => rfl)) (pe_ix (r := rIxL K) ix_list (pv 0) pe_int (fun _ _ => rfl)) (fun _ _ => rfl)))
      (pss_cons (ps_asg (pe_op op_add (pe_ix (r := rIxL K) ix_list (pv 0) pe_int (fun _ _ => rfl)) pe_int) (pg_sub (pv 0) pe_int set_list))
      (pss_cons (ps_if (pt_cmpR op_lt (pv 3) (pe_op op_pow pe_int pe_int) (nomark _)) (pss_cons (ps_ret (pe_op op_mod (pe_call (ok_law_mixed (P := P) (w := w) T) (hr.mono (by omega)) (by rfl) T.g_law_mixed T.F_law_mixed.kp T.b_law_mixed .nil pass0 (pa_cons (pe_op op_add (pv 3) (pe_ix (r := rIxL K) ix_list (pv 0) pe_int (fun _ _ => rfl))) (pa_cons (pe_ix (r := rIxL K) ix_list (pv 0) pe_int (fun _ _ => rfl)) pa_nil))) (pv 1)))
      pss_nil) pss_nil)
      (pss_cons (ps_asg (pe_op op_fdivW (pv 3) (pv 1)) (pg_sub (pv 0) pe_int set_list))
      (pss_cons (ps_ret (pe_op op_mod (pv 3) (pv 1)))
      pss_nil)))))))), Go.go ?_⟩
    refine go_setL (j := 3) h1 (v := .int (turn + 1)) ?_ (ev_var rfl) ev_c (by simp) ?_
    · walk_at "ev"
    show Go _ _ _ (upd H bb (.lst [.ref ca, .int pos, .int rest, .int (turn + 1), .int seed]))
    apply go_when
    · walk_at "et"
    · intro _
      apply go_asg
      · walk_at "ev"
      refine go_setL (j := 2) upd_same (v := .int (rest / m)) ?_ (ev_var rfl) ev_c (by simp) ?_
      · refine ev_op (ev_var rfl) (ev_var rfl) (rv_I (wd _))
      apply go_retV
      · walk_at "ev"
      rw [upd_upd]
      exact fun H' e => fin pos (rest / m) (turn + 1) _ H' hpos (mm _).1 (mm _).2 e
    intro _
    have h3' : upd H bb (.lst [.ref ca, .int pos, .int rest, .int (turn + 1), .int seed]) ca = some (.lst (cells.map V.int)) := by
      rw [upd_ne nca]
      exact h3
    apply go_when
    · apply et_test
      apply ev_op
      · walk_at "ev"
      · refine ev_len (K := K) (p := ca) ?_ (sq_of h3')
        walk_at "ev"
      · exact rv_I0
    · intro _ H1 e1
      refine ev_mixed (a := seed) (b := turn + 1) (EvA.mono e1 (by walk_at "ea")) fun r H2 e2 => ?_
      exact ⟨_, rfl, _, _, rfl, rfl, hm, fin pos rest (turn + 1) _ H2 hpos (mm _).1 (mm _).2 (e1.trans e2)⟩
    intro hlt
    have hlt2 : pos < (cells.length : Int) := by
      have h5 := of_decide_eq_false hlt
      rw [List.length_map] at h5
      omega
    have hget : atI (cells.map V.int) pos = some (.int (cells[pos.toNat]'(by omega))) := by
      refine at_of (j := pos.toNat) (by omega) ?_
      rw [List.getElem?_map, List.getElem?_eq_getElem (by omega)]
      rfl
    generalize hcell : cells[pos.toNat]'(by omega) = cell at hget
    apply go_asg (v := .int cell)
    · refine ev_op (x := .ref ca) (y := .int pos) (by walk_at "ev") (by walk_at "ev") (rv_ixL (K := K) (sq_of h3') hget)
    refine go_setL (j := 1) upd_same (v := .int (pos + 1)) ?_ (ev_var rfl) ev_c (by simp) ?_
    · walk_at "ev"
    rw [upd_upd]
    show Go _ _ _ (upd H bb (.lst [.ref ca, .int (pos + 1), .int rest, .int (turn + 1), .int seed]))
    apply go_when
    · walk_at "et"
    · intro _ H1 e1
      refine ev_mixed (a := cell + seed) (b := turn + 1) (EvA.mono e1 (by walk_at "ea")) fun r H2 e2 => ?_
      exact ⟨_, rfl, _, _, rfl, rfl, hm, fin (pos + 1) rest (turn + 1) _ H2 (by omega) (mm _).1 (mm _).2 (e1.trans e2)⟩
    intro _
    refine go_setL (j := 2) upd_same (v := .int (cell / m)) ?_ (ev_var rfl) ev_c (by simp) ?_
    · refine ev_op (ev_var rfl) (ev_var rfl) (rv_I (wd _))
    apply go_retV
    · walk_at "ev"
    rw [upd_upd]
    exact fun H' e => fin (pos + 1) (cell / m) (turn + 1) _ H' (by omega) (mm _).1 (mm _).2 e
theorem eb_take {σ : L2.St} {Hd : Hp} {E : XK} {b : Bid} {ta tb : TE} {m : Int} (ha : Ev ta σ Hd (.ref b.b)) (hm : Ev tb σ Hd (.int m)) (h0 : 0 < m) (h1 : m < 2 ^ 80) : EvB K b (tCall (spB K PreTake RTake) [] E (tCons ta (tCons tb tNil))) σ Hd (isI fun r => 0 ≤ r ∧ r < m) := by
  refine EvB.imp (eb_call ha (eba_cons (eb_ev hm) eba_nil) ?_) ?_
  · rintro ds ⟨d, es, rfl, ⟨i, rfl, rfl⟩, rfl⟩
    exact ⟨_, rfl, h0, h1⟩
  · rintro d ⟨ds, ⟨d', es, rfl, ⟨i, rfl, rfl⟩, rfl⟩, m', r, e1, rfl, h2, h3⟩
    cases e1
    exact ⟨r, rfl, h2, h3⟩
def RClock (ds : List PyData) (d : PyData) : Prop := ∃ c : Int, d = .int c ∧ isClock c = true
theorem ok_law_clock (T : Tx w K mg base) : FnOk P w K mg base CX0 3 T.a_law_clock T.d_law_clock ["_law_box_here"] (spB K (fun ds => ds = []) RClock) := by
  refine T.F_law_clock.ok sc_law_clock (fun vs H Q E h => ?_) (fun cdv A outer s H vs Q E hr h => ?_)
  · obtain ⟨b, ws, Hd, ds, rfl, hb, sx, B, hds, rfl, q⟩ := h
    cases hds
    rfl
  · obtain ⟨b, ws, Hd, ds, rfl, hb, sx, B, hds, rfl, q⟩ := h
    cases hds
    refine ⟨_, (pss_cons (ps_ret (pe_op op_add pe_int (pe_op op_mul pe_int (pe_call (ok_law_take (P := P) (w := w) T) (hr.mono (by omega)) (by rfl) T.g_law_take T.F_law_take.kp T.b_law_take .nil pass0 (pa_cons (pv 0) (pa_cons pe_int pa_nil))))))
      pss_nil), Go.go ?_⟩
    refine go_retB hb sx B (EvB.imp (eb_opI0 (K := K) (fun _ _ => rfl) (eb_ev ev_c) (eb_opI (fun _ _ => rfl) (eb_ev ev_c) (eb_take (ev_var rfl) ev_c (by decide) (by decide)) (fun i j hi hj => Or.inl (by omega)))) (P' := RClock []) ?_) q
    rintro d ⟨i, rfl, i1, j1, rfl, ⟨i2, j2, rfl, ⟨h1, h2⟩, rfl⟩, rfl⟩
    exact ⟨_, rfl, isClock_iff.mpr ⟨by omega, by omega, by omega⟩⟩
theorem eb_clock {σ : L2.St} {Hd : Hp} {E : XK} {b : Bid} {ta : TE} (ha : Ev ta σ Hd (.ref b.b)) : EvB K b (tCall (spB K (fun ds => ds = []) RClock) [] E (tCons ta tNil)) σ Hd (isI fun c => isClock c = true) := by
  refine EvB.imp (eb_call ha eba_nil fun ds e => e) ?_
  rintro d ⟨ds, rfl, c, rfl, h⟩
  exact ⟨c, rfl, h⟩
/-- the box is made -/
def spBox (K : PySem.W.Frag) : Sp := fun vs H Q _ => ∃ (a : Addr) (ns : List Int), vs = [.ref a] ∧ SqL K H a (ns.map V.int) ∧ ns.length ≤ 63 ∧ ∀ (b : Bid) H2, H b.b = none → H b.ca = none → Ex H H2 → Bx H2 b → Q (.ref b.b) H2
theorem cut_ints {ns : List Int} : cutV (ns.map V.int) none (some 63) = ((ns.take 63).map V.int) := by
  unfold cutV
  rw [HT.sIx_none, show HT.sIx (ns.map V.int).length (ns.map V.int).length (some 63) = min 63 (ns.map V.int).length from HT.sIx_nat _ _ 63]
  rw [List.drop_zero, Nat.sub_zero, List.length_map, List.map_take]
  by_cases h : 63 ≤ ns.length
  · rw [Nat.min_eq_left h]
  · rw [Nat.min_eq_right (by omega), List.take_of_length_le (by rw [List.length_map]; omega), List.take_of_length_le (by rw [List.length_map]; omega)]
theorem ok_law_box (T : Tx w K mg base) : FnOk P w K mg base CX0 1 T.a_law_box T.d_law_box ["_law_script"] (spBox K) := by
  refine T.F_law_box.ok sc_law_box (fun vs H Q E h => ?_) (fun cdv A outer s H vs Q E hr h => ?_)
  · obtain ⟨a, ns, rfl, _⟩ := h
    rfl
  · obtain ⟨a, ns, rfl, hL, hn, q⟩ := h
    refine ⟨_, (pss_cons (ps_set (i := 1) sc_law_box.nd rfl (.inl rfl) pe_int)
      (pss_cons (ps_for PassesOwn.never rfl (pi_list (pe_slice (r := rSlL K) sl_list (pv 0) po_none (po_some pe_int))) (pg_name (i := 2) sc_law_box.nd rfl (.inl rfl)) (pss_cons (ps_set (i := 1) sc_law_box.nd rfl (.inl rfl) (pe_op op_mod (pe_op op_add (pe_op op_add (pe_op op_mul (pv 1) pe_int) (pe_op op_mod (pv 2) pe_int)) pe_int) pe_int))
      pss_nil))
      (pss_cons (ps_ret (pe_lst (pa_cons (pe_callTy (r := rListS K) call_listQ (by rfl) T.n_list (by decide +kernel) (pa_cons (pe_slice (r := rSlL K) sl_list (pv 0) po_none (po_some pe_int)) pa_nil)) (pa_cons pe_int (pa_cons pe_int (pa_cons pe_int (pa_cons (pv 1) pa_nil)))))))
      pss_nil))), ?_⟩
    refine q_asg ev_c fun H1 e1 => ?_
    refine q_forNLn (K := K) (xs := (ns.take 63).map V.int) ?_ (fun p i σ H' => Ex H H' ∧ H p = none ∧ H' p = some (.lst ((ns.take 63).map V.int)) ∧ ∃ (z : Int) (x : Option V), σ = [some (.ref a), some (.int z), x]) (fun p H2 hp e2 h2 => ⟨e1.trans e2, fresh_back e1 hp, h2, 7, none, rfl⟩) (fun p i σ' H' _ h => sq_of h.2.2.1) ?_ ?_
    · rw [← cut_ints]
      exact el_sl (ev_var rfl) eo_none (eo_some ev_c) (ex_l e1 hL)
    · rintro p i x σ' H' hx ⟨e2, hp, h2, z, x0, rfl⟩
      rw [List.getElem?_map] at hx
      cases hh : (ns.take 63)[i]? with
      | none => rw [hh] at hx; cases hx
      | some y =>
        rw [hh] at hx
        cases hx
        refine Go.go ?_
        apply go_asg
        · walk_at "ev"
        exact go_next fun H3 e3 => ⟨e2.trans e3, hp, e3 _ _ h2, _, _, rfl⟩
    · rintro p σ' H' ⟨e2, hp, h2, z, x0, rfl⟩
      have hE : Ex H H' := e2
      refine el_sl (K := K) (ev_var rfl) eo_none (eo_some ev_c) (ex_l hE hL) H' (Ex.refl _) _ fun c H4 hc e4 h4 => ?_
      rw [cut_ints] at h4
      refine ⟨c, _, rfl, Or.inl (sq_of h4), fun l hl => ?_⟩
      refine ⟨.int z, rfl, by show 5 ≤ sizeLine; decide, fun b hb => ?_⟩
      have nlb : l ≠ b := fun e => by
        subst e
        rw [upd_same] at hb
        cases hb
      have hb4 : H4 b = none := by
        rw [upd_ne nlb.symm] at hb
        exact hb
      refine q ⟨b, l⟩ _ (fresh_back (hE.trans e4) hb4) (fresh_back (hE.trans e4) hl) (((hE.trans e4).trans (Ex.new hl)).trans (Ex.new hb)) ⟨ns.take 63, _, upd_same, ⟨0, 0, 0, z, rfl, by decide⟩, ?_, ?_⟩
      · rw [upd_ne nlb, upd_same]
      · rw [List.length_take]
        omega
theorem go_box {σ : L2.St} {H : Hp} {E : XK} {ta : TE} {tz : TS} {D : Ends} {i : Nat} {a : Addr} {ns : List Int} (hL : SqL K H a (ns.map V.int)) (hn : ns.length ≤ 63) (h : Ev ta σ H (.ref a)) (k : ∀ (b : Bid) H', H b.b = none → H b.ca = none → Ex H H' → Bx H' b → Go tz D (σ.set i (some (.ref b.b))) H') : Go (tSeq (tAsg (tCall (spBox K) [] E (tCons ta tNil)) (gName i)) tz) D σ H := fun H1 e1 =>
  h H1 e1 _ fun H2 e2 => ⟨a, ns, rfl, ex_l (e1.trans e2) hL, hn, fun b H3 hb hc e3 B => k b H3 (fresh_back (e1.trans e2) hb) (fresh_back (e1.trans e2) hc) ((e1.trans e2).trans e3) B H3 (Ex.refl _)⟩
def dRow (r : List Int) : PyData := .tuple (r.map .int)
def dChart (c : Int) (rows : List (List Int)) : PyData := .tuple [.int c, .tuple (rows.map dRow)]
def isRow (c : Int) (w : Int) (r : List Int) : Bool := decide ((r.length : Int) = w) && r.all fun x => decide (-2 ≤ x) && decide (x < c)
def isChart (c : Int) (rows : List (List Int)) : Bool := isClock c && (decide (1 ≤ (rows.length : Int)) && decide ((rows.length : Int) ≤ 9)) && (decide (1 ≤ (((rows.headD []).length : Nat) : Int)) && decide (((rows.headD []).length : Int) ≤ 9) && rows.all (isRow c (rows.headD []).length))
theorem range_all (ns : List Int) (f : Int → Bool) : (List.range ns.length).map (fun i => PyData.bool (f ((ns[i]?).getD 0))) = (ns.map f).map PyData.bool := by
  apply List.ext_getElem
  · simp
  · intro i h1 h2
    simp at h1 h2
    simp [h1]
theorem range_rows (ns : List (List Int)) (f : List Int → Bool) : (List.range ns.length).map (fun i => PyData.bool (f ((ns[i]?).getD []))) = (ns.map f).map PyData.bool := by
  apply List.ext_getElem
  · simp
  · intro i h1 h2
    simp at h1 h2
    simp [h1]
def R_is_what (vs : List V) (v : V) : Prop := ∃ c x, vs = [.int c, .int x] ∧ v = .bl (decide (-2 ≤ x) && decide (x < c))
theorem ok_is_what (T : Tx w K mg base) : FnOk P w K mg base CX0 1 T.a_is_what T.d_is_what ["clock", "one"] (spS R_is_what) := by
  refine T.F_is_what.ok sc_is_what (fun vs H Q E h => ?_) (fun cdv A outer s H vs Q E hr h => ?_)
  · obtain ⟨v, ⟨c, x, rfl, rfl⟩, q⟩ := h
    rfl
  · obtain ⟨v, ⟨c, x, rfl, rfl⟩, q⟩ := h
    refine ⟨_, (pss_cons (ps_ret (pe_chain op_le op_lt (pe_glob (v := .int (-2)) rfl T.c_UNTOLD ⟨_, rfl⟩) (pv 1) (pv 0)))
      pss_nil), Go.go ?_⟩
    apply go_retE (k := q)
    · walk_at "ev"
    · rfl
theorem ev_is_what {σ : L2.St} {H : Hp} {E : XK} {tr : TA} {c x : Int} (h : EvA tr σ H [.int c, .int x]) : Ev (tCall (spS R_is_what) [] E tr) σ H (.bl (decide (-2 ≤ x) && decide (x < c))) := ev_callS h ⟨c, x, rfl, rfl⟩
local macro_rules | `(tactic| walk_at "ev") => `(tactic| ((with_reducible apply ev_is_what); walk_at "ea"))
def spIsRow (K : PySem.W.Frag) : Sp := fun vs H Q _ => ∃ (c w : Int) (v : V) (r : List Int), vs = [.int c, v, .int w] ∧ Dp K H v (dRow r) ∧ r.length ≤ 40000 ∧ ∀ H2, Ex H H2 → Q (.bl (isRow c w r)) H2
theorem ok_is_row (T : Tx w K mg base) : FnOk P w K mg base CX0 2 T.a_is_row T.d_is_row ["clock", "row", "wide"] (spIsRow K) := by
  refine T.F_is_row.ok sc_is_row (fun vs H Q E h => ?_) (fun cdv A outer s H vs Q E hr h => ?_)
  · obtain ⟨c, w, v, r, rfl, _⟩ := h
    rfl
  · obtain ⟨c, wd, v, r, rfl, hv, hl, q⟩ := h
    refine ⟨_, (pss_cons (ps_ret (pe_and (pe_cmpR op_eq (pe_callB (r := rLenS K) call_lenQ (by rfl) T.n_len PySem.boot_len (pa_cons (pv 1) pa_nil)) (pv 2) (nomark _)) (pe_one (pe_callB (r := rAll K) (cr_all rfl) (by rfl) T.n_all (by decide +kernel) (pa_cons (pe_lc (own := [("one", 3)]) (g := (gName 3)) (by rfl) sc_is_row.nd (pi_tup (pv 1)) (blkOk_by (own := [("one", 3)]) (N := N_is_row) (sc := defScope s_is_row) (by decide +kernel)) (fun _ _ _ _ _ => (pg_name (i := 3) sc_is_row.nd rfl (.inl rfl) (hf := .inr rfl))) (fun _ _ _ _ _ => pts_nil) (fun _ _ _ _ _ => (pe_call (ok_is_what (P := P) (w := w) T) (hr.mono (by omega)) (by rfl) T.g_is_what T.F_is_what.kp T.b_is_what .nil pass0 (pa_cons (pv 0) (pa_cons (pv 3) pa_nil))))) pa_nil)))))
      pss_nil), Go.go ?_⟩
    apply go_retE (k := q)
    · refine ev_andB (ev_op (ev_lenT (K := K) (ds := r.map .int) (ed_var rfl hv)) (by walk_at "ev") (by walk_at "rv")) (ev_all (K := K) (bs := r.map fun x => decide (-2 ≤ x) && decide (x < c)) ?_)
      rw [← range_all, ← List.length_map (f := PyData.int) (as := r), ← givenD_all]
      refine ed_new (en_lc (ei_tup (K := K) (ds := r.map .int) (ed_var rfl hv)) (by rw [List.length_map]; exact hl) (fun _ => true) _ ?_)
      rintro i σ2 Hn hi e ⟨v, d, h1, h2, rfl⟩
      rw [List.length_map] at hi
      rw [List.getElem?_map, List.getElem?_eq_getElem hi] at h1
      cases h1
      cases h2
      refine ⟨rfl, et_yes, fun _ => ed_bool (ev_is (by walk_at "ev") ?_)⟩
      rw [List.getElem?_eq_getElem hi]
      rfl
    · unfold isRow
      simp [List.all_map, V.int.injEq]
theorem ev_is_row {σ : L2.St} {Hd : Hp} {E : XK} {tr : TA} {c w : Int} {r : List Int} (h : EvDA K tr σ Hd [.int c, dRow r, .int w]) (hl : r.length ≤ 40000) : Ev (tCall (spIsRow K) [] E tr) σ Hd (.bl (isRow c w r)) := fun H s Q q =>
  h H s _ fun vs H2 Hn g hd => by
    cases hd with
    | cons h1 h2 =>
      cases h2 with
      | cons h2 h3 =>
        cases h3 with
        | cons h3 h4 =>
          cases h4
          cases h1
          cases h3
          exact ⟨c, w, _, r, rfl, dp_mono g.sub _ h2, hl, fun H3 e3 => q H3 (g.ex.trans e3)⟩
def spIsChart (K : PySem.W.Frag) : Sp := fun vs H Q _ => ∃ (c : Int) (v : V) (rows : List (List Int)), vs = [v] ∧ Dp K H v (dChart c rows) ∧ rows.length ≤ 40000 ∧ (∀ r ∈ rows, r.length ≤ 40000) ∧ ∀ H2, Ex H H2 → Q (.bl (isChart c rows)) H2
theorem ok_is_chart (T : Tx w K mg base) : FnOk P w K mg base CX0 3 T.a_is_chart T.d_is_chart ["chart"] (spIsChart K) := by
  refine T.F_is_chart.ok sc_is_chart (fun vs H Q E h => ?_) (fun cdv A outer s H vs Q E hr h => ?_)
  · obtain ⟨c, v, rows, rfl, _⟩ := h
    rfl
  · obtain ⟨c, v, rows, rfl, hv, hl, hls, q⟩ := h
    refine ⟨_, (pss_cons (ps_asg (pv 0) (pg_tup rfl (pgs_cons (pg_name (i := 1) sc_is_chart.nd rfl (.inr rfl)) (pgs_cons (pg_name (i := 2) sc_is_chart.nd rfl (.inl rfl)) pgs_nil))))
      (pss_cons (ps_if (PW.pt (pw_or (pt_not (pt_val (pe_call (ok_is_clock (P := P) (w := w) T) (hr.mono (by omega)) (by rfl) T.g_is_clock T.F_is_clock.kp T.b_is_clock .nil pass0 (pa_cons (pv 1) pa_nil)))) (pw_or1 (pt_not (pt_chain op_le op_le pe_int (pe_callB (r := rLenS K) call_lenQ (by rfl) T.n_len PySem.boot_len (pa_cons (pv 2) pa_nil)) (pe_glob (v := .int (9)) rfl T.c_MOST_SQUARES ⟨_, rfl⟩)))))) (pss_cons (ps_ret pe_bl)
      pss_nil) pss_nil)
      (pss_cons (ps_set (i := 3) sc_is_chart.nd rfl (.inr rfl) (pe_callB (r := rLenS K) call_lenQ (by rfl) T.n_len PySem.boot_len (pa_cons (pe_ix (r := rIxT K) ix_tup (pv 2) pe_int (fun _ _ => rfl)) pa_nil)))
      (pss_cons (ps_ret (pe_and (pe_chain op_le op_le pe_int (pv 3) (pe_glob (v := .int (9)) rfl T.c_MOST_SQUARES ⟨_, rfl⟩)) (pe_one (pe_callB (r := rAll K) (cr_all rfl) (by rfl) T.n_all (by decide +kernel) (pa_cons (pe_lc (own := [("row", 4)]) (g := (gName 4)) (by rfl) sc_is_chart.nd (pi_tup (pv 2)) (blkOk_by (own := [("row", 4)]) (N := N_is_chart) (sc := defScope s_is_chart) (by decide +kernel)) (fun _ _ _ _ _ => (pg_name (i := 4) sc_is_chart.nd rfl (.inl rfl) (hf := .inr rfl))) (fun _ _ _ _ _ => pts_nil) (fun _ _ _ _ _ => (pe_call (ok_is_row (P := P) (w := w) T) (hr.mono (by omega)) (by rfl) T.g_is_row T.F_is_row.kp T.b_is_row .nil pass0 (pa_cons (pv 1) (pa_cons (pv 4) (pa_cons (pv 3) pa_nil)))))) pa_nil)))))
      pss_nil)))), Go.go ?_⟩
    refine go_two (Ex.refl H) (ed_var rfl hv) ?_
    intro v1 v2 H' Hn g d1 d2
    cases d1
    have hl1 : Ev (tCB (rLenS K) (tCons (tVar 2) tNil)) (((L2.start N_is_chart [v]).set 1 (some (.int c))).set 2 (some v2)) Hn (.int (rows.length : Int)) := ev_is (ev_lenT (K := K) (ds := rows.map dRow) (ed_var rfl d2)) (by rw [List.length_map])
    apply go_when (b := !isClock c || !(decide (1 ≤ (rows.length : Int)) && decide ((rows.length : Int) ≤ 9)))
    · refine EvT.mono g.sub (et_orB (by walk_at "et") (et_not (et_test (ev_chainB ev_c hl1 rv_I0 (by walk_at "ev") rv_I0))))
    · intro e
      refine Go.mono (Ex.refl _) ?_
      apply go_retE (k := fun H2 e2 => q H2 (g.ex.trans e2))
      · walk_at "ev"
      · unfold isChart
        cases h1 : isClock c
        · rfl
        · rw [h1] at e
          cases h2 : (decide (1 ≤ (rows.length : Int)) && decide ((rows.length : Int) ≤ 9))
          · rfl
          · rw [h2] at e
            cases e
    · intro e
      have h1 : isClock c = true := by
        cases h1 : isClock c
        · rw [h1] at e; cases e
        · rfl
      have h2 : (decide (1 ≤ (rows.length : Int)) && decide ((rows.length : Int) ≤ 9)) = true := by
        cases h2 : (decide (1 ≤ (rows.length : Int)) && decide ((rows.length : Int) ≤ 9))
        · rw [h1, h2] at e; cases e
        · rfl
      obtain ⟨r0, rest, rfl⟩ : ∃ r0 rest, rows = r0 :: rest := by
        cases rows with
        | nil => simp at h2
        | cons r0 rest => exact ⟨r0, rest, rfl⟩
      apply go_asg (v := .int (r0.length : Int))
      · refine Ev.mono g.sub (ev_is (ev_lenT (K := K) (ds := r0.map .int) (ed_ixT (ed_var rfl d2) ev_c (d := dRow r0) (atI_nat (j := 0) rfl))) (by rw [List.length_map]))
      apply go_retE (k := fun H2 e2 => q H2 (g.ex.trans e2))
      · refine Ev.mono g.sub (ev_andB (by walk_at "ev") (ev_all (K := K) (bs := (r0 :: rest).map (isRow c r0.length)) ?_))
        rw [← range_rows, ← List.length_map (f := dRow) (as := r0 :: rest), ← givenD_all]
        refine ed_new (en_lc (ei_tup (K := K) (ds := (r0 :: rest).map dRow) (ed_var rfl d2)) (by rw [List.length_map]; exact hl) (fun _ => true) _ ?_)
        rintro i σ2 Hm hi e ⟨v, d, h3, h4, rfl⟩
        rw [List.length_map] at hi
        rw [List.getElem?_map, List.getElem?_eq_getElem hi] at h3
        cases h3
        refine ⟨rfl, et_yes, fun _ => ed_bool (ev_is (ev_is_row (c := c) (w := r0.length) (r := (r0 :: rest)[i]) (eda_cons (ed_int (ev_var rfl)) (eda_cons (ed_var rfl h4) (eda_cons (ed_int (ev_var rfl)) eda_nil))) (hls _ (List.getElem_mem hi))) ?_)⟩
        rw [List.getElem?_eq_getElem hi]
        rfl
      · unfold isChart
        rw [h1, h2, List.all_map]
        rfl
theorem ev_is_chart {σ : L2.St} {Hd : Hp} {E : XK} {tr : TA} {c : Int} {rows : List (List Int)} (h : EvDA K tr σ Hd [dChart c rows]) (hl : rows.length ≤ 40000) (hls : ∀ r ∈ rows, r.length ≤ 40000) : Ev (tCall (spIsChart K) [] E tr) σ Hd (.bl (isChart c rows)) := fun H s Q q =>
  h H s _ fun vs H2 Hn g hd => by
    cases hd with
    | cons h1 h2 =>
      cases h2
      exact ⟨c, _, rows, rfl, dp_mono g.sub _ h1, hl, hls, fun H3 e3 => q H3 (g.ex.trans e3)⟩
def rowOf (w : Nat) (g : Nat → Int) : List Int := (List.range w).map g
def tab (h w : Nat) (f : Nat → Nat → Int) : List (List Int) := (List.range h).map fun i => rowOf w (f i)
theorem row_len {w : Nat} {g : Nat → Int} : (rowOf w g).length = w := by unfold rowOf; rw [List.length_map, List.length_range]
theorem tab_len {h w : Nat} {f : Nat → Nat → Int} : (tab h w f).length = h := by unfold tab; rw [List.length_map, List.length_range]
theorem row_get {w j : Nat} {g : Nat → Int} (hj : j < w) : (rowOf w g)[j]? = some (g j) := by
  unfold rowOf
  rw [List.getElem?_map, List.getElem?_range hj]
  rfl
theorem tab_get {h w i : Nat} {f : Nat → Nat → Int} (hi : i < h) : (tab h w f)[i]? = some (rowOf w (f i)) := by
  unfold tab
  rw [List.getElem?_map, List.getElem?_range hi]
  rfl
theorem row_congr {w : Nat} {f g : Nat → Int} (e : ∀ j, j < w → f j = g j) : rowOf w f = rowOf w g := by
  unfold rowOf
  exact List.map_congr_left fun j hj => e j (List.mem_range.mp hj)
theorem row_given {w : Nat} {g : Nat → Int} : (rowOf w g).map PyData.int = givenD w (fun _ => true) (fun j => .int (g j)) := by
  rw [givenD_all]
  unfold rowOf
  rw [List.map_map]
  rfl
theorem tab_given {h w : Nat} {f : Nat → Nat → Int} : (tab h w f).map dRow = givenD h (fun _ => true) (fun i => dRow (rowOf w (f i))) := by
  rw [givenD_all]
  unfold tab
  rw [List.map_map]
  rfl
theorem tab_set {h w r : Nat} {f f' : Nat → Nat → Int} {row : List Int} (hr : r < h) (e1 : row = rowOf w (f' r)) (e2 : ∀ i j, i < h → j < w → i ≠ r → f' i j = f i j) : (tab h w f).set r row = tab h w f' := by
  apply List.ext_getElem?
  intro i
  by_cases hi : i < h
  · rw [tab_get hi]
    by_cases e : r = i
    · subst e
      rw [List.getElem?_set_self (by rw [tab_len]; exact hr), e1]
    · rw [List.getElem?_set_ne e, tab_get hi]
      congr 1
      exact row_congr fun j hj => (e2 i j hi hj fun x => e x.symm).symm
  · rw [List.getElem?_eq_none (by rw [List.length_set, tab_len]; omega), List.getElem?_eq_none (by rw [tab_len]; omega)]
theorem rows_back {σ : L2.St} {D : Hp} {tl : TE} {h w : Nat} {F : Nat → Nat → Int} {i0 : Nat} {vs : List Nat} (hd : EvD K tl σ D (.list ((tab h w F).map fun r => .list (r.map .int)))) (h9 : h ≤ 9) (hw : ∀ u, wipe ((wipe σ vs).set i0 (some u)) vs = wipe σ vs) (hj : ∀ u, ((wipe σ vs).set i0 (some u))[i0]? = some (some u)) :
    EvN K (tLc (iList K tl) (gName i0) tYes (tCB (rTupS K) (tCons (tVar i0) tNil)) vs) σ D ((tab h w F).map dRow) := by
  have e : ((tab h w F).map fun r => PyData.list (r.map .int)).length = h := by rw [List.length_map, tab_len]
  have key := en_lc (vs := vs) (tt := tYes) (te := tCB (rTupS K) (tCons (tVar i0) tNil)) (ei_list (K := K) (j := i0) hd) (by rw [e]; omega) (fun _ => true) (fun i => dRow (rowOf w (F i))) ?_
  · rw [e, ← tab_given] at key
    exact key
  · rintro i σ2 Hm hi ek ⟨u, d, h3, h4, rfl⟩
    rw [e] at hi
    rw [List.getElem?_map, tab_get hi] at h3
    cases h3
    exact ⟨hw u, et_yes, fun _ => ed_tupleL (ed_var (hj u) h4)⟩
def withF (r k : Nat) (v : Int) (f : Nat → Nat → Int) : Nat → Nat → Int := fun i j => if i = r ∧ j = k then v else f i j
theorem with_tab {h w r k : Nat} {v : Int} {f : Nat → Nat → Int} (hr : r < h) (hk : k < w) : (tab h w f).set r ((rowOf w (f r)).set k v) = tab h w (withF r k v f) := by
  refine tab_set hr ?_ fun i j _ _ hne => ?_
  · apply List.ext_getElem?
    intro j
    by_cases hj : j < w
    · rw [row_get hj]
      by_cases e : k = j
      · subst e
        rw [List.getElem?_set_self (by rw [row_len]; exact hj)]
        unfold withF
        rw [if_pos ⟨rfl, rfl⟩]
      · rw [List.getElem?_set_ne e, row_get hj]
        unfold withF
        rw [if_neg (fun x => e x.2.symm)]
    · rw [List.getElem?_eq_none (by rw [List.length_set, row_len]; omega), List.getElem?_eq_none (by rw [row_len]; omega)]
  · unfold withF
    rw [if_neg (fun x => hne x.1)]
/-- kinds of refusals -/
inductive Er
  | clock
  | square
  | hour
  | day
  | full
deriving DecidableEq
def Er.cls (T : Tx w K mg base) : Er → Addr
  | .clock => T.a_BadClock
  | .square => T.a_BadSquare
  | .hour => T.a_BadHour
  | .day => T.a_BadDay
  | .full => T.a_Full
def Er.word : Er → Str
  | .clock => "clock"
  | .square => "square"
  | .hour => "hour"
  | .day => "day"
  | .full => "full"
structure LogM where
  clock : Int
  high : Int
  wide : Int
  kept : List (Int × List Int)
  next : Int
def okE4 (c h w : Int) (e : List Int) : Prop := ∃ d r k o, e = [d, r, k, o] ∧ (0 ≤ d ∧ d ≤ 999) ∧ (0 ≤ r ∧ r < h) ∧ (0 ≤ k ∧ k < w) ∧ -2 ≤ o ∧ o < c
structure LogOk (l : LogM) : Prop where
  clk : isClock l.clock = true
  h1 : 1 ≤ l.high
  h9 : l.high ≤ 9
  w1 : 1 ≤ l.wide
  w9 : l.wide ≤ 9
  n1 : 1 ≤ l.next
  num : ∀ e ∈ l.kept, 1 ≤ e.1 ∧ e.1 < l.next
  srt : l.kept.Pairwise fun a b => a.1 < b.1
  ent : ∀ e ∈ l.kept, okE4 l.clock l.high l.wide e.2
  few : l.kept.length ≤ 200
def logF (l : LogM) (d : Addr) : List (Str × V) := [("clock", .int l.clock), ("high", .int l.high), ("wide", .int l.wide), ("kept", .ref d), ("next_number", .int l.next)]
/-- the dict's pairs: numbers, and tuples of ints -/
inductive KvAt (K : PySem.W.Frag) (H : Hp) : List (Key × V) → List (Int × List Int) → Prop
  | nil : KvAt K H [] []
  | cons {t : Addr} {n : Int} {e : List Int} {kvs : List (Key × V)} {es : List (Int × List Int)} (hs : SqT K H t (e.map V.int)) (r : KvAt K H kvs es) : KvAt K H ((.inl n, .ref t) :: kvs) ((n, e) :: es)
structure LogAt (K : PySem.W.Frag) (C : Addr) (Hd H : Hp) (p d : Addr) (l : LogM) : Prop where
  ob : ∃ dx, H p = some (.ins C dx (logF l d))
  kp : ∃ kvs, H d = some (.dK kvs) ∧ KvAt K Hd kvs l.kept
  ok : LogOk l
theorem KvAt.mono {H H2 : Hp} (e : Ex H H2) : ∀ {kvs : List (Key × V)} {es : List (Int × List Int)}, KvAt K H kvs es → KvAt K H2 kvs es
  | _, _, .nil => .nil
  | _, _, .cons hs r => .cons (ex_t e hs) (r.mono e)
theorem KvAt.len {H : Hp} : ∀ {kvs : List (Key × V)} {es : List (Int × List Int)}, KvAt K H kvs es → kvs.length = es.length
  | _, _, .nil => rfl
  | _, _, .cons _ r => by rw [List.length_cons, List.length_cons, r.len]
theorem KvAt.get {H : Hp} : ∀ {kvs : List (Key × V)} {es : List (Int × List Int)} {i : Nat} {k : Key} {v : V}, KvAt K H kvs es → kvs[i]? = some (k, v) → ∃ (n : Int) (e : List Int) (t : Addr), es[i]? = some (n, e) ∧ k = .inl n ∧ v = .ref t ∧ SqT K H t (e.map V.int)
  | _, _, i, _, _, .nil, h => by simp at h
  | _, _, 0, k, v, .cons hs r, h => by
    cases h
    exact ⟨_, _, _, rfl, rfl, rfl, hs⟩
  | _, _, i + 1, k, v, .cons hs r, h => by
    obtain ⟨n, e, t, h1, h2⟩ := r.get (i := i) (by simpa using h)
    exact ⟨n, e, t, by simpa using h1, h2⟩
theorem KvAt.app {H : Hp} {t : Addr} {n : Int} {e : List Int} (hs : SqT K H t (e.map V.int)) : ∀ {kvs : List (Key × V)} {es : List (Int × List Int)}, KvAt K H kvs es → KvAt K H (kvs ++ [(.inl n, .ref t)]) (es ++ [(n, e)])
  | _, _, .nil => .cons hs .nil
  | _, _, .cons h r => .cons h (r.app hs)
theorem KvAt.val {H : Hp} {n : Int} : ∀ {kvs : List (Key × V)} {es : List (Int × List Int)}, KvAt K H kvs es → (valV kvs (.inl n)).isSome = es.any fun e => decide (e.1 = n)
  | _, _, .nil => rfl
  | _, _, .cons (n := m) h r => by
    rw [List.any_cons]
    by_cases e : m = n
    · rw [valV_pos (by rw [e]), decide_eq_true e, Bool.true_or]
      rfl
    · rw [valV_neg (fun z => e (Sum.inl.inj z)), decide_eq_false e, Bool.false_or, r.val]
theorem KvAt.drop {H : Hp} {n : Int} : ∀ {kvs : List (Key × V)} {es : List (Int × List Int)}, KvAt K H kvs es → KvAt K H (dropK kvs (.inl n)) (es.filter fun e => !decide (e.1 = n))
  | _, _, .nil => .nil
  | _, _, .cons (n := m) (e := e0) (kvs := kvs) (es := es) h r => by
    have ih := r.drop (n := n)
    unfold dropK at ih ⊢
    by_cases e : m = n
    · rw [List.filter_cons_of_neg (by simp [e]), List.filter_cons_of_neg (by simp [e])]
      exact ih
    · rw [List.filter_cons_of_pos (by simp [e]), List.filter_cons_of_pos (by simp [e])]
      exact .cons h ih
theorem LogAt.mono {C p d : Addr} {l : LogM} {Hd Hn H H2 : Hp} (dx : Ex Hd Hn) (e : Ex H H2) (L : LogAt K C Hd H p d l) : LogAt K C Hn H2 p d l := by
  obtain ⟨⟨dd, h1⟩, ⟨kvs, h2, h3⟩, ok⟩ := L
  exact ⟨⟨dd, e _ _ h1⟩, ⟨kvs, e _ _ h2, h3.mono dx⟩, ok⟩
/-- a log stays where others change -/
theorem LogAt.step {C p d : Addr} {l : LogM} {Tt : List (Addr × Str)} {M : List Addr} {Hd Hn H H2 : Hp} (L : LogAt K C Hd H p d l) (g : GrW Tt M Hd H Hn H2) (n1 : p ∉ M) (n2 : d ∉ M) : LogAt K C Hn H2 p d l := by
  obtain ⟨⟨dd, h1⟩, ⟨kvs, h2, h3⟩, ok⟩ := L
  exact ⟨⟨dd, g.ex _ _ h1 n1 noTb_ins⟩, ⟨kvs, g.ex _ _ h2 n2 noTb_dK, h3.mono g.dx⟩, ok⟩
theorem LogAt.ne {C p d : Addr} {l : LogM} {Hd H : Hp} (L : LogAt K C Hd H p d l) : p ≠ d := by
  obtain ⟨⟨dx, h1⟩, ⟨kvs, h2, h3⟩, ok⟩ := L
  exact ne_of h1 h2 (by intro z; cases z)
/-- no tables stand at a log's places -/
theorem LogAt.nt {C p d : Addr} {l : LogM} {Hd H : Hp} (L : LogAt K C Hd H p d l) : ∀ a ∈ [p, d], NTb H a := fun a ha => by
  obtain ⟨⟨dx, h1⟩, ⟨kvs, h2, h3⟩, ok⟩ := L
  rcases List.mem_cons.mp ha with rfl | ha
  · exact ntb_ins h1
  · rw [List.mem_singleton.mp ha]
    exact ntb_dK h2
theorem logF_clock (l : LogM) (d : Addr) : (logF l d).lookup ("clock" : Str) = some (.int l.clock) := rfl
theorem logF_high (l : LogM) (d : Addr) : (logF l d).lookup ("high" : Str) = some (.int l.high) := rfl
theorem logF_wide (l : LogM) (d : Addr) : (logF l d).lookup ("wide" : Str) = some (.int l.wide) := rfl
theorem logF_kept (l : LogM) (d : Addr) : (logF l d).lookup ("kept" : Str) = some (.ref d) := rfl
theorem logF_next (l : LogM) (d : Addr) : (logF l d).lookup ("next_number" : Str) = some (.int l.next) := rfl
def newE (c h w : Int) : Option Er := if isClock c = true then (if (1 ≤ h ∧ h ≤ 9) ∧ 1 ≤ w ∧ w ≤ 9 then none else some .square) else some .clock
def addE (l : LogM) (r k o y : Int) : Option Er := if (0 ≤ r ∧ r < l.high) ∧ 0 ≤ k ∧ k < l.wide then (if -2 ≤ o ∧ o < l.clock then (if 0 ≤ y ∧ y ≤ 999 then (if l.kept.length < 200 then none else some .full) else some .day) else some .hour) else some .square
def newL (c h w : Int) : LogM := ⟨c, h, w, [], 1⟩
def addL (l : LogM) (r k o y : Int) : LogM := { l with kept := l.kept ++ [(l.next, [y, r, k, o])], next := l.next + 1 }
def strikeL (l : LogM) (n : Int) : LogM := { l with kept := l.kept.filter fun e => !decide (e.1 = n) }
theorem newL_ok {c h w : Int} (e : newE c h w = none) : LogOk (newL c h w) := by
  unfold newE at e
  split at e
  · rename_i hc
    split at e
    · rename_i h2
      exact ⟨hc, h2.1.1, h2.1.2, h2.2.1, h2.2.2, (show (1 : Int) ≤ 1 by decide), fun e he => (by cases he), .nil, fun e he => (by cases he), Nat.zero_le _⟩
    · cases e
  · cases e
theorem addL_ok {l : LogM} {r k o y : Int} (L : LogOk l) (e : addE l r k o y = none) : LogOk (addL l r k o y) := by
  unfold addE at e
  split at e
  · rename_i h1
    split at e
    · rename_i h2
      split at e
      · rename_i h3
        split at e
        · rename_i h4
          refine ⟨L.clk, L.h1, L.h9, L.w1, L.w9, by have := L.n1; show 1 ≤ l.next + 1; omega, fun e he => ?_, ?_, fun e he => ?_, ?_⟩
          · have n1 := L.n1
            show 1 ≤ e.1 ∧ e.1 < l.next + 1
            rcases List.mem_append.mp he with he | he
            · have := L.num e he
              omega
            · rw [List.mem_singleton.mp he]
              show 1 ≤ l.next ∧ l.next < l.next + 1
              omega
          · refine List.pairwise_append.mpr ⟨L.srt, List.pairwise_singleton _ _, fun a ha b hb => ?_⟩
            rw [List.mem_singleton.mp hb]
            exact (L.num a ha).2
          · rcases List.mem_append.mp he with he | he
            · exact L.ent e he
            · rw [List.mem_singleton.mp he]
              exact ⟨y, r, k, o, rfl, h3, h1.1, h1.2, h2⟩
          · show (l.kept ++ [_]).length ≤ 200
            rw [List.length_append, List.length_singleton]
            omega
        · cases e
      · cases e
    · cases e
  · cases e
theorem strikeL_ok {l : LogM} {n : Int} (L : LogOk l) : LogOk (strikeL l n) := by
  have sub : (strikeL l n).kept.Sublist l.kept := List.filter_sublist
  exact ⟨L.clk, L.h1, L.h9, L.w1, L.w9, L.n1, fun e he => L.num e (sub.subset he), L.srt.sublist sub, fun e he => L.ent e (sub.subset he), Nat.le_trans sub.length_le L.few⟩
theorem next_new {l : LogM} {H : Hp} {kvs : List (Key × V)} (L : LogOk l) (k : KvAt K H kvs l.kept) : valV kvs (.inl l.next) = none := by
  have h := k.val (n := l.next)
  have : (l.kept.any fun e => decide (e.1 = l.next)) = false := by
    rw [List.any_eq_false]
    intro e he
    have := (L.num e he).2
    simp only [decide_eq_true_eq]
    omega
  rw [this] at h
  cases e : valV kvs (.inl l.next) with
  | none => rfl
  | some v =>
    rw [e] at h
    cases h
section
variable {σ : L2.St} {H : Hp} {ta : TE} {p C dx d : Addr} {l : LogM}
theorem ev_clock (ha : Ev ta σ H (.ref p)) (h : H p = some (.ins C dx (logF l d))) (c : Cls K C) (n : NoAttr K C "clock") : Ev (tFld K ta "clock") σ H (.int l.clock) := ev_fld ha h c n (logF_clock l d)
theorem ev_high (ha : Ev ta σ H (.ref p)) (h : H p = some (.ins C dx (logF l d))) (c : Cls K C) (n : NoAttr K C "high") : Ev (tFld K ta "high") σ H (.int l.high) := ev_fld ha h c n (logF_high l d)
theorem ev_wide (ha : Ev ta σ H (.ref p)) (h : H p = some (.ins C dx (logF l d))) (c : Cls K C) (n : NoAttr K C "wide") : Ev (tFld K ta "wide") σ H (.int l.wide) := ev_fld ha h c n (logF_wide l d)
theorem ev_kept (ha : Ev ta σ H (.ref p)) (h : H p = some (.ins C dx (logF l d))) (c : Cls K C) (n : NoAttr K C "kept") : Ev (tFld K ta "kept") σ H (.ref d) := ev_fld ha h c n (logF_kept l d)
theorem ev_next (ha : Ev ta σ H (.ref p)) (h : H p = some (.ins C dx (logF l d))) (c : Cls K C) (n : NoAttr K C "next_number") : Ev (tFld K ta "next_number") σ H (.int l.next) := ev_fld ha h c n (logF_next l d)
end
local macro_rules | `(tactic| walk_at "ev") => `(tactic| first
  | ((with_reducible apply ev_clock) <;> first | exact ev_var rfl | assumption)
  | ((with_reducible apply ev_high) <;> first | exact ev_var rfl | assumption)
  | ((with_reducible apply ev_wide) <;> first | exact ev_var rfl | assumption)
  | ((with_reducible apply ev_kept) <;> first | exact ev_var rfl | assumption)
  | ((with_reducible apply ev_next) <;> first | exact ev_var rfl | assumption))
def RX_day (ds : List PyData) (d : PyData) : Prop := ∃ y : Int, ds = [.int y] ∧ d = .none ∧ (0 ≤ y ∧ y ≤ 999)
def XX_day (T : Tx w K mg base) (ds : List PyData) (C : Addr) : Prop := ∃ y : Int, ds = [.int y] ∧ C = T.a_BadDay ∧ ¬ (0 ≤ y ∧ y ≤ 999)
theorem okX_need_day (T : Tx w K mg base) : FnOk P w K mg base (L2N.CX P w) 1 T.a_need_day T.d_need_day ["day"] (spX K RX_day (XX_day T)) := by
  refine okN T.F_need_day sc_need_day (fun vs H Q E h => ?_) (fun cdv A outer s H vs Q E hr h => ?_)
  · obtain ⟨Hd, ds, e, hd, ⟨d, ⟨c, rfl, _⟩, _⟩ | ⟨C, ⟨c, rfl, _⟩, _⟩⟩ := h <;> exact dpa_len hd
  · obtain ⟨Hd, ds, e, hd, h⟩ := h
    have key : ∃ y : Int, ds = [.int y] ∧ (0 ≤ y ∧ y ≤ 999 → ∀ H2, Ex H H2 → Q .non H2) ∧ (¬ (0 ≤ y ∧ y ≤ 999) → ∀ H2, Ex H H2 → E (.ref T.a_BadDay) none H2) := by
      rcases h with ⟨d, ⟨y, rfl, rfl, hy⟩, q⟩ | ⟨C, ⟨y, rfl, rfl, hy⟩, q⟩
      · exact ⟨y, rfl, fun _ H2 e2 => q .non H2 Hd (Gr.ext e e2) .non, fun z => absurd hy z⟩
      · exact ⟨y, rfl, fun z => absurd z hy, fun _ => q⟩
    obtain ⟨y, rfl, good, bad⟩ := key
    cases hd with
    | cons h1 h2 =>
    cases h2
    cases h1
    refine ⟨_, (pss_cons (ps_if (pt_not (pt_chain op_le op_le pe_int (pv 0) (pe_glob (v := .int (999)) rfl T.c_LAST_DAY ⟨_, rfl⟩))) (pss_cons (L2N.ps_raise rfl (L2N.takes_of rfl rfl rfl rfl) (T.X_BadDay.pmk (by rfl)))
      pss_nil) pss_nil)
      pss_nil), Go.go ?_⟩
    refine go_when (et_not (et_B (ev_chainB ev_c (ev_var rfl) rv_I0 ev_c rv_I0))) (fun z => go_raise (bad ?_)) (fun z => go_next fun H2 e2 => good ?_ H2 e2)
    · rintro ⟨z1, z2⟩
      rw [decide_eq_true z1, decide_eq_true z2] at z
      cases z
    · rw [Bool.not_eq_false', Bool.and_eq_true, decide_eq_true_eq, decide_eq_true_eq] at z
      exact z
def RX_what (ds : List PyData) (d : PyData) : Prop := ∃ c o : Int, ds = [.int c, .int o] ∧ d = .none ∧ (-2 ≤ o ∧ o < c)
def XX_what (T : Tx w K mg base) (ds : List PyData) (C : Addr) : Prop := ∃ c o : Int, ds = [.int c, .int o] ∧ C = T.a_BadHour ∧ ¬ (-2 ≤ o ∧ o < c)
theorem okX_need_what (T : Tx w K mg base) : FnOk P w K mg base (L2N.CX P w) 2 T.a_need_what T.d_need_what ["clock", "one"] (spX K RX_what (XX_what T)) := by
  refine okN T.F_need_what sc_need_what (fun vs H Q E h => ?_) (fun cdv A outer s H vs Q E hr h => ?_)
  · obtain ⟨Hd, ds, e, hd, ⟨d, ⟨c, o, rfl, _⟩, _⟩ | ⟨C, ⟨c, o, rfl, _⟩, _⟩⟩ := h <;> exact dpa_len hd
  · obtain ⟨Hd, ds, e, hd, h⟩ := h
    have key : ∃ c o : Int, ds = [.int c, .int o] ∧ (-2 ≤ o ∧ o < c → ∀ H2, Ex H H2 → Q .non H2) ∧ (¬ (-2 ≤ o ∧ o < c) → ∀ H2, Ex H H2 → E (.ref T.a_BadHour) none H2) := by
      rcases h with ⟨d, ⟨c, o, rfl, rfl, hy⟩, q⟩ | ⟨C, ⟨c, o, rfl, rfl, hy⟩, q⟩
      · exact ⟨c, o, rfl, fun _ H2 e2 => q .non H2 Hd (Gr.ext e e2) .non, fun z => absurd hy z⟩
      · exact ⟨c, o, rfl, fun z => absurd z hy, fun _ => q⟩
    obtain ⟨c, o, rfl, good, bad⟩ := key
    cases hd with
    | cons h1 h2 =>
    cases h2 with
    | cons h2 h3 =>
    cases h3
    cases h1
    cases h2
    refine ⟨_, (pss_cons (ps_if (pt_not (pt_val (pe_call (ok_is_what (P := P) (w := w) T) (hr.mono (by omega)) (by rfl) T.g_is_what T.F_is_what.kp T.b_is_what .nil pass0 (pa_cons (pv 0) (pa_cons (pv 1) pa_nil))))) (pss_cons (L2N.ps_raise rfl (L2N.takes_of rfl rfl rfl rfl) (T.X_BadHour.pmk (by rfl)))
      pss_nil) pss_nil)
      pss_nil), Go.go ?_⟩
    refine go_when (et_not (et_B (ev_is_what (ea_cons (ev_var rfl) (ea_cons (ev_var rfl) ea_nil))))) (fun z => go_raise (bad ?_)) (fun z => go_next fun H2 e2 => good ?_ H2 e2)
    · rintro ⟨z1, z2⟩
      rw [decide_eq_true z1, decide_eq_true z2] at z
      cases z
    · rw [Bool.not_eq_false', Bool.and_eq_true, decide_eq_true_eq, decide_eq_true_eq] at z
      exact z
def sp_Log_len (T : Tx w K mg base) : Sp := fun vs H Q _ => ∃ p d l Hd, vs = [.ref p] ∧ LogAt K T.a_Log Hd H p d l ∧ ∀ H2, Ex H H2 → Q (.int (l.kept.length : Int)) H2
theorem okX_Log_len (T : Tx w K mg base) : FnOk P w K mg base (L2N.CX P w) 1 T.a_Log_len T.d_Log_len ["self"] (sp_Log_len T) := by
  refine okN T.F_Log_len sc_Log_len (fun vs H Q E h => ?_) (fun cdv A outer s H vs Q E hr h => ?_)
  · obtain ⟨p, d, l, Hd, rfl, _⟩ := h
    rfl
  · obtain ⟨p, d, l, Hd, rfl, L, q⟩ := h
    obtain ⟨⟨dx, h1⟩, ⟨kvs, h2, h3⟩, ok⟩ := L
    have cl := T.Q_Log
    have na := T.na_Log_kept
    rw [← h3.len] at q
    exact ⟨_, (pss_cons (ps_ret (pe_callB (r := rLenK) call_lenK (by rfl) T.n_len PySem.boot_len (pa_cons (pe_fld (pv 0) rfl) pa_nil)))
      pss_nil), Go.go (go_retV (ev_lenK (by walk_at "ev") h2) q)⟩
def sp_Log_init (T : Tx w K mg base) : Sp := fun vs H Q E => ∃ (p dx : Addr) (c h w : Int) (Hd : Hp), vs = [.ref p, .int c, .int h, .int w] ∧ H p = some (.ins T.a_Log dx []) ∧ Wld (tabsOf T) [p] Hd H ∧
  (newE c h w = none → ∀ d H2, H d = none → GrW (tabsOf T) [p] Hd H Hd H2 → LogAt K T.a_Log Hd H2 p d (newL c h w) → Q .non H2) ∧ (∀ er, newE c h w = some er → ∀ H2, Ex H H2 → E (.ref (er.cls T)) none H2)
theorem okX_Log_init (T : Tx w K mg base) : FnOk P w K mg base (L2N.CX P w) 3 T.a_Log_init T.d_Log_init ["self", "clock", "high", "wide"] (sp_Log_init T) := by
  refine okN T.F_Log_init sc_Log_init (fun vs H Q E h => ?_) (fun cdv A outer s H vs Q E hr h => ?_)
  · obtain ⟨p, dx, c, hh, w, Hd, rfl, _⟩ := h
    rfl
  · obtain ⟨p, dx, c, hh, w, Hd, rfl, hp, W, good, bad⟩ := h
    have cl := T.Q_Log
    refine ⟨_, (pss_cons (ps_expr (pe_call (okX_need_clock T) (hr.mono (by omega)) (by rfl) T.g_need_clock T.F_need_clock.kp T.b_need_clock .nil (L2N.passes_call (L2N.takes_of rfl rfl rfl rfl) (fun _ _ _ _ h => h)) (pa_cons (pv 1) pa_nil)))
      (pss_cons (ps_if (pt_not (PW.pt (pw_and (pt_chain op_le op_le pe_int (pv 2) (pe_glob (v := .int (9)) rfl T.c_MOST_SQUARES ⟨_, rfl⟩)) (pw_and1 (pt_chain op_le op_le pe_int (pv 3) (pe_glob (v := .int (9)) rfl T.c_MOST_SQUARES ⟨_, rfl⟩)))))) (pss_cons (L2N.ps_raise rfl (L2N.takes_of rfl rfl rfl rfl) (T.X_BadSquare.pmk (by rfl)))
      pss_nil) pss_nil)
      (pss_cons (ps_fld (pv 0) (pv 1) rfl)
      (pss_cons (ps_fld (pv 0) (pv 2) rfl)
      (pss_cons (ps_fld (pv 0) (pv 3) rfl)
      (pss_cons (ps_fld (pv 0) pe_dnewK rfl)
      (pss_cons (ps_fld (pv 0) pe_int rfl)
      pss_nil))))))), Go.go ?_⟩
    cases hc : isClock c with
    | false => exact go_dropNo (K := K) (Hd := H) (C := T.a_BadClock) (Ex.refl _) (eda_cons (ed_int (ev_var rfl)) eda_nil) ⟨c, rfl, rfl, hc⟩ (bad .clock (by unfold newE; rw [if_neg (by rw [hc]; decide)]))
    | true =>
      refine go_dropOk (K := K) (Hd := H) (d := .none) (Ex.refl _) (eda_cons (ed_int (ev_var rfl)) eda_nil) ⟨c, rfl, rfl, hc⟩ fun v H2 Hn g _ => ?_
      refine go_when (et_not (et_andB (et_B (ev_chainB ev_c (ev_var rfl) rv_I0 ev_c rv_I0)) (et_B (ev_chainB ev_c (ev_var rfl) rv_I0 ev_c rv_I0)))) (fun z => go_raise fun H3 e3 => bad .square ?_ H3 (g.ex.trans e3)) (fun z => ?_)
      · unfold newE
        rw [if_pos hc, if_neg]
        rintro ⟨⟨z1, z2⟩, z3, z4⟩
        rw [decide_eq_true z1, decide_eq_true z2, decide_eq_true z3, decide_eq_true z4] at z
        cases z
      · have e0 : newE c hh w = none := by
          simp only [Bool.not_eq_false', Bool.and_eq_true, decide_eq_true_eq] at z
          unfold newE
          rw [if_pos hc, if_pos z]
        have h2 := g.ex _ _ hp
        refine go_fld (K := K) (ev_var rfl) (ev_var rfl) h2 cl T.na_Log_clock (by decide) ?_
        refine go_fld (K := K) (ev_var rfl) (ev_var rfl) upd_same cl T.na_Log_high (by show 1 < 1000; decide) ?_
        refine go_fld (K := K) (ev_var rfl) (ev_var rfl) upd_same cl T.na_Log_wide (by show 2 < 1000; decide) ?_
        refine go_fldNew (K := K) (fun _ => ev_var rfl) upd_same cl T.na_Log_kept (by show 3 < 1000; decide) fun d H4 e4 hd h4 => ?_
        refine go_fld (K := K) ev_c (ev_var rfl) upd_same cl T.na_Log_next_number (by show 4 < 1000; decide) ?_
        have npd : d ≠ p := fun z => by rw [z, upd_same] at hd; cases hd
        have hd0 : H d = none := by
          rw [upd_ne npd, upd_ne npd, upd_ne npd] at hd
          exact fresh_back g.ex hd
        refine go_next fun H5 e5 => ?_
        have k5 := e5 _ _ (show (upd (upd H4 p _) p _) p = some (.ins T.a_Log dx (logF (newL c hh w) d)) from upd_same)
        refine good e0 d H5 hd0 (GrW.chg W (fun a ha => ha) (fun a o ha n => e5 _ _ ?_) (fun a ha => ?_) (fun a ha => ?_)) ⟨⟨dx, k5⟩, ⟨[], e5 _ _ (by rw [upd_ne npd, upd_ne npd]; exact h4), .nil⟩, newL_ok e0⟩
        · have n' : a ≠ p := fun z => n (by rw [z]; exact List.mem_cons_self)
          rw [upd_ne n', upd_ne n']
          refine e4 _ _ ?_
          rw [upd_ne n', upd_ne n', upd_ne n']
          exact g.ex _ _ ha
        · rw [List.mem_singleton.mp ha]
          exact ⟨_, k5, noTb_ins⟩
        · rw [List.mem_singleton.mp ha]
          exact ntb_ins hp
def sp_Log_add (T : Tx w K mg base) : Sp := fun vs H Q E => ∃ (p d : Addr) (l : LogM) (r k o y : Int) (Hd : Hp), vs = [.ref p, .int r, .int k, .int o, .int y] ∧ LogAt K T.a_Log Hd H p d l ∧ Wld (tabsOf T) [p, d] Hd H ∧
  (addE l r k o y = none → ∀ H2 Hn, GrW (tabsOf T) [p, d] Hd H Hn H2 → LogAt K T.a_Log Hn H2 p d (addL l r k o y) → Q (.int l.next) H2) ∧ (∀ er, addE l r k o y = some er → ∀ H2, Ex H H2 → E (.ref (er.cls T)) none H2)
theorem okX_Log_add (T : Tx w K mg base) : FnOk P w K mg base (L2N.CX P w) 3 T.a_Log_add T.d_Log_add ["self", "row", "column", "one", "day"] (sp_Log_add T) := by
  refine okND T.F_Log_add sc_Log_add (fun vs H Q E h => ?_) (fun cdv A outer s H vs Q E hr h => ?_)
  · obtain ⟨p, d, l, r, k, o, y, Hd, rfl, _⟩ := h
    rfl
  · obtain ⟨p, d, l, r, k, o, y, Hd, rfl, L, W, good, bad⟩ := h
    have cl := T.Q_Log
    have n1 := T.na_Log_clock
    have n2 := T.na_Log_high
    have n3 := T.na_Log_wide
    have n4 := T.na_Log_kept
    have n5 := T.na_Log_next_number
    have L0 := L
    obtain ⟨⟨dx, h1⟩, ⟨kvs, h2, h3⟩, ok⟩ := L
    refine ⟨_, (pss_cons (ps_if (pt_not (PW.pt (pw_and (pt_chain op_le op_lt pe_int (pv 1) (pe_fld (pv 0) rfl)) (pw_and1 (pt_chain op_le op_lt pe_int (pv 2) (pe_fld (pv 0) rfl)))))) (pss_cons (L2N.ps_raise rfl (L2N.takes_of rfl rfl rfl rfl) (T.X_BadSquare.pmk (by rfl)))
      pss_nil) pss_nil)
      (pss_cons (ps_expr (pe_call (okX_need_what T) (hr.mono (by omega)) (by rfl) T.g_need_what T.F_need_what.kp T.b_need_what .nil (L2N.passes_call (L2N.takes_of rfl rfl rfl rfl) (fun _ _ _ _ h => h)) (pa_cons (pe_fld (pv 0) rfl) (pa_cons (pv 3) pa_nil))))
      (pss_cons (ps_expr (pe_call (okX_need_day T) (hr.mono (by omega)) (by rfl) T.g_need_day T.F_need_day.kp T.b_need_day .nil (L2N.passes_call (L2N.takes_of rfl rfl rfl rfl) (fun _ _ _ _ h => h)) (pa_cons (pv 4) pa_nil)))
      (pss_cons (ps_if (pt_cmpR op_ge (pe_callB (r := rLenK) call_lenK (by rfl) T.n_len PySem.boot_len (pa_cons (pe_fld (pv 0) rfl) pa_nil)) (pe_glob (v := .int (200)) rfl T.c_MOST_ENTRIES ⟨_, rfl⟩) (nomark _)) (pss_cons (L2N.ps_raise rfl (L2N.takes_of rfl rfl rfl rfl) (T.X_Full.pmk (by rfl)))
      pss_nil) pss_nil)
      (pss_cons (ps_set (i := 5) sc_Log_add.nd rfl (.inl rfl) (pe_fld (pv 0) rfl))
      (pss_cons (ps_dput (hu_of hr) (pe_fld (pv 0) rfl) (pv 5) (pe_tup (pa_cons (pv 4) (pa_cons (pv 1) (pa_cons (pv 2) (pa_cons (pv 3) pa_nil))))) rfl)
      (pss_cons (ps_fld (pv 0) (pe_op op_add (pv 5) pe_int) rfl)
      (pss_cons (ps_ret (pv 5))
      pss_nil)))))))), Go.go ?_⟩
    refine go_when (et_not (et_andB (et_B (ev_chainB ev_c (ev_var rfl) rv_I0 (by walk_at "ev") rv_I0)) (et_B (ev_chainB ev_c (ev_var rfl) rv_I0 (by walk_at "ev") rv_I0)))) (fun z => go_raise (bad .square ?_)) (fun z => ?_)
    · unfold addE
      rw [if_neg]
      rintro ⟨⟨z1, z2⟩, z3, z4⟩
      rw [decide_eq_true z1, decide_eq_true z2, decide_eq_true z3, decide_eq_true z4] at z
      cases z
    · simp only [Bool.not_eq_false', Bool.and_eq_true, decide_eq_true_eq] at z
      unfold addE at good bad
      rw [if_pos z] at good bad
      by_cases ho : -2 ≤ o ∧ o < l.clock
      · rw [if_pos ho] at good bad
        refine go_dropOk (K := K) (Hd := H) (d := .none) (ds := [.int l.clock, .int o]) (Ex.refl _) (eda_cons (ed_int (by walk_at "ev")) (eda_cons (ed_int (ev_var rfl)) eda_nil)) ⟨l.clock, o, rfl, rfl, ho⟩ fun v H3 Hn3 g3 _ => ?_
        by_cases hy : 0 ≤ y ∧ y ≤ 999
        · rw [if_pos hy] at good bad
          refine go_dropOk (K := K) (Hd := H3) (d := .none) (ds := [.int y]) (Ex.refl _) (eda_cons (ed_int (ev_var rfl)) eda_nil) ⟨y, rfl, rfl, hy⟩ fun v H4 Hn4 g4 _ => ?_
          have e4 : Ex H H4 := g3.ex.trans g4.ex
          have k1 := e4 _ _ h1
          have k2 := e4 _ _ h2
          refine go_when (et_test (ev_op (ev_lenK (by walk_at "ev") k2) ev_c rv_I0)) (fun z2 => go_raise fun H5 e5 => bad .full ?_ H5 (e4.trans e5)) (fun z2 => ?_)
          · rw [if_neg]
            have := h3.len
            have z3 : (200 : Int) ≤ (kvs.length : Int) := of_decide_eq_true z2
            omega
          · have hl : l.kept.length < 200 := by
              have := h3.len
              have z3 : ¬ (200 : Int) ≤ (kvs.length : Int) := of_decide_eq_false z2
              omega
            rw [if_pos hl] at good
            refine go_asg (v := .int l.next) (by walk_at "ev") ?_
            have hv := next_new ok h3
            refine go_dputT (dd := d) (k := .inl l.next) (xs := [.int y, .int r, .int k, .int o]) (by walk_at "ev") (ev_var rfl) (ea_cons (ev_var rfl) (ea_cons (ev_var rfl) (ea_cons (ev_var rfl) (ea_cons (ev_var rfl) ea_nil)))) k2 (by have := h3.len; omega) (by simp) fun t H5 e5 ht h5 => ?_
            have npd : p ≠ d := L0.ne
            have e5' : Ex H H5 := e4.trans e5
            have ht0 : H t = none := fresh_back e4 ht
            have j1 : (upd H5 d (.dK (putK kvs (.inl l.next) (.ref t)))) p = some (.ins T.a_Log dx (logF l d)) := by
              rw [upd_ne npd]
              exact e5 _ _ k1
            refine go_fld (K := K) (v := .int (l.next + 1)) (ev_op (ev_var rfl) ev_c rv_I0) (ev_var rfl) j1 cl n5 (by show 5 < 1000; decide) ?_
            refine go_retV (ev_var rfl) fun H6 e6 => ?_
            have m1 : H6 p = some (.ins T.a_Log dx (logF (addL l r k o y) d)) := e6 _ _ (by rw [upd_same]; rfl)
            have m2 : H6 d = some (.dK (kvs ++ [(.inl l.next, .ref t)])) := e6 _ _ (by rw [upd_ne npd.symm, upd_same, putK_new _ hv])
            have mt : ∀ a ob, a ≠ p → a ≠ d → H5 a = some ob → H6 a = some ob := fun a ob q1 q2 hob => e6 _ _ (by rw [upd_ne q1, upd_ne q2]; exact hob)
            have td : t ≠ d := ne_of h5 (e5 _ _ k2) (by intro z; cases z)
            have tp : t ≠ p := ne_of h5 (e5 _ _ k1) (by intro z; cases z)
            have g6 : GrW (tabsOf T) [p, d] Hd H Hd H6 := by
              refine GrW.chg W (fun a ha => ha) (fun a ob ha n => mt a ob (fun q => n (by simp [q])) (fun q => n (by simp [q])) (e5' _ _ ha)) (fun a ha => ?_) L0.nt
              rcases List.mem_cons.mp ha with rfl | ha
              · exact ⟨_, m1, noTb_ins⟩
              · rw [List.mem_singleton.mp ha]
                exact ⟨_, m2, noTb_dK⟩
            have n0 : Hd t = none := fresh_back W.sub ht0
            refine good rfl H6 _ (g6.keep (newAt_none ht0) n0 (mt _ _ tp td h5) noTb_tup) ⟨⟨dx, m1⟩, ⟨_, m2, (h3.mono (Ex.new n0)).app (t := t) (n := l.next) (e := [y, r, k, o]) (st_of upd_same)⟩, addL_ok ok ?_⟩
            unfold addE
            rw [if_pos z, if_pos ho, if_pos hy, if_pos hl]
        · rw [if_neg hy] at bad
          exact go_dropNo (K := K) (Hd := H3) (C := T.a_BadDay) (ds := [.int y]) (Ex.refl _) (eda_cons (ed_int (ev_var rfl)) eda_nil) ⟨y, rfl, rfl, hy⟩ fun H4 e4 => bad .day rfl H4 (g3.ex.trans e4)
      · rw [if_neg ho] at bad
        exact go_dropNo (K := K) (Hd := H) (C := T.a_BadHour) (ds := [.int l.clock, .int o]) (Ex.refl _) (eda_cons (ed_int (by walk_at "ev")) (eda_cons (ed_int (ev_var rfl)) eda_nil)) ⟨l.clock, o, rfl, rfl, ho⟩ (bad .hour rfl)
def rightL (l : LogM) (n o : Int) : LogM := { l with kept := l.kept.map fun e => if e.1 = n then (e.1, e.2.take 3 ++ [o]) else e }
def hasL (l : LogM) (n : Int) : Bool := l.kept.any fun e => decide (e.1 = n)
theorem kept_mem {l : LogM} {n : Int} (h : (l.kept.any fun e => decide (e.1 = n)) = true) : ∃ e, (n, e) ∈ l.kept := by
  obtain ⟨x, hx, he⟩ := List.any_eq_true.mp h
  exact ⟨x.2, by rw [← of_decide_eq_true he]; exact hx⟩
/-- all entries by days, of one day by numbers -/
def entL (l : LogM) : List (List Int) := sortE 1 0 (l.kept.map fun e => e.1 :: e.2)
theorem okE4.len {c h w : Int} {e : List Int} (k : okE4 c h w e) : e.length = 4 := by
  obtain ⟨d, r, k, o, rfl, _⟩ := k
  rfl
def sp_Log_entries (T : Tx w K mg base) : Sp := fun vs H Q _ => ∃ (p d : Addr) (l : LogM) (Hd : Hp), vs = [.ref p] ∧ LogAt K T.a_Log Hd H p d l ∧ Wld (tabsOf T) [] Hd H ∧
  ∀ q xs H2 Hn, GrW (tabsOf T) [] Hd H Hn H2 → NewAt H q → Hn q = none → H2 q = some (.lst xs) → DpAll K Hn xs ((entL l).map entE) → Q (.ref q) H2
theorem okX_Log_entries (T : Tx w K mg base) : FnOk P w K mg base (L2N.CX P w) 5 T.a_Log_entries T.d_Log_entries ["self"] (sp_Log_entries T) := by
  refine okC T.F_Log_entries sc_Log_entries (fun vs H Q E h => ?_) (fun A outer s H vs Q E hr h => ?_)
  · obtain ⟨p, d, l, Hd, rfl, _⟩ := h
    rfl
  · obtain ⟨p, d, l, Hd, rfl, L, W, q⟩ := h
    have L0 := L
    obtain ⟨⟨dx, h1⟩, ⟨kvs, h2, h3⟩, ok⟩ := L
    have cl := T.Q_Log
    have na := T.na_Log_kept
    refine ⟨_, (pss_cons (ps_lock (ps_setLc (i := 1) (own := [("number", 2), ("day", 3), ("row", 4), ("column", 5), ("one", 6)]) (g := (gTup K 2 (gCons (gName 2) (gCons (gTup K 4 (gCons (gName 3) (gCons (gName 4) (gCons (gName 5) (gCons (gName 6) gNil))))) gNil)))) (by rfl) sc_Log_entries.nd rfl rfl (sw_true rfl rfl rfl (by decide +kernel)) (pi_items (pe_fld (pv 0) rfl)) (blkOk_by (own := [("number", 2), ("day", 3), ("row", 4), ("column", 5), ("one", 6)]) (N := N_Log_entries) (sc := defScope s_Log_entries) (by decide +kernel)) (fun _ _ _ _ _ => (pg_tup rfl (pgs_cons (pg_name (i := 2) sc_Log_entries.nd rfl (.inl rfl) (hf := .inr rfl)) (pgs_cons (pg_tup rfl (pgs_cons (pg_name (i := 3) sc_Log_entries.nd rfl (.inl rfl) (hf := .inr rfl)) (pgs_cons (pg_name (i := 4) sc_Log_entries.nd rfl (.inl rfl) (hf := .inr rfl)) (pgs_cons (pg_name (i := 5) sc_Log_entries.nd rfl (.inl rfl) (hf := .inr rfl)) (pgs_cons (pg_name (i := 6) sc_Log_entries.nd rfl (.inl rfl) (hf := .inr rfl)) pgs_nil))))) pgs_nil)))) (fun _ _ _ _ _ => pts_nil) (fun _ _ _ _ _ => (pe_tup (pa_cons (pv 2) (pa_cons (pv 3) (pa_cons (pv 4) (pa_cons (pv 5) (pa_cons (pv 6) pa_nil)))))))))
      (pss_cons (ps_ret (pe_sortLam (K := K) (n := 0) (k := 1) (k2 := 0) rfl rfl (by rfl) T.n_sorted (pv 1) T.TB_Log_entries rfl (List.Mem.head _) (tabs_uniq (tabs_nd T) (List.Mem.head _)) (hr.mono (by omega)) (lamP_by (by decide +kernel)) (noFree (by decide +kernel)) rfl (fun _ _ _ _ _ _ _ => rfl)))
      pss_nil)), Go.go ?_⟩
    show Go _ _ [some (V.ref p), none, none, none, none, none, none] H
    have s0 : Ex Hd (upd Hd p (.ins T.a_Log dx (logF l d))) := fun a o ha => by
      by_cases e : a = p
      · subst e
        rw [W.sub _ _ ha] at h1
        cases h1
        exact upd_same
      · rw [upd_ne e]
        exact ha
    have sx : Ex (upd Hd p (.ins T.a_Log dx (logF l d))) H := fun a o ha => by
      by_cases e : a = p
      · subst e
        rw [upd_same] at ha
        rw [h1, ha]
      · rw [upd_ne e] at ha
        exact W.sub _ _ ha
    refine go_lockN (K := K) (Hd := Hd) (Hdx := upd Hd p (.ins T.a_Log dx (logF l d))) (ds := l.kept.map fun e => entE (e.1 :: e.2)) h2 s0 sx (fun a o ha => ?_) (fun od => ?_) fun p1 xs1 H1 Hn1 g1 f1 n1 l1 d1 => ?_
    · by_cases e : a = p
      · subst e
        rw [upd_same] at ha
        cases ha
        exact .inr noSeq_ins
      · rw [upd_ne e] at ha
        exact .inl ha
    · have e0 : l.kept.map (fun e => entE (e.1 :: e.2)) = givenD l.kept.length (fun _ => true) (fun i => entE (((l.kept[i]?).getD (0, [])).1 :: ((l.kept[i]?).getD (0, [])).2)) := by
        rw [givenD_all]
        refine List.ext_getElem (by simp) fun i hi1 hi2 => ?_
        simp only [List.length_map] at hi1
        simp [List.getElem?_eq_getElem hi1]
      rw [e0]
      have hp : (upd (upd Hd p (.ins T.a_Log dx (logF l d))) d (.frz od (.dK kvs))) p = some (.ins T.a_Log dx (logF l d)) := by
        rw [upd_ne L0.ne, upd_same]
      refine en_lc (K := K) (ei_items (K := K) (dd := d) (o := od) (kvs := kvs) (es := l.kept) (j := 2) (js := [3, 4, 5, 6]) (n := 4) (ev_kept (ev_var rfl) hp cl na) upd_same h3.len (fun i k v hk => ?_) (fun e he => (ok.ent e he).len) rfl rfl) (by have := ok.few; omega) _ _ ?_
      · obtain ⟨n, e, t, q1, q2, q3, q4⟩ := h3.get hk
        refine ⟨n, e, t, q1, by rw [q2]; rfl, q3, ?_⟩
        refine seq_t (fun a o ha nq => ?_) q4
        have q5 := s0 _ _ ha
        by_cases ed : a = d
        · exfalso
          rw [ed] at q5
          rw [sx _ _ q5] at h2
          cases h2
          exact nq noSeq_dK
        · rw [upd_ne ed]
          exact q5
      · rintro i σ2 Hn hi ex ⟨⟨n, e⟩, he, rfl⟩
        obtain ⟨y, r, k, o, rfl, _⟩ := ok.ent _ (List.mem_of_getElem? he)
        rw [he]
        have e2 : setAll (wipe [some (V.ref p), none, none, none, none, none, none] [2, 3, 4, 5, 6]) [2, 3, 4, 5, 6] [.int n, .int y, .int r, .int k, .int o] = [some (V.ref p), none, some (.int n), some (.int y), some (.int r), some (.int k), some (.int o)] := rfl
        show wipe (setAll (wipe [some (V.ref p), none, none, none, none, none, none] [2, 3, 4, 5, 6]) [2, 3, 4, 5, 6] [.int n, .int y, .int r, .int k, .int o]) _ = _ ∧ EvT _ (setAll (wipe [some (V.ref p), none, none, none, none, none, none] [2, 3, 4, 5, 6]) [2, 3, 4, 5, 6] [.int n, .int y, .int r, .int k, .int o]) _ _ ∧ (_ → EvD K _ (setAll (wipe [some (V.ref p), none, none, none, none, none, none] [2, 3, 4, 5, 6]) [2, 3, 4, 5, 6] [.int n, .int y, .int r, .int k, .int o]) _ _)
        rw [e2]
        refine ⟨rfl, et_yes, fun _ => ?_⟩
        exact ed_tup (ds := [.int n, .int y, .int r, .int k, .int o]) (eda_cons (ed_int (ev_var rfl)) (eda_cons (ed_int (ev_var rfl)) (eda_cons (ed_int (ev_var rfl)) (eda_cons (ed_int (ev_var rfl)) (eda_cons (ed_int (ev_var rfl)) eda_nil))))) (by simp)
    · have g1' := GrW.of (M := []) W g1
      refine go_retSort (K := K) (es := l.kept.map fun e => e.1 :: e.2) (W.step g1') (ev_var rfl) l1 (by rw [List.map_map]; exact dpa_noT _ d1) (fun e he => ?_) fun q2 ys H2 g2 f2 n2 l2 d2 => ?_
      · obtain ⟨e1, he1, rfl⟩ := List.mem_map.mp he
        have := (ok.ent e1 he1).len
        simp only [List.length_cons]
        omega
      · exact q q2 ys H2 _ (g1'.trans g2) (f2.back g1') n2 l2 d2
theorem ew_entries (T : Tx w K mg base) {σ : L2.St} {Hd H : Hp} {ta : TE} {E : XK} {M : List Addr} {p d : Addr} {l : LogM} (W : Wld (tabsOf T) M Hd H) (ha : Ev ta σ H (.ref p)) (L : LogAt K T.a_Log Hd H p d l) : EvW (tabsOf T) [] (tMeth T.a_Log "entries" (sp_Log_entries T) [] E ta tNil) σ Hd H (fun v Hn H2 => ∃ q xs, v = .ref q ∧ NewAt H q ∧ Hn q = none ∧ H2 q = some (.lst xs) ∧ DpAll K Hn xs ((entL l).map entE)) := fun H1 e1 Q q =>
  ha H1 e1 _ fun H2 e2 => by
    have e12 := e1.trans e2
    obtain ⟨dx, h1⟩ := L.ob
    exact ⟨p, dx, _, rfl, e12 _ _ h1, rfl, p, d, l, Hd, rfl, L.mono (Ex.refl _) e12, (W.ext e12).nil, fun r xs H3 Hn g f n hl hx => q _ _ _ (g.pre e2) ⟨r, xs, rfl, f.ext e12, n, hl, hx⟩⟩
theorem mem_sortE {e : List Int} {es : List (List Int)} {i j : Nat} : e ∈ sortE i j es ↔ e ∈ es := by
  unfold sortE
  exact (List.mergeSort_perm es _).mem_iff
theorem entL_ok {l : LogM} (L : LogOk l) {e : List Int} (h : e ∈ entL l) : ∃ n y r k o, e = [n, y, r, k, o] ∧ (1 ≤ n ∧ n < l.next) ∧ (0 ≤ y ∧ y ≤ 999) ∧ (0 ≤ r ∧ r < l.high) ∧ (0 ≤ k ∧ k < l.wide) ∧ -2 ≤ o ∧ o < l.clock := by
  unfold entL at h
  obtain ⟨⟨n, e0⟩, hx, rfl⟩ := List.mem_map.mp (mem_sortE.mp h)
  obtain ⟨y, r, k, o, rfl, h1, h2, h3, h4⟩ := L.ent _ hx
  exact ⟨n, y, r, k, o, rfl, L.num _ hx, h1, h2, h3, h4⟩
/-- what the entries tell up to a day, the later ones over the earlier -/
def lastF (y : Int) (es : List (List Int)) : Nat → Nat → Int := es.foldl (fun f e => if e.getD 1 0 ≤ y then withF (e.getD 2 0).toNat (e.getD 3 0).toNat (e.getD 4 0) f else f) (fun _ _ => -2)
theorem lastF_snoc (y : Int) (es : List (List Int)) (e : List Int) : lastF y (es ++ [e]) = if e.getD 1 0 ≤ y then withF (e.getD 2 0).toNat (e.getD 3 0).toNat (e.getD 4 0) (lastF y es) else lastF y es := by
  unfold lastF
  rw [List.foldl_append]
  rfl
def chartT (l : LogM) (y : Int) : List (List Int) := tab l.high.toNat l.wide.toNat (lastF y (entL l))
def sp_Log_chart (T : Tx w K mg base) : Sp := fun vs H Q E => ∃ (p d : Addr) (l : LogM) (y : Int) (Hd : Hp), vs = [.ref p, .int y] ∧ LogAt K T.a_Log Hd H p d l ∧ Wld (tabsOf T) [] Hd H ∧
  (0 ≤ y ∧ y ≤ 999 → ∀ v H2 Hn, GrW (tabsOf T) [] Hd H Hn H2 → Dp K Hn v (dChart l.clock (chartT l y)) → Q v H2) ∧ (¬ (0 ≤ y ∧ y ≤ 999) → ∀ H2, Ex H H2 → E (.ref T.a_BadDay) none H2)
theorem okX_Log_chart (T : Tx w K mg base) : FnOk P w K mg base (L2N.CX P w) 6 T.a_Log_chart T.d_Log_chart ["self", "day"] (sp_Log_chart T) := by
  refine okND T.F_Log_chart sc_Log_chart (fun vs H Q E h => ?_) (fun cdv A outer s H vs Q E hr h => ?_)
  · obtain ⟨p, d, l, y, Hd, rfl, _⟩ := h
    rfl
  · obtain ⟨p, d, l, y, Hd, rfl, L, W, good, bad⟩ := h
    have cl := T.Q_Log
    have nc := T.na_Log_clock
    have nh := T.na_Log_high
    have nw := T.na_Log_wide
    obtain ⟨dx, h1⟩ := L.ob
    have ok := L.ok
    refine ⟨_, (pss_cons (ps_expr (pe_call (okX_need_day T) (hr.mono (by omega)) (by rfl) T.g_need_day T.F_need_day.kp T.b_need_day .nil (L2N.passes_call (L2N.takes_of rfl rfl rfl rfl) (fun _ _ _ _ h => h)) (pa_cons (pv 1) pa_nil)))
      (pss_cons (ps_setLc (i := 2) (own := [("row", 5)]) (g := (gName 5)) (by rfl) sc_Log_chart.nd rfl rfl (sw_true rfl rfl rfl (by decide +kernel)) (pi_range1 (by rfl) T.n_range (pa_cons (pe_fld (pv 0) rfl) pa_nil)) (blkOk_by (own := [("row", 5)]) (N := N_Log_chart) (sc := defScope s_Log_chart) (by decide +kernel)) (fun _ _ _ _ _ => (pg_name (i := 5) sc_Log_chart.nd rfl (.inl rfl) (hf := .inr rfl))) (fun _ _ _ _ _ => pts_nil) (fun _ _ _ _ _ => (pe_lc (own := [("column", 6)]) (g := (gName 6)) (by rfl) sc_Log_chart.nd (pi_range1 (by rfl) T.n_range (pa_cons (pb_fld (K := K) (by rfl) (pv 0)) pa_nil)) (blkIn_by (own := [("column", 6)]) (N := N_Log_chart) (by decide +kernel)) (fun _ _ _ _ _ => (pg_name (i := 6) sc_Log_chart.nd rfl (.inl rfl) (hf := .inr rfl))) (fun _ _ _ _ _ => pts_nil) (fun _ _ _ _ _ => (pe_glob (v := .int (-2)) rfl T.c_UNTOLD ⟨_, rfl⟩)))))
      (pss_cons (ps_for PassesOwn.leaving rfl (pi_list (pe_meth0 (pv 0) T.Q_Log T.m_Log_entries (okX_Log_entries (P := P) (w := w) T) (hr.mono (by omega)) T.b_Log_entries .nil (L2N.passes_call (L2N.takes_of rfl rfl rfl rfl) (fun _ _ _ _ h => h)))) (pg_tup rfl (pgs_cons (pg_name (i := 3) sc_Log_chart.nd rfl (.inl rfl)) (pgs_cons (pg_name (i := 4) sc_Log_chart.nd rfl (.inl rfl)) (pgs_cons (pg_name (i := 5) sc_Log_chart.nd rfl (.inl rfl)) (pgs_cons (pg_name (i := 6) sc_Log_chart.nd rfl (.inl rfl)) (pgs_cons (pg_name (i := 7) sc_Log_chart.nd rfl (.inl rfl)) pgs_nil)))))) (pss_cons (ps_if (pt_cmpR op_le (pv 4) (pv 1) (nomark _)) (pss_cons (ps_asg (pv 7) (pg_sub (pe_ix (r := rIxL K) ix_list (pv 2) (pv 5) (fun _ _ => rfl)) (pv 6) set_list))
      pss_nil) pss_nil)
      pss_nil))
      (pss_cons (ps_ret (pe_tup (pa_cons (pe_fld (pv 0) rfl) (pa_cons (pe_callTy (r := rTupS K) call_tupleQ (by rfl) T.n_tuple (by decide +kernel) (pa_cons (pe_lc (own := [("row", 5)]) (g := (gName 5)) (by rfl) sc_Log_chart.nd (pi_list (pv 2)) (blkOk_by (own := [("row", 5)]) (N := N_Log_chart) (sc := defScope s_Log_chart) (by decide +kernel)) (fun _ _ _ _ _ => (pg_name (i := 5) sc_Log_chart.nd rfl (.inl rfl) (hf := .inr rfl))) (fun _ _ _ _ _ => pts_nil) (fun _ _ _ _ _ => (pe_callTy (r := rTupS K) call_tupleQ (by rfl) T.n_tuple (by decide +kernel) (pa_cons (pv 5) pa_nil)))) pa_nil)) pa_nil))))
      pss_nil)))), Go.go ?_⟩
    show Go _ _ [some (V.ref p), some (V.int y), none, none, none, none, none, none] H
    by_cases hy : 0 ≤ y ∧ y ≤ 999
    · replace good := good hy
      refine go_dropOk (K := K) (Hd := H) (d := .none) (ds := [.int y]) (Ex.refl _) (eda_cons (ed_int (ev_var rfl)) eda_nil) ⟨y, rfl, rfl, hy⟩ fun v H2 Hn2 g2 _ => ?_
      have k1 := g2.ex _ _ h1
      have W2 := W.ext g2.ex
      have L2' := L.mono (Ex.refl _) g2.ex
      obtain ⟨hh, eh⟩ : ∃ hh : Nat, l.high = (hh : Int) := ⟨l.high.toNat, by have := ok.h1; omega⟩
      obtain ⟨ww, ew⟩ : ∃ ww : Nat, l.wide = (ww : Int) := ⟨l.wide.toNat, by have := ok.w1; omega⟩
      have h9 : hh ≤ 9 := by have := ok.h9; omega
      have w9 : ww ≤ 9 := by have := ok.w9; omega
      have ct : chartT l y = tab hh ww (lastF y (entL l)) := by unfold chartT; rw [eh, ew]; rfl
      refine go_asgLL (rs := tab hh ww (lastF y [])) (Ex.refl _) ?_ fun a ps H3 e3 na np LL3 => ?_
      · have e0 : tab hh ww (lastF y []) = (List.range l.high.toNat).map fun i => rowOf ww (lastF y [] i) := by rw [eh]; rfl
        rw [e0]
        refine ll_new (K := K) (ei_range1 (K := K) (m := l.high) (ea_cons (by walk_at "ev") ea_nil) (by omega)) (by omega) _ ?_
        rintro i σ2 Hn hi ex rfl
        have k2 := ex _ _ k1
        refine ⟨rfl, ?_⟩
        have ew' : ww = l.wide.toNat := by omega
        rw [row_given, ew']
        refine en_lc (K := K) (ei_range1 (K := K) (m := l.wide) (ea_cons (ev_wide (ev_var rfl) k2 cl nw) ea_nil) (by omega)) (by omega) _ _ ?_
        rintro j σ3 Hm hj ex3 rfl
        exact ⟨rfl, et_yes, fun _ => ed_int ev_c⟩
      have k3 := e3 _ _ k1
      have W3 := W2.ext e3
      have L3 := L2'.mono (Ex.refl _) e3
      have nH : ∀ x, H2 x = none → H x = none := fun x h => fresh_back g2.ex h
      have LL3a := LL3.top
      refine go_bind (C := fun te => tSeq (tFor (iList K te) _ _) _) (ew_entries T W3 (ev_var rfl) L3) fun v H4 Hn4 g4 hv => ?_
      obtain ⟨q, xs, rfl, nq, nnq, hq, hx⟩ := hv
      have gA : GrW (tabsOf T) [] Hd H Hn4 H4 := (GrW.ext W (g2.ex.trans e3)).trans g4
      have k4 := g4.ex _ _ k3 (by simp) noTb_ins
      have LL4 := LL3.step g4
      have X4 : Ex (upd Hn4 q (.lst xs)) H4 := ex_add g4.sub hq
      have na4 : Hn4 a = none := g4.fr _ _ LL3a noTb_lst (fresh_back W.sub (nH a na))
      have np4 : ∀ x ∈ ps, Hn4 x = none := fun x hx => by
        obtain ⟨ys, hys⟩ := LL3.at hx
        exact g4.fr _ _ hys noTb_lst (fresh_back W.sub (nH x (np x hx)))
      have aq : a ≠ q := nq.ne LL3a noTb_lst
      have pq : ∀ x ∈ ps, x ≠ q := fun x hx => by
        obtain ⟨ys, hys⟩ := LL3.at hx
        exact nq.ne hys noTb_lst
      refine go_for (K := K) (Hd := upd Hn4 q (.lst xs)) X4 (ei_ints (K := K) (es := entL l) (n := 5) (js := [3, 4, 5, 6, 7]) (ed_val (.lst (sq_of upd_same) (dpa_mono (Ex.new nnq) _ hx))) (fun e he => by obtain ⟨n, y', r, k, o, rfl, _⟩ := entL_ok ok he; rfl) rfl rfl)
        (fun Hn i σ' H' => Ex Hn H' ∧ GrW (tabsOf T) [] Hd H Hn4 H' ∧ LL H' a ps (tab hh ww (lastF y ((entL l).take i))) ∧ H' p = some (.ins T.a_Log dx (logF l d)) ∧ Hn a = none ∧ (∀ x ∈ ps, Hn x = none) ∧ ∃ x3 x4 x5 x6 x7, σ' = [some (V.ref p), some (V.int y), some (V.ref a), x3, x4, x5, x6, x7]) ?_ ?_ ?_ ?_
      · intro H' Hn g
        exact ⟨g.sub, gA.post g.ex, LL4.ext g.ex, g.ex _ _ k4, g.fr _ _ LL4.top (by rw [upd_ne aq]; exact na4), fun x hx => by
          obtain ⟨ys, hys⟩ := LL4.at hx
          exact g.fr _ _ hys (by rw [upd_ne (pq x hx)]; exact np4 x hx), _, _, _, _, _, rfl⟩
      · rintro Hn i σ' H' h
        exact h.1
      · rintro Hn i σ' σ2 H' exn hi ⟨s5, g5, LL5, k5, na5, np5, x3, x4, x5, x6, x7, rfl⟩ ⟨e, he, rfl⟩
        obtain ⟨n, y', r, k, o, rfl, hn, hy', hr, hk, ho⟩ := entL_ok ok (List.mem_of_getElem? he)
        obtain ⟨rn, rfl⟩ : ∃ rn : Nat, r = (rn : Int) := ⟨r.toNat, by omega⟩
        obtain ⟨kn, rfl⟩ : ∃ kn : Nat, k = (kn : Int) := ⟨k.toNat, by omega⟩
        have et : (entL l).take (i + 1) = (entL l).take i ++ [[n, y', (rn : Int), (kn : Int), o]] := by
          rw [List.take_succ, he]
          rfl
        show Go _ _ [some (V.ref p), some (V.int y), some (V.ref a), some (V.int n), some (V.int y'), some (V.int (rn : Int)), some (V.int (kn : Int)), some (V.int o)] H'
        refine go_when (et_test (ev_op (ev_var rfl) (ev_var rfl) rv_I0)) (fun z => ?_) (fun z => ?_)
        · have hz : y' ≤ y := of_decide_eq_true z
          have hrl : rn < ps.length := by rw [LL5.len, tab_len]; omega
          have hpi : ps[rn]? = some ps[rn] := List.getElem?_eq_getElem hrl
          have hrow := LL5.row rn _ _ hpi (tab_get (by omega))
          refine go_setL (j := kn) (v := .int o) hrow (ev_var rfl) (ev_op (ev_var rfl) (ev_var rfl) (rv_ixL (K := K) (sq_of LL5.top) (atI_nat (j := rn) (by rw [List.getElem?_map, hpi]; rfl)))) (ev_var rfl) (by rw [List.length_map, row_len]; omega) ?_
          have em : ((rowOf ww (lastF y ((entL l).take i) rn)).map V.int).set kn (.int o) = ((rowOf ww (lastF y ((entL l).take i) rn)).set kn o).map V.int := by rw [List.map_set]
          rw [em]
          have hm := List.getElem_mem hrl
          have L6 := LL5.put hpi ((rowOf ww (lastF y ((entL l).take i) rn)).set kn o)
          rw [with_tab (by omega) (by omega)] at L6
          have nn : p ≠ ps[rn] := ne_of k5 hrow (by intro z; cases z)
          have g6 := g5.put (ys := ((rowOf ww (lastF y ((entL l).take i) rn)).set kn o).map V.int) hrow (newAt_none (nH _ (np _ hm))) (np4 _ hm)
          refine go_next fun H7 e7 => ⟨(Ex.mut s5 (np5 _ hm)).trans e7, g6.post e7, ?_, e7 _ _ (by rw [upd_ne nn]; exact k5), na5, np5, _, _, _, _, _, rfl⟩
          rw [et, lastF_snoc]
          refine LL.ext ?_ e7
          show LL _ _ _ (tab hh ww (if y' ≤ y then withF ((rn : Int)).toNat ((kn : Int)).toNat o _ else _))
          rw [if_pos hz]
          exact L6
        · have hz : ¬ y' ≤ y := of_decide_eq_false z
          refine go_next fun H7 e7 => ⟨s5.trans e7, g5.post e7, ?_, e7 _ _ k5, na5, np5, _, _, _, _, _, rfl⟩
          rw [et, lastF_snoc]
          refine LL.ext ?_ e7
          show LL _ _ _ (tab hh ww (if y' ≤ y then _ else _))
          rw [if_neg hz]
          exact LL5
      · rintro Hn σ' H' exn ⟨s5, g5, LL5, k5, na5, np5, x3, x4, x5, x6, x7, rfl⟩
        rw [List.take_length] at LL5
        refine go_bind (C := fun te => tSeq (tRet (tTup (tCons te _))) _) (M := []) (ew_ev (W.step g5) (ev_clock (ev_var rfl) k5 cl nc)) fun v H6 Hn6 g6 hv => ?_
        obtain ⟨rfl, rfl, e6⟩ := hv
        have LL6 := LL5.ext e6
        obtain ⟨D3, y1, y2, hda, y3⟩ := LL6.data (K := K) (g5.post e6).sub na4 np4
        have nt3 : ∀ x tb, D3 x ≠ some (.tbl tb) := fun x tb hx' => by
          by_cases z : x = a ∨ x ∈ ps
          · have h6 := y2 _ _ hx'
            rcases z with rfl | z
            · rw [LL6.top] at h6
              cases h6
            · obtain ⟨ys, hys⟩ := LL6.at z
              rw [hys] at h6
              cases h6
          · rw [y3 x (fun e => z (.inl e)) (fun e => z (.inr e))] at hx'
            exact g5.nt _ _ hx'
        have g7 : GrW (tabsOf T) [] Hd H D3 H6 := (g5.post e6).more y1 y2 (fun x o hx' z hn' => by
          rw [y3 x (fun e => by rw [e, nH a na] at hx'; cases hx') (fun hm => by rw [nH x (np x hm)] at hx'; cases hx')]
          exact hn') nt3
        rw [ct] at good
        refine go_ret (K := K) (d := dChart l.clock (tab hh ww (lastF y (entL l)))) y2 (ed_tup (eda_cons (ed_int ev_val) (eda_cons (ed_tupleL (ed_new (rows_back (ed_var rfl hda) h9 (fun u => rfl) (fun u => rfl)))) eda_nil)) (by simp)) fun v H8 D8 g8 hv => ?_
        exact good v H8 _ (g7.trans (GrW.of (W.step g7) g8)) (dp_noT _ hv)
    · exact go_dropNo (K := K) (Hd := H) (C := T.a_BadDay) (ds := [.int y]) (Ex.refl _) (eda_cons (ed_int (ev_var rfl)) eda_nil) ⟨y, rfl, rfl, hy⟩ (bad hy)
section
variable {σ : L2.St} {Hd H : Hp} {ta : TE} {tr : TA} {E : XK} {M : List Addr} {p d : Addr} {l : LogM}
/-- a new log -/
theorem tx_new (T : Tx w K mg base) {c h w : Int} {Q : VK} (W : Wld (tabsOf T) M Hd H) (ha : EvA tr σ H [.int c, .int h, .int w]) (good : newE c h w = none → ∀ p d H2, H p = none → H d = none → GrW (tabsOf T) [] Hd H Hd H2 → LogAt K T.a_Log Hd H2 p d (newL c h w) → Q (.ref p) H2) (bad : ∀ er, newE c h w = some er → ∀ H2, Ex H H2 → E (.ref (er.cls T)) none H2) : tMake T.a_Log (sp_Log_init T) [] E tr σ H Q :=
  ha H (Ex.refl _) _ fun H1 e1 x dx hx hdx ne => by
    have eN : Ex H1 (upd (upd H1 dx (.own x)) x (.ins T.a_Log dx [])) := (Ex.new hdx).trans (Ex.new (by rw [upd_ne ne.symm]; exact hx))
    have eH := e1.trans eN
    have W1 := W.nil.ext eH
    have hx0 : Hd x = none := fresh_back W.sub (fresh_back e1 hx)
    refine ⟨x, dx, c, h, w, Hd, rfl, upd_same, W1.add hx0 upd_same noTb_ins, fun e0 d H2 hd g L => ⟨rfl, ?_⟩, fun er he H2 e2 => bad er he H2 (eH.trans e2)⟩
    refine good e0 x d H2 (fresh_back e1 hx) ?_ ?_ L
    · exact fresh_back eH hd
    · have xH : H x = none := fresh_back e1 hx
      exact ⟨fun a o ha n z => g.ex a o (eH _ _ ha) (fun hm => by rw [List.mem_singleton.mp hm, xH] at ha; cases ha) z, g.dx, g.sub, fun a o ha => g.fr a o (eH _ _ ha), g.nt, g.tb, fun a o ha => g.al a o (eH _ _ ha)⟩
theorem ew_new (T : Tx w K mg base) {c h w : Int} (W : Wld (tabsOf T) M Hd H) (ha : EvA tr σ H [.int c, .int h, .int w]) (hn : newE c h w = none) : EvW (tabsOf T) [] (tMake T.a_Log (sp_Log_init T) [] E tr) σ Hd H (fun v Hn H2 => Hn = Hd ∧ ∃ p d, v = .ref p ∧ H p = none ∧ H d = none ∧ LogAt K T.a_Log Hd H2 p d (newL c h w)) := fun H1 e1 Q q =>
  tx_new T (W.ext e1) (ha.mono e1) (fun _ p d H2 hp hd g L => q _ H2 Hd g ⟨rfl, p, d, rfl, fresh_back e1 hp, fresh_back e1 hd, L⟩) fun er he => by rw [hn] at he; cases he
theorem tx_add (T : Tx w K mg base) {r k o y : Int} {Q : VK} {dv : List V} {vs : List V} (W : Wld (tabsOf T) [p, d] Hd H) (hp : Ev ta σ H (.ref p)) (L : LogAt K T.a_Log Hd H p d l) (ha : EvA tr σ H vs) (hv : vs ++ dv = [.int r, .int k, .int o, .int y])
    (good : addE l r k o y = none → ∀ H2 Hn, GrW (tabsOf T) [p, d] Hd H Hn H2 → LogAt K T.a_Log Hn H2 p d (addL l r k o y) → Q (.int l.next) H2) (bad : ∀ er, addE l r k o y = some er → ∀ H2, Ex H H2 → E (.ref (er.cls T)) none H2) : tMeth T.a_Log "add" (sp_Log_add T) dv E ta tr σ H Q :=
  hp H (Ex.refl _) _ fun H1 e1 => by
    obtain ⟨dx, h1⟩ := L.ob
    refine ⟨p, dx, _, rfl, e1 _ _ h1, rfl, ha H1 e1 _ fun H2 e2 => ?_⟩
    rw [hv]
    have e12 := e1.trans e2
    exact ⟨p, d, l, r, k, o, y, Hd, rfl, L.mono (Ex.refl _) e12, W.ext e12, fun e0 H3 Hn g L3 => good e0 H3 Hn (g.pre e12) L3, fun er he H3 e3 => bad er he H3 (e12.trans e3)⟩
theorem ew_add (T : Tx w K mg base) {r k o y : Int} {dv : List V} {vs : List V} (W : Wld (tabsOf T) [p, d] Hd H) (hp : Ev ta σ H (.ref p)) (L : LogAt K T.a_Log Hd H p d l) (ha : EvA tr σ H vs) (hv : vs ++ dv = [.int r, .int k, .int o, .int y]) (hn : addE l r k o y = none) :
    EvW (tabsOf T) [p, d] (tMeth T.a_Log "add" (sp_Log_add T) dv E ta tr) σ Hd H (fun v Hn H2 => v = .int l.next ∧ LogAt K T.a_Log Hn H2 p d (addL l r k o y)) := fun H1 e1 Q q =>
  tx_add T (W.ext e1) (hp.mono e1) (L.mono (Ex.refl _) e1) (ha.mono e1) hv (fun _ H2 Hn g L2 => q _ H2 Hn g ⟨rfl, L2⟩) fun er he => by rw [hn] at he; cases he
theorem tx_chart (T : Tx w K mg base) {y : Int} {Q : VK} {dv : List V} {vs : List V} (W : Wld (tabsOf T) M Hd H) (hp : Ev ta σ H (.ref p)) (L : LogAt K T.a_Log Hd H p d l) (ha : EvA tr σ H vs) (hv : vs ++ dv = [.int y])
    (good : 0 ≤ y ∧ y ≤ 999 → ∀ v H2 Hn, GrW (tabsOf T) [] Hd H Hn H2 → Dp K Hn v (dChart l.clock (chartT l y)) → Q v H2) (bad : ¬ (0 ≤ y ∧ y ≤ 999) → ∀ H2, Ex H H2 → E (.ref T.a_BadDay) none H2) : tMeth T.a_Log "chart" (sp_Log_chart T) dv E ta tr σ H Q :=
  hp H (Ex.refl _) _ fun H1 e1 => by
    obtain ⟨dx, h1⟩ := L.ob
    refine ⟨p, dx, _, rfl, e1 _ _ h1, rfl, ha H1 e1 _ fun H2 e2 => ?_⟩
    rw [hv]
    have e12 := e1.trans e2
    exact ⟨p, d, l, y, Hd, rfl, L.mono (Ex.refl _) e12, (W.ext e12).nil, fun e0 v H3 Hn g hx => good e0 v H3 Hn (g.pre e12) hx, fun he H3 e3 => bad he H3 (e12.trans e3)⟩
theorem ew_chart (T : Tx w K mg base) {y : Int} {dv : List V} {vs : List V} (W : Wld (tabsOf T) M Hd H) (hp : Ev ta σ H (.ref p)) (L : LogAt K T.a_Log Hd H p d l) (ha : EvA tr σ H vs) (hv : vs ++ dv = [.int y]) (hy : 0 ≤ y ∧ y ≤ 999) :
    EvW (tabsOf T) [] (tMeth T.a_Log "chart" (sp_Log_chart T) dv E ta tr) σ Hd H (fun v Hn H2 => Dp K Hn v (dChart l.clock (chartT l y))) := fun H1 e1 Q q =>
  tx_chart T (W.ext e1) (hp.mono e1) (L.mono (Ex.refl _) e1) (ha.mono e1) hv (fun _ v H2 Hn g hx => q v H2 Hn g hx) fun he => absurd hy he
end
theorem entL_perm (l : LogM) : (entL l).Perm (l.kept.map fun e => e.1 :: e.2) := List.mergeSort_perm _ _
def BkAt (K : PySem.W.Frag) (H : Hp) (v : V) (l : LogM) : Prop := ∃ t d o kvs, v = .ref t ∧ SqT K H t [.int l.clock, .int l.high, .int l.wide, .ref d, .int l.next] ∧ H d = some (.frz o (.dK kvs)) ∧ KvAt K H kvs l.kept
theorem BkAt.mono {H H2 : Hp} {v : V} {l : LogM} (e : Ex H H2) (B : BkAt K H v l) : BkAt K H2 v l := by
  obtain ⟨t, d, o, kvs, rfl, h1, h2, h3⟩ := B
  exact ⟨t, d, o, kvs, rfl, ex_t e h1, e _ _ h2, h3.mono e⟩
theorem rightL_ok {l : LogM} {n o : Int} (L : LogOk l) (ho : -2 ≤ o ∧ o < l.clock) : LogOk (rightL l n o) := by
  refine ⟨L.clk, L.h1, L.h9, L.w1, L.w9, L.n1, fun e he => ?_, ?_, fun e he => ?_, ?_⟩
  · obtain ⟨x, hx, rfl⟩ := List.mem_map.mp he
    have := L.num x hx
    split
    · exact this
    · exact this
  · show (List.map _ _).Pairwise _
    rw [List.pairwise_map]
    refine L.srt.imp fun {a b} hab => ?_
    have k : ∀ x : Int × List Int, (if x.1 = n then (x.1, x.2.take 3 ++ [o]) else x).1 = x.1 := fun x => by split <;> rfl
    rw [k, k]
    exact hab
  · obtain ⟨x, hx, rfl⟩ := List.mem_map.mp he
    obtain ⟨d, r, k, o', e1, h1, h2, h3, h4⟩ := L.ent x hx
    split
    · refine ⟨d, r, k, o, ?_, h1, h2, h3, ho⟩
      rw [e1]
      rfl
    · exact ⟨d, r, k, o', e1, h1, h2, h3, h4⟩
  · show (List.map _ _).length ≤ 200
    rw [List.length_map]
    exact L.few
theorem KvAt.put {H : Hp} {t : Addr} {n : Int} {e2 : List Int} (hs : SqT K H t (e2.map V.int)) : ∀ {kvs : List (Key × V)} {es : List (Int × List Int)}, KvAt K H kvs es → KvAt K H (kvs.map fun kv => if kv.1 = .inl n then (kv.1, .ref t) else kv) (es.map fun e => if e.1 = n then (e.1, e2) else e)
  | _, _, .nil => .nil
  | _, _, .cons (n := m) (e := e0) (kvs := kvs) (es := es) h r => by
    rw [List.map_cons, List.map_cons]
    by_cases z : m = n
    · rw [if_pos (by rw [z]), if_pos z]
      exact .cons hs (r.put hs)
    · rw [if_neg (fun q => z (Sum.inl.inj q)), if_neg z]
      exact .cons h (r.put hs)
theorem KvAt.any {H : Hp} {n : Int} {kvs : List (Key × V)} {es : List (Int × List Int)} (h : KvAt K H kvs es) : (kvs.any fun kv => decide (kv.1 = .inl n)) = es.any fun e => decide (e.1 = n) := by
  induction h with
  | nil => rfl
  | @cons t m e0 kvs es hs r ih =>
    rw [List.any_cons, List.any_cons, ih]
    congr 1
    by_cases z : m = n
    · rw [decide_eq_true z, decide_eq_true (by rw [z])]
    · rw [decide_eq_false z, decide_eq_false (fun q => z (Sum.inl.inj q))]
/-- what stands at a number -/
theorem KvAt.find {H : Hp} {n : Int} {kvs : List (Key × V)} {es : List (Int × List Int)} (h : KvAt K H kvs es) {e : List Int} (hp : es.Pairwise fun a b => a.1 < b.1) (he : (n, e) ∈ es) : ∃ t, valV kvs (.inl n) = some (.ref t) ∧ SqT K H t (e.map V.int) := by
  induction h with
  | nil => cases he
  | @cons t m e0 kvs es hs r ih =>
    rw [List.pairwise_cons] at hp
    rcases List.mem_cons.mp he with z | he
    · cases z
      exact ⟨t, valV_pos rfl, hs⟩
    · obtain ⟨t', h1, h2⟩ := ih hp.2 he
      have := hp.1 _ he
      refine ⟨t', ?_, h2⟩
      rw [valV_neg (fun z => by have := Sum.inl.inj z; simp only at *; omega)]
      exact h1
theorem kept_uniq {es : List (Int × List Int)} (hp : es.Pairwise fun a b => a.1 < b.1) {n : Int} {e e2 : List Int} (h1 : (n, e) ∈ es) (h2 : (n, e2) ∈ es) : e = e2 := by
  induction es with
  | nil => cases h1
  | cons x es ih =>
    rw [List.pairwise_cons] at hp
    rcases List.mem_cons.mp h1 with z1 | z1
    · rcases List.mem_cons.mp h2 with z2 | z2
      · rw [← z1] at z2
        exact (congrArg Prod.snd z2).symm
      · have := hp.1 _ z2
        rw [← z1] at this
        exact absurd this (by simp)
    · rcases List.mem_cons.mp h2 with z2 | z2
      · have := hp.1 _ z1
        rw [← z2] at this
        exact absurd this (by simp)
      · exact ih hp.2 z1 z2
theorem ok_NoEntry_init (T : Tx w K mg base) : FnOk P w K mg base CX0 1 T.a_NoEntry_init T.d_NoEntry_init ["self", "many"] (spInit T.a_NoEntry "many") := by
  refine T.F_NoEntry_init.ok sc_NoEntry_init (fun vs H Q E h => ?_) (fun cdv A outer s H vs Q E hr h => ?_)
  · obtain ⟨a, n, rfl, _⟩ := h
    rfl
  · obtain ⟨a, n, rfl, h0, h1, ha, q⟩ := h
    refine ⟨_, pss_cons (ps_expr (pe_lkinit (by rfl) T.nl_NoEntry T.bi_NoEntry (pa_cons (pv 0) (pa_cons (pe_nf (pv 1)) pa_nil)))) (pss_cons (ps_put1 (pv 0) (pv 1)) pss_nil), ?_⟩
    refine ⟨.ref a, rfl, ?_⟩
    refine nf_run (i := 1) (n := n) h0 h1 (by decide) rfl fun x => ?_
    refine ⟨a, T.a_NoEntry, [.str x], rfl, by simp, T.O_NoEntry, ha, ?_⟩
    exact ⟨.int n, rfl, .ref a, rfl, a, T.a_NoEntry, rfl, T.O_NoEntry, T.no_NoEntry, ha, fun dx hd nd => q dx hd nd⟩
/-- what is raised where no such entry is -/
def XE (T : Tx w K mg base) (l : LogM) (E : XK) (H : Hp) : Prop := ∀ H2 dx, Ex H H2 → H2 dx = none → E (.ref T.a_NoEntry) (some dx) (upd H2 dx (.xd [("many", .int (l.kept.length : Int))]))
theorem XE.pre {T : Tx w K mg base} {l : LogM} {E : XK} {H H1 : Hp} (h : XE T l E H) (e : Ex H H1) : XE T l E H1 := fun H2 dx e2 n => h H2 dx (e.trans e2) n
/-- what a refusal raises -/
def BadX (T : Tx w K mg base) (l : LogM) (E : XK) (H : Hp) : Option Er → Prop
  | none => XE T l E H
  | some er => ∀ H2, Ex H H2 → E (.ref (er.cls T)) none H2
theorem BadX.pre {T : Tx w K mg base} {l : LogM} {E : XK} {H H1 : Hp} {x : Option Er} (h : BadX T l E H x) (e : Ex H H1) : BadX T l E H1 x := by
  cases x with
  | none => exact XE.pre h e
  | some er => exact fun H2 e2 => h H2 (e.trans e2)
/-- what a context evaluates first raises -/
theorem go_raises {te : TE} {C : TE → TS} {σ : L2.St} {H : Hp} {D : Ends} (h : ∀ H1 Q, Ex H H1 → te σ H1 Q) (hC : ∀ te D σ H, C te D σ H = te σ H fun v H1 => C (tVal v) D σ H1 := by intros; rfl) : Go (C te) D σ H := fun H1 e1 => by
  rw [hC]
  exact h H1 _ e1
def sp_Log_need_entry (T : Tx w K mg base) : Sp := fun vs H Q E => ∃ (p d : Addr) (l : LogM) (n : Int) (Hd : Hp), vs = [.ref p, .int n] ∧ LogAt K T.a_Log Hd H p d l ∧ (hasL l n = true → ∀ H2, Ex H H2 → Q .non H2) ∧ (hasL l n = false → XE T l E H)
theorem okX_Log_need_entry (T : Tx w K mg base) : FnOk P w K mg base (L2N.CX P w) 3 T.a_Log_need_entry T.d_Log_need_entry ["self", "number"] (sp_Log_need_entry T) := by
  refine okN T.F_Log_need_entry sc_Log_need_entry (fun vs H Q E h => ?_) (fun cdv A outer s H vs Q E hr h => ?_)
  · obtain ⟨p, d, l, n, Hd, rfl, _⟩ := h
    rfl
  · obtain ⟨p, d, l, n, Hd, rfl, L, good, bad⟩ := h
    have few := L.ok.few
    obtain ⟨⟨dx, h1⟩, ⟨kvs, h2, h3⟩, ok⟩ := L
    have cl := T.Q_Log
    have na := T.na_Log_kept
    refine ⟨_, (pss_cons (ps_if (pt_cmp (pc_dnotin (hu_of hr) (pv 1) (pe_fld (pv 0) rfl))) (pss_cons (L2N.ps_raise rfl (L2N.takes_of rfl rfl rfl rfl) (pmk_lk T.O_NoEntry T.i_NoEntry T.it_NoEntry (ok_NoEntry_init (P := P) (w := w) T) (hr.mono (by omega)) T.b_NoEntry_init .nil pass0 (by rfl) T.x_NoEntry.g (pa_cons (pe_callB (r := rLenK) call_lenK (by rfl) T.n_len PySem.boot_len (pa_cons (pe_fld (pv 0) rfl) pa_nil)) pa_nil)))
      pss_nil) pss_nil)
      pss_nil), Go.go ?_⟩
    refine go_when (b := !hasL l n) (et_is (et_test (ev_dnotin (k := .inl n) (ev_var rfl) (by walk_at "ev") h2)) (by rw [h3.val]; rfl)) (fun z => ?_) (fun z => go_next (good (by simpa using z)))
    intro H1 e1
    have hl := h3.len
    have k1 := e1 _ _ h1
    refine mkO_run (n := (l.kept.length : Int)) (by omega) (by omega) (ea_cons (ev_is (ev_lenK (by walk_at "ev") (e1 _ _ h2)) (by rw [hl])) ea_nil) fun H2 d e2 nd => bad (by simpa using z) H2 d (e1.trans e2) nd
section
variable {σ : L2.St} {H Hd : Hp} {ta : TE} {tr : TA} {E : XK} {p d : Addr} {l : LogM} {n : Int}
theorem ev_need_entry (T : Tx w K mg base) (ha : Ev ta σ H (.ref p)) (h : EvA tr σ H [.int n]) (L : LogAt K T.a_Log Hd H p d l) (hn : hasL l n = true) : Ev (tMeth T.a_Log "need_entry" (sp_Log_need_entry T) [] E ta tr) σ H .non := fun H1 e1 Q q =>
  ha H1 e1 _ fun H2 e2 => by
    obtain ⟨dx, h1⟩ := L.ob
    exact ⟨p, dx, _, rfl, (e1.trans e2) _ _ h1, rfl, h H2 (e1.trans e2) _ fun H3 e3 => ⟨p, d, l, n, Hd, rfl, L.mono (Ex.refl _) ((e1.trans e2).trans e3), fun _ H4 e4 => q H4 ((e2.trans e3).trans e4), fun z => by rw [hn] at z; cases z⟩⟩
theorem xe_need_entry (T : Tx w K mg base) {Q : VK} {H1 : Hp} (ha : Ev ta σ H (.ref p)) (h : EvA tr σ H [.int n]) (L : LogAt K T.a_Log Hd H p d l) (hn : hasL l n = false) (b : XE T l E H) (e1 : Ex H H1) : tMeth T.a_Log "need_entry" (sp_Log_need_entry T) [] E ta tr σ H1 Q :=
  ha H1 e1 _ fun H2 e2 => by
    obtain ⟨dx, h1⟩ := L.ob
    have e12 := e1.trans e2
    exact ⟨p, dx, _, rfl, e12 _ _ h1, rfl, h H2 e12 _ fun H3 e3 => ⟨p, d, l, n, Hd, rfl, L.mono (Ex.refl _) (e12.trans e3), fun z => by (rw [hn] at z; cases z), fun _ => b.pre (e12.trans e3)⟩⟩
end
def sp_Log_strike (T : Tx w K mg base) : Sp := fun vs H Q E => ∃ (p d : Addr) (l : LogM) (n : Int) (Hd : Hp), vs = [.ref p, .int n] ∧ LogAt K T.a_Log Hd H p d l ∧ Wld (tabsOf T) [p, d] Hd H ∧
  (hasL l n = true → ∀ H2, GrW (tabsOf T) [p, d] Hd H Hd H2 → LogAt K T.a_Log Hd H2 p d (strikeL l n) → Q .non H2) ∧ (hasL l n = false → XE T l E H)
theorem okX_Log_strike (T : Tx w K mg base) : FnOk P w K mg base (L2N.CX P w) 4 T.a_Log_strike T.d_Log_strike ["self", "number"] (sp_Log_strike T) := by
  refine okN T.F_Log_strike sc_Log_strike (fun vs H Q E h => ?_) (fun cdv A outer s H vs Q E hr h => ?_)
  · obtain ⟨p, d, l, n, Hd, rfl, _⟩ := h
    rfl
  · obtain ⟨p, d, l, n, Hd, rfl, L, W, good, bad⟩ := h
    have L0 := L
    obtain ⟨⟨dx, h1⟩, ⟨kvs, h2, h3⟩, ok⟩ := L
    have cl := T.Q_Log
    have na := T.na_Log_kept
    refine ⟨_, (pss_cons (ps_expr (pe_meth (pv 0) T.Q_Log T.m_Log_need_entry (okX_Log_need_entry (P := P) (w := w) T) (hr.mono (by omega)) T.b_Log_need_entry .nil (L2N.passes_call (L2N.takes_of rfl rfl rfl rfl) (fun _ _ _ _ h => h)) (pa_cons (pv 1) pa_nil)))
      (pss_cons (ps_ddel (pe_fld (pv 0) rfl) (pv 1))
      pss_nil)), Go.go ?_⟩
    cases hn : hasL l n with
    | false => exact go_raises (C := fun te => tSeq (tDrop te) _) fun H1 Q e1 => xe_need_entry T (ev_var rfl) (ea_cons (ev_var rfl) ea_nil) L0 hn (bad hn) e1
    | true =>
      have q := good hn
      refine go_drop (ev_need_entry T (ev_var rfl) (ea_cons (ev_var rfl) ea_nil) L0 hn) ?_
      refine go_ddel (k := .inl n) (by walk_at "ev") (ev_var rfl) h2 (by rw [h3.val]; exact hn) (go_next fun H3 e3 => ?_)
      have npd := L0.ne
      have m1 : H3 p = some (.ins T.a_Log dx (logF (strikeL l n) d)) := e3 _ _ (by rw [upd_ne npd]; exact h1)
      have m2 : H3 d = some (.dK (dropK kvs (.inl n))) := e3 _ _ upd_same
      refine q H3 (GrW.chg W (fun a ha => ha) (fun a o ha z => e3 _ _ ?_) (fun a ha => ?_) L0.nt) ⟨⟨dx, m1⟩, ⟨_, m2, h3.drop⟩, strikeL_ok ok⟩
      · rw [upd_ne fun e => z (by simp [e])]
        exact ha
      · rcases List.mem_cons.mp ha with rfl | ha
        · exact ⟨_, m1, noTb_ins⟩
        · rw [List.mem_singleton.mp ha]
          exact ⟨_, m2, noTb_dK⟩
def rightE (l : LogM) (n o : Int) : Option (Option Er) := if hasL l n = true then (if -2 ≤ o ∧ o < l.clock then none else some (some .hour)) else some none
def sp_Log_right (T : Tx w K mg base) : Sp := fun vs H Q E => ∃ (p d : Addr) (l : LogM) (n o : Int) (Hd : Hp), vs = [.ref p, .int n, .int o] ∧ LogAt K T.a_Log Hd H p d l ∧ Wld (tabsOf T) [p, d] Hd H ∧
  (rightE l n o = none → ∀ H2 Hn, GrW (tabsOf T) [p, d] Hd H Hn H2 → LogAt K T.a_Log Hn H2 p d (rightL l n o) → Q .non H2) ∧ (∀ x, rightE l n o = some x → BadX T l E H x)
theorem okX_Log_right (T : Tx w K mg base) : FnOk P w K mg base (L2N.CX P w) 4 T.a_Log_right T.d_Log_right ["self", "number", "one"] (sp_Log_right T) := by
  refine okN T.F_Log_right sc_Log_right (fun vs H Q E h => ?_) (fun cdv A outer s H vs Q E hr h => ?_)
  · obtain ⟨p, d, l, n, o, Hd, rfl, _⟩ := h
    rfl
  · obtain ⟨p, d, l, n, o, Hd, rfl, L, W, good, bad⟩ := h
    have cl := T.Q_Log
    have n1 := T.na_Log_clock
    have n4 := T.na_Log_kept
    have L0 := L
    obtain ⟨⟨dx, h1⟩, ⟨kvs, h2, h3⟩, ok⟩ := L
    have few := ok.few
    have hlk := h3.len
    refine ⟨_, (pss_cons (ps_expr (pe_meth (pv 0) T.Q_Log T.m_Log_need_entry (okX_Log_need_entry (P := P) (w := w) T) (hr.mono (by omega)) T.b_Log_need_entry .nil (L2N.passes_call (L2N.takes_of rfl rfl rfl rfl) (fun _ _ _ _ h => h)) (pa_cons (pv 1) pa_nil)))
      (pss_cons (ps_expr (pe_call (okX_need_what T) (hr.mono (by omega)) (by rfl) T.g_need_what T.F_need_what.kp T.b_need_what .nil (L2N.passes_call (L2N.takes_of rfl rfl rfl rfl) (fun _ _ _ _ h => h)) (pa_cons (pe_fld (pv 0) rfl) (pa_cons (pv 2) pa_nil))))
      (pss_cons (ps_asg (pe_dget (hu_of hr) (pe_fld (pv 0) rfl) (pv 1) (fun _ _ => rfl)) (pg_tup rfl (pgs_cons (pg_name (i := 3) sc_Log_right.nd rfl (.inl rfl)) (pgs_cons (pg_name (i := 4) sc_Log_right.nd rfl (.inl rfl)) (pgs_cons (pg_name (i := 5) sc_Log_right.nd rfl (.inl rfl)) (pgs_cons (pg_name (i := 6) sc_Log_right.nd rfl (.inl rfl)) pgs_nil))))))
      (pss_cons (ps_dput (hu_of hr) (pe_fld (pv 0) rfl) (pv 1) (pe_tup (pa_cons (pv 3) (pa_cons (pv 4) (pa_cons (pv 5) (pa_cons (pv 2) pa_nil))))) rfl)
      pss_nil)))), Go.go ?_⟩
    show Go _ _ [some (.ref p), some (.int n), some (.int o), none, none, none, none] H
    unfold rightE at good bad
    cases hn : hasL l n with
    | false =>
      rw [hn, if_neg (by decide)] at bad
      exact go_raises (C := fun te => tSeq (tDrop te) _) fun H1 Q e1 => xe_need_entry T (ev_var rfl) (ea_cons (ev_var rfl) ea_nil) L0 hn (bad none rfl) e1
    | true =>
    rw [hn, if_pos rfl] at bad good
    refine go_drop (ev_need_entry T (ev_var rfl) (ea_cons (ev_var rfl) ea_nil) L0 hn) ?_
    by_cases ho : -2 ≤ o ∧ o < l.clock
    · rw [if_pos ho] at good
      replace good := good rfl
      obtain ⟨e, he⟩ := kept_mem hn
      obtain ⟨te, hv, hte⟩ := h3.find ok.srt he
      obtain ⟨y, r, k, o', rfl, _⟩ := ok.ent _ he
      refine go_dropOk (K := K) (Hd := H) (d := .none) (ds := [.int l.clock, .int o]) (Ex.refl _) (eda_cons (ed_int (by walk_at "ev")) (eda_cons (ed_int (ev_var rfl)) eda_nil)) ⟨l.clock, o, rfl, rfl, ho⟩ fun v H3 Hn3 g3 _ => ?_
      have k1 := g3.ex _ _ h1
      have k2 := g3.ex _ _ h2
      have hte3 := ex_t (W.sub.trans g3.ex) hte
      refine go_unpV (K := K) (t := te) (vs := [.int y, .int r, .int k, .int o']) (n := 4) (js := [3, 4, 5, 6]) (ev_dgetI (k := .inl n) (by walk_at "ev") (ev_var rfl) k2 hv) hte3 rfl rfl rfl ?_
      show Go _ _ [some (.ref p), some (.int n), some (.int o), some (.int y), some (.int r), some (.int k), some (.int o')] H3
      refine go_dputN (k := .inl n) (xs := [.int y, .int r, .int k, .int o]) (by walk_at "ev") (ev_var rfl) (etn_tup (ea_cons (ev_var rfl) (ea_cons (ev_var rfl) (ea_cons (ev_var rfl) (ea_cons (ev_var rfl) ea_nil)))) (by simp)) k2 (by omega) fun t2 H4 e4 n2 kt => ?_
      have npd : p ≠ d := L0.ne
      have e5 : Ex H H4 := g3.ex.trans e4
      have t0 : H t2 = none := fresh_back g3.ex n2
      have td : t2 ≠ d := fun z => by rw [z, k2] at n2; cases n2
      have tp : t2 ≠ p := fun z => by rw [z, k1] at n2; cases n2
      have hany : (kvs.any fun kv => decide (kv.1 = .inl n)) = true := by rw [h3.any]; exact hn
      have hput : putK kvs (.inl n) (.ref t2) = kvs.map fun kv => if kv.1 = .inl n then (kv.1, .ref t2) else kv := if_pos hany
      refine go_next fun H6 e6 => ?_
      have m1 : H6 p = some (.ins T.a_Log dx (logF (rightL l n o) d)) := e6 _ _ (by rw [upd_ne npd]; exact e5 _ _ h1)
      have m2 : H6 d = some (.dK (kvs.map fun kv => if kv.1 = .inl n then (kv.1, .ref t2) else kv)) := e6 _ _ (by rw [upd_same, hput])
      have mt : H6 t2 = some (.tup [.int y, .int r, .int k, .int o]) := e6 _ _ (by rw [upd_ne td]; exact kt)
      have g6 : GrW (tabsOf T) [p, d] Hd H Hd H6 := by
        refine GrW.chg W (fun a ha => ha) (fun a ob ha z => e6 _ _ ?_) (fun a ha => ?_) L0.nt
        · rw [upd_ne (fun q => z (by simp [q]))]
          exact e5 _ _ ha
        · rcases List.mem_cons.mp ha with rfl | ha
          · exact ⟨_, m1, noTb_ins⟩
          · rw [List.mem_singleton.mp ha]
            exact ⟨_, m2, noTb_dK⟩
      have nd0 : Hd t2 = none := fresh_back W.sub t0
      have hs : SqT K (upd Hd t2 (.tup [.int y, .int r, .int k, .int o])) t2 (([y, r, k, o] : List Int).map V.int) := st_of upd_same
      have hk2 := (h3.mono (Ex.new nd0)).put hs (n := n)
      have ek : (l.kept.map fun x => if x.1 = n then (x.1, [y, r, k, o]) else x) = (rightL l n o).kept := by
        refine List.map_congr_left fun x hx => ?_
        by_cases z : x.1 = n
        · rw [if_pos z, if_pos z]
          have : x.2 = [y, r, k, o'] := kept_uniq ok.srt (by rw [← z] at he; exact hx) (by rw [← z] at he; exact he)
          rw [this]
          rfl
        · rw [if_neg z, if_neg z]
      rw [ek] at hk2
      exact good H6 _ (g6.keep (newAt_none t0) nd0 mt noTb_tup) ⟨⟨dx, m1⟩, ⟨_, m2, hk2⟩, rightL_ok ok ho⟩
    · rw [if_neg ho] at bad
      exact go_dropNo (K := K) (Hd := H) (C := T.a_BadHour) (ds := [.int l.clock, .int o]) (Ex.refl _) (eda_cons (ed_int (by walk_at "ev")) (eda_cons (ed_int (ev_var rfl)) eda_nil)) ⟨l.clock, o, rfl, rfl, ho⟩ (bad (some .hour) rfl)
abbrev LogsM := List (Str × LogM)
def getL (ls : LogsM) (n : Str) : Option LogM := (ls.find? fun e => decide (e.1 = n)).map (·.2)
def putL (ls : LogsM) (n : Str) (l : LogM) : LogsM := if (ls.any fun e => decide (e.1 = n)) = true then ls.map (fun e => if e.1 = n then (e.1, l) else e) else ls ++ [(n, l)]
def dropL (ls : LogsM) (n : Str) : LogsM := ls.filter fun e => !decide (e.1 = n)
inductive KvL (K : PySem.W.Frag) (C : Addr) (Hd : Hp) : List (Key × V) → LogsM → Prop
  | nil : KvL K C Hd [] []
  | cons {q d : Addr} {n : Str} {l : LogM} {kvs : List (Key × V)} {ls : LogsM} (h : LogAt K C Hd Hd q d l) (r : KvL K C Hd kvs ls) : KvL K C Hd ((.inr n, .ref q) :: kvs) ((n, l) :: ls)
def LogsAt (K : PySem.W.Frag) (C : Addr) (Hd : Hp) (p : Addr) (ls : LogsM) : Prop := ∃ o kvs, Hd p = some (.frz o (.dK kvs)) ∧ KvL K C Hd kvs ls
structure LsOk (ls : LogsM) : Prop where
  nd : (ls.map (·.1)).Nodup
  few : ls.length ≤ 8
section
variable {C : Addr} {Hd Hn : Hp} {n m : Str} {l : LogM}
theorem KvL.mono (e : Ex Hd Hn) : ∀ {kvs : List (Key × V)} {ls : LogsM}, KvL K C Hd kvs ls → KvL K C Hn kvs ls
  | _, _, .nil => .nil
  | _, _, .cons h r => .cons (h.mono e e) (r.mono e)
theorem KvL.len : ∀ {kvs : List (Key × V)} {ls : LogsM}, KvL K C Hd kvs ls → kvs.length = ls.length
  | _, _, .nil => rfl
  | _, _, .cons _ r => by rw [List.length_cons, List.length_cons, r.len]
theorem KvL.keys : ∀ {kvs : List (Key × V)} {ls : LogsM}, KvL K C Hd kvs ls → kvs.map (·.1) = ls.map fun e => .inr e.1
  | _, _, .nil => rfl
  | _, _, .cons _ r => by rw [List.map_cons, List.map_cons, r.keys]
theorem KvL.find : ∀ {kvs : List (Key × V)} {ls : LogsM}, KvL K C Hd kvs ls → (getL ls n = none ∧ valV kvs (.inr n) = none) ∨ ∃ l q d, getL ls n = some l ∧ valV kvs (.inr n) = some (.ref q) ∧ LogAt K C Hd Hd q d l
  | _, _, .nil => .inl ⟨rfl, rfl⟩
  | _, _, .cons (q := q) (d := d) (n := m) (l := l) (kvs := kvs) (ls := ls) h r => by
    by_cases e : m = n
    · refine .inr ⟨l, q, d, ?_, valV_pos (by rw [e]), h⟩
      unfold getL
      rw [List.find?_cons_of_pos (by simp [e])]
      rfl
    · have e1 : getL ((m, l) :: ls) n = getL ls n := by
        unfold getL
        rw [List.find?_cons_of_neg (by simp [e])]
      rw [e1, valV_neg (fun z => e (Sum.inr.inj z))]
      exact r.find
theorem KvL.any : ∀ {kvs : List (Key × V)} {ls : LogsM}, KvL K C Hd kvs ls → (kvs.any fun e => decide (e.1 = .inr n)) = ls.any fun e => decide (e.1 = n)
  | _, _, .nil => rfl
  | _, _, .cons (n := m) h r => by
    rw [List.any_cons, List.any_cons, r.any]
    congr 1
    rw [decide_eq_decide]
    exact ⟨fun z => Sum.inr.inj z, fun z => congrArg Sum.inr z⟩
theorem KvL.app {q d : Addr} (h : LogAt K C Hd Hd q d l) : ∀ {kvs : List (Key × V)} {ls : LogsM}, KvL K C Hd kvs ls → KvL K C Hd (kvs ++ [(.inr n, .ref q)]) (ls ++ [(n, l)])
  | _, _, .nil => .cons h .nil
  | _, _, .cons h1 r => .cons h1 (r.app h)
theorem KvL.chg {q d : Addr} (h : LogAt K C Hd Hd q d l) : ∀ {kvs : List (Key × V)} {ls : LogsM}, KvL K C Hd kvs ls → KvL K C Hd (kvs.map fun kv => if kv.1 = .inr n then (kv.1, .ref q) else kv) (ls.map fun e => if e.1 = n then (e.1, l) else e)
  | _, _, .nil => .nil
  | _, _, .cons (n := m) h1 r => by
    rw [List.map_cons, List.map_cons]
    by_cases e : m = n
    · rw [if_pos (by rw [e]), if_pos e]
      exact .cons h (r.chg h)
    · rw [if_neg (fun z => e (Sum.inr.inj z)), if_neg e]
      exact .cons h1 (r.chg h)
theorem KvL.put {q d : Addr} (h : LogAt K C Hd Hd q d l) {kvs : List (Key × V)} {ls : LogsM} (r : KvL K C Hd kvs ls) : KvL K C Hd (putK kvs (.inr n) (.ref q)) (putL ls n l) := by
  unfold putK putL
  rw [r.any]
  split
  · exact r.chg h
  · exact r.app h
theorem KvL.drop : ∀ {kvs : List (Key × V)} {ls : LogsM}, KvL K C Hd kvs ls → KvL K C Hd (kvs.filter fun e => !decide (e.1 = .inr n)) (dropL ls n)
  | _, _, .nil => .nil
  | _, _, .cons (n := m) (l := l) (ls := ls) h r => by
    by_cases e : m = n
    · rw [List.filter_cons_of_neg (by simp [e]), show dropL ((m, l) :: ls) n = dropL ls n from List.filter_cons_of_neg (by simp [e])]
      exact r.drop
    · rw [List.filter_cons_of_pos (by simp [e]), show dropL ((m, l) :: ls) n = (m, l) :: dropL ls n from List.filter_cons_of_pos (by simp [e])]
      exact .cons h r.drop
theorem LogsAt.mono {p : Addr} {ls : LogsM} (h : LogsAt K C Hd p ls) (e : Ex Hd Hn) : LogsAt K C Hn p ls := by
  obtain ⟨o, kvs, h1, h2⟩ := h
  exact ⟨o, kvs, e _ _ h1, h2.mono e⟩
theorem KvL.nd {kvs : List (Key × V)} {ls : LogsM} (r : KvL K C Hd kvs ls) (h : (ls.map (·.1)).Nodup) : (kvs.map (·.1)).Nodup := by
  rw [r.keys, show (ls.map fun e => (Sum.inr e.1 : Key)) = (ls.map (·.1)).map Sum.inr by rw [List.map_map]; rfl]
  exact List.pairwise_map.mpr (h.imp fun hne z => hne (Sum.inr.inj z))
/-- a log that was changed is stored for good -/
theorem LogAt.store {Tt : List (Addr × Str)} {H H2 : Hp} {p d : Addr} (L : LogAt K C Hn H2 p d l) (g : GrW Tt [] Hd H Hn H2) (f1 : NewAt H p) (f2 : NewAt H d) (n1 : Hn p = none) (n2 : Hn d = none) : ∃ Hs, GrW Tt [] Hd H Hs H2 ∧ Ex Hn Hs ∧ LogAt K C Hs Hs p d l ∧ ∀ a, Hn a = none → a ≠ p → a ≠ d → Hs a = none := by
  obtain ⟨⟨dx, h1⟩, ⟨kvs, h2, h3⟩, ok⟩ := L
  have pd : p ≠ d := fun z => by rw [z, h2] at h1; cases h1
  have g1 := g.keep f1 n1 h1 noTb_ins
  have n2' : (upd Hn p (.ins C dx (logF l d))) d = none := by rw [upd_ne pd.symm]; exact n2
  have g2 := g1.keep f2 n2' h2 noTb_dK
  have e : Ex Hn (upd (upd Hn p (.ins C dx (logF l d))) d (.dK kvs)) := (Ex.new n1).trans (Ex.new n2')
  exact ⟨_, g2, e, ⟨⟨dx, by rw [upd_ne pd, upd_same]⟩, ⟨kvs, upd_same, h3.mono e⟩, ok⟩, fun a na e1 e2 => by rw [upd_ne e2, upd_ne e1]; exact na⟩
end
inductive AtD
  | begin (n : Str) (c h w : Int)
  | tell (n : Str) (r k o y : Int)
  | right (n : Str) (m o : Int)
  | strike (n : Str) (m : Int)
  | drop (n : Str)
  | lay (n o : Str) (t l y : Int)
def AtD.vals : AtD → List V
  | .begin n c h w => [.str n, .int c, .int h, .int w]
  | .tell n r k o y => [.str n, .int r, .int k, .int o, .int y]
  | .right n m o => [.str n, .int m, .int o]
  | .strike n m => [.str n, .int m]
  | .drop n => [.str n]
  | .lay n o t l y => [.str n, .str o, .int t, .int l, .int y]
def AtD.ix : AtD → Nat
  | .begin _ _ _ _ => 0
  | .tell _ _ _ _ _ => 1
  | .right _ _ _ => 2
  | .strike _ _ => 3
  | .drop _ => 4
  | .lay _ _ _ _ _ => 5
/-- kinds of refusals of an atlas -/
inductive EA
  | er (e : Er)
  | name
  | taken
  | gone
  | unlike
def EA.cls (T : Tx w K mg base) : EA → Addr
  | .er e => e.cls T
  | .name => T.a_BadName
  | .taken => T.a_Taken
  | .gone => T.a_NoChart
  | .unlike => T.a_Unlike
def EA.word : EA → Str
  | .er e => e.word
  | .name => "name"
  | .taken => "taken"
  | .gone => "none"
  | .unlike => "unlike"
inductive ActR
  | ok (ls : LogsM) (told : V)
  | entry (many : Int)
  | no (e : EA)
/-- what an action that raises must have been asked for -/
def BadA (T : Tx w K mg base) (E : XK) (Hd H : Hp) : ActR → Prop
  | .ok _ _ => True
  | .entry m => ∀ H2 Hn dx, GrW (tabsOf T) [] Hd H Hn H2 → H2 dx = none → E (.ref T.a_NoEntry) (some dx) (upd H2 dx (.xd [("many", .int m)]))
  | .no e => ∀ H2 Hn, GrW (tabsOf T) [] Hd H Hn H2 → E (.ref (e.cls T)) none H2
theorem BadA.pre {T : Tx w K mg base} {E : XK} {Hd Hn H H1 : Hp} {r : ActR} (h : BadA T E Hd H r) (g : GrW (tabsOf T) [] Hd H Hn H1) : BadA T E Hn H1 r := by
  cases r with
  | ok _ _ => trivial
  | entry m => exact fun H2 Hm dx g2 n => h H2 Hm dx (g.trans g2) n
  | no x => exact fun H2 Hm g2 => h H2 Hm (g.trans g2)
theorem ev_dinF {σ : L2.St} {H : Hp} {ta tb : TE} {a : Addr} {o : Obj} {kvs : List (Key × V)} {k : Key} (hk : Ev ta σ H (kV k)) (ho : Ev tb σ H (.ref a)) (hd : H a = some (.frz o (.dK kvs))) : Ev (tDIn ta tb) σ H (.bl (valV kvs k).isSome) := fun H1 e1 Q q =>
  hk H1 e1 _ fun H2 e2 => ho H2 (e1.trans e2) _ fun H3 e3 => ⟨a, _, rfl, .inl ⟨kvs, k, .inr ⟨o, ((e1.trans e2).trans e3) _ _ hd⟩, rfl, rfl⟩, q H3 (e2.trans e3)⟩
def sp_log_of (T : Tx w K mg base) : Sp := fun vs H Q E => ∃ (p : Addr) (n : Str) (ls : LogsM) (Hd : Hp), vs = [.ref p, .str n] ∧ LogsAt K T.a_Log Hd p ls ∧ Ex Hd H ∧
  (∀ l q d, getL ls n = some l → LogAt K T.a_Log Hd Hd q d l → ∀ H2, Ex H H2 → Q (.ref q) H2) ∧ (getL ls n = none → ∀ H2, Ex H H2 → E (.ref T.a_NoChart) none H2)
theorem okX_log_of (T : Tx w K mg base) : FnOk P w K mg base (L2N.CX P w) 1 T.a_log_of T.d_log_of ["logs", "name"] (sp_log_of T) := by
  refine okN T.F_log_of sc_log_of (fun vs H Q E h => ?_) (fun cdv A outer s H vs Q E hr h => ?_)
  · obtain ⟨p, n, ls, Hd, rfl, _⟩ := h
    rfl
  · obtain ⟨p, n, ls, Hd, rfl, ⟨o, kvs, h1, h2⟩, sx, good, bad⟩ := h
    refine ⟨_, (pss_cons (ps_if (pt_cmp (pc_dnotin (hu_of hr) (pv 1) (pv 0))) (pss_cons (L2N.ps_raise rfl (L2N.takes_of rfl rfl rfl rfl) (T.X_NoChart.pmk (by rfl)))
      pss_nil) pss_nil)
      (pss_cons (ps_ret (pe_dget (hu_of hr) (pv 0) (pv 1) (fun _ _ => rfl)))
      pss_nil)), Go.go ?_⟩
    have h3 := sx _ _ h1
    rcases h2.find (n := n) with ⟨g1, g2⟩ | ⟨l, q, d, g1, g2, L⟩
    · refine go_whenT (et_is (et_test (ev_dnotinF (k := .inr n) (ev_var rfl) (ev_var rfl) h3)) (by rw [g2]; rfl)) ?_
      exact go_raise (bad g1)
    · refine go_whenF (et_is (et_test (ev_dnotinF (k := .inr n) (ev_var rfl) (ev_var rfl) h3)) (by rw [g2]; rfl)) ?_
      exact go_retV (ev_dgetF (k := .inr n) (ev_var rfl) (ev_var rfl) h3 g2) (good l q d g1 L)
/-- what an action promises: of the deeds that sel names -/
def spA (T : Tx w K mg base) (sel : AtD → Prop) (res : LogsM → AtD → ActR) : Sp := fun vs H Q E => ∃ (p t : Addr) (x : AtD) (ls : LogsM) (Hd : Hp), vs = [.ref p, .ref t] ∧ sel x ∧ LogsAt K T.a_Log Hd p ls ∧ Wld (tabsOf T) [] Hd H ∧ LsOk ls ∧ SqT K H t x.vals ∧
  (∀ ls' v, res ls x = .ok ls' v → ∀ r p' H2 Hn, GrW (tabsOf T) [] Hd H Hn H2 → LogsAt K T.a_Log Hn p' ls' → H2 r = some (.tup [.ref p', v]) → Q (.ref r) H2) ∧ BadA T E Hd H (res ls x)
section
variable {σ : L2.St} {Hd H : Hp} {ta : TE} {tr : TA} {E : XK} {M : List Addr} {p : Addr} {n : Str} {ls : LogsM}
theorem tx_log_of (T : Tx w K mg base) {Q : VK} (ha : EvA tr σ H [.ref p, .str n]) (h : LogsAt K T.a_Log Hd p ls) (s : Ex Hd H) (good : ∀ l q d, getL ls n = some l → LogAt K T.a_Log Hd Hd q d l → ∀ H2, Ex H H2 → Q (.ref q) H2) (bad : getL ls n = none → ∀ H2, Ex H H2 → E (.ref T.a_NoChart) none H2) : tCall (sp_log_of T) [] E tr σ H Q :=
  ha H (Ex.refl _) _ fun H1 e1 => ⟨p, n, ls, Hd, rfl, h, s.trans e1, fun l q d g L H2 e2 => good l q d g L H2 (e1.trans e2), fun g H2 e2 => bad g H2 (e1.trans e2)⟩
theorem ew_log_of (T : Tx w K mg base) {l : LogM} {M2 : List Addr} (W : Wld (tabsOf T) M2 Hd H) (ha : EvA tr σ H [.ref p, .str n]) (h : LogsAt K T.a_Log Hd p ls) (g : getL ls n = some l) : EvW (tabsOf T) M (tCall (sp_log_of T) [] E tr) σ Hd H (fun v Hn H2 => Hn = Hd ∧ ∃ q d, v = .ref q ∧ LogAt K T.a_Log Hd Hd q d l) := fun H1 e1 Q k =>
  tx_log_of T (ha.mono e1) h (W.sub.trans e1) (fun l' q d g' L' H2 e2 => by
    rw [g] at g'
    cases g'
    exact k _ H2 Hd (GrW.ext (W.ext e1) e2) ⟨rfl, q, d, rfl, L'⟩) fun z => by rw [g] at z; cases z
end
theorem noTb_frz {o : Obj} {u : HO} : NoTb (.frz o u) := fun ps z => by cases z
/-- a changed log, stored in new logs -/
theorem fin_put {C : Addr} {Tt : List (Addr × Str)} {Hd H Hm Hc H2 : Hp} {p2 d2 p : Addr} {l2 : LogM} {n : Str} {kvs : List (Key × V)} {ls : LogsM} {o : Obj} (g : GrW Tt [] Hd H Hm Hc) (L : LogAt K C Hm Hc p2 d2 l2) (f1 : NewAt H p2) (f2 : NewAt H d2) (n1 : Hm p2 = none) (n2 : Hm d2 = none)
    (h : KvL K C Hd kvs ls) (e : Ex Hc H2) (fp : Hc p = none) (hp : H2 p = some (.frz o (.dK (putK kvs (.inr n) (.ref p2))))) : ∃ Hn, GrW Tt [] Hd H Hn H2 ∧ LogsAt K C Hn p (putL ls n l2) := by
  have gc := g.post e
  obtain ⟨Hs, gs, es, Ls, out⟩ := (L.mono (Ex.refl _) e).store gc f1 f2 n1 n2
  have np : NewAt H p := (newAt_none fp).back g
  have nsp : Hs p = none := by
    obtain ⟨⟨dx, k1⟩, ⟨kv, k2, _⟩, _⟩ := L
    exact out p (fresh_back g.sub fp) (fun z => by rw [z, k1] at fp; cases fp) (fun z => by rw [z, k2] at fp; cases fp)
  have gk := gs.keep np nsp hp noTb_frz
  have ek : Ex Hs (upd Hs p (.frz o (.dK (putK kvs (.inr n) (.ref p2))))) := Ex.new nsp
  exact ⟨_, gk, o, _, upd_same, ((h.mono gs.dx).put Ls).mono ek⟩
/-- logs, told: a pair of new logs and a value -/
theorem go_retPair {σ : L2.St} {H : Hp} {te tv : TE} {tz : TS} {D : Ends} {v : V} {kvs : List (Key × V)} (h : EvDF te σ H kvs) (h2 : Ev tv σ H v) (k : ∀ r p o H2, Ex H H2 → H p = none → H2 p = some (.frz o (.dK kvs)) → H2 r = some (.tup [.ref p, v]) → D.rt (.ref r) H2) : Go (tSeq (tRet (tTup (tCons te (tCons tv tNil)))) tz) D σ H := fun H1 e1 =>
  h H1 e1 _ fun p o H2 e2 fp hp => h2 H2 (e1.trans e2) _ fun H3 e3 => ⟨by show 2 ≤ sizeLine; decide, fun r hr => by
    have eN : Ex H3 (upd H3 r (.tup [.ref p, v])) := Ex.new hr
    exact k r p o _ (((e1.trans e2).trans e3).trans eN) (fresh_back e1 fp) ((e3.trans eN) _ _ hp) upd_same⟩
def sp_Log_twin (T : Tx w K mg base) : Sp := fun vs H Q _ => ∃ (p d : Addr) (l : LogM) (Hd : Hp), vs = [.ref p] ∧ LogAt K T.a_Log Hd H p d l ∧ Wld (tabsOf T) [] Hd H ∧
  ∀ p2 d2 H2, H p2 = none → NewAt H d2 → GrW (tabsOf T) [] Hd H Hd H2 → LogAt K T.a_Log Hd H2 p2 d2 l → Q (.ref p2) H2
theorem newE_of {l : LogM} (L : LogOk l) : newE l.clock l.high l.wide = none := by
  unfold newE
  rw [if_pos L.clk, if_pos ⟨⟨L.h1, L.h9⟩, L.w1, L.w9⟩]
theorem okX_Log_twin (T : Tx w K mg base) : FnOk P w K mg base (L2N.CX P w) 7 T.a_Log_twin T.d_Log_twin ["self"] (sp_Log_twin T) := by
  refine okN T.F_Log_twin sc_Log_twin (fun vs H Q E h => ?_) (fun cdv A outer s H vs Q E hr h => ?_)
  · obtain ⟨p, d, l, Hd, rfl, _⟩ := h
    rfl
  · obtain ⟨p, d, l, Hd, rfl, L, W, q⟩ := h
    have cl := T.Q_Log
    have n1 := T.na_Log_clock
    have n2 := T.na_Log_high
    have n3 := T.na_Log_wide
    have n4 := T.na_Log_kept
    have n5 := T.na_Log_next_number
    have L0 := L
    obtain ⟨⟨dx, h1⟩, ⟨kvs, h2, h3⟩, ok⟩ := L
    refine ⟨_, (pss_cons (ps_set (i := 1) sc_Log_twin.nd rfl (.inl rfl) (pe_make T.M_Log (okX_Log_init (P := P) (w := w) T) (hr.mono (by omega)) (by rfl) T.x_Log.g T.b_Log_init .nil (L2N.passes_call (L2N.takes_of rfl rfl rfl rfl) (fun _ _ _ _ h => h)) (pa_cons (pe_fld (pv 0) rfl) (pa_cons (pe_fld (pv 0) rfl) (pa_cons (pe_fld (pv 0) rfl) pa_nil)))))
      (pss_cons (ps_fld (pv 1) (pe_callTy (r := rDictK) call_dictK (by rfl) T.n_dict (by decide +kernel) (pa_cons (pe_fld (pv 0) rfl) pa_nil)) rfl)
      (pss_cons (ps_fld (pv 1) (pe_fld (pv 0) rfl) rfl)
      (pss_cons (ps_ret (pv 1))
      pss_nil)))), Go.go ?_⟩
    show Go _ _ [some (.ref p), none] H
    refine go_asgE (ew_new T W (c := l.clock) (h := l.high) (ea_cons (by walk_at "ev") (ea_cons (by walk_at "ev") (ea_cons (by walk_at "ev") ea_nil))) (newE_of ok)) ?_
    rintro _ H1 Hn1 g1 ⟨e1, p2, d0, rfl, hp2, hd0, L2'⟩
    obtain rfl := e1.symm
    show Go _ _ [some (.ref p), some (.ref p2)] H1
    obtain ⟨⟨dx2, k1⟩, ⟨kv0, k2, _⟩, _⟩ := L2'
    have j1 := g1.ex _ _ h1 (by simp) noTb_ins
    have j2 := g1.ex _ _ h2 (by simp) noTb_dK
    have pp : p ≠ p2 := ne_of_none h1 hp2
    have dp : d ≠ p2 := ne_of_none h2 hp2
    refine go_fldCopy (K := K) (fun _ => ev_var rfl) (by walk_at "ev") j2 k1 cl n4 (by show 5 < 1000; decide) fun d2 H2 e2 nd2 hd2 hp2' => ?_
    have d2p2 : d2 ≠ p2 := fun z => by rw [z, k1] at nd2; cases nd2
    have j1' : (upd H2 p2 (.ins T.a_Log dx2 (putF "kept" (.ref d2) (logF (newL l.clock l.high l.wide) d0)))) p = some (.ins T.a_Log dx (logF l d)) := by
      rw [upd_ne pp]
      exact e2 _ _ j1
    refine go_fld (K := K) (ev_next (ev_var rfl) j1' cl n5) (ev_var rfl) upd_same cl n5 (by show 5 < 1000; decide) ?_
    refine go_retV (ev_var rfl) fun H3 e3 => ?_
    have m1 : H3 p2 = some (.ins T.a_Log dx2 (logF l d2)) := e3 _ _ upd_same
    have m2 : H3 d2 = some (.dK kvs) := e3 _ _ (by rw [upd_ne d2p2, upd_ne d2p2]; exact hd2)
    have f2 : Hd p2 = none := fresh_back W.sub hp2
    have W1 : Wld (tabsOf T) [p2] Hd H1 := ((W.step g1).nil).add f2 k1 noTb_ins
    have g2 : GrW (tabsOf T) [p2] Hd H1 Hd H3 := by
      refine GrW.chg W1 (fun a ha => ha) (fun a o ha z => e3 _ _ ?_) (fun a ha => ?_) (fun a ha => ?_)
      · have za : a ≠ p2 := fun q => z (by simp [q])
        rw [upd_ne za, upd_ne za]
        exact e2 _ _ ha
      · rw [List.mem_singleton.mp ha]
        exact ⟨_, m1, noTb_ins⟩
      · rw [List.mem_singleton.mp ha]
        exact ntb_ins k1
    have nH : NewAt H d2 := (newAt_none nd2).back g1
    exact q p2 d2 H3 hp2 nH (g1.drop g2 fun a ha => by rw [List.mem_singleton.mp ha]; exact newAt_none hp2) ⟨⟨dx2, m1⟩, ⟨kvs, m2, h3⟩, ok⟩
section
variable {σ : L2.St} {Hd H : Hp} {ta : TE} {tr : TA} {E : XK} {p d : Addr} {l : LogM}
theorem ew_twin (T : Tx w K mg base) {M : List Addr} (W : Wld (tabsOf T) M Hd H) (hp : Ev ta σ H (.ref p)) (L : LogAt K T.a_Log Hd H p d l) :
    EvW (tabsOf T) [] (tMeth T.a_Log "twin" (sp_Log_twin T) [] E ta tNil) σ Hd H (fun v Hn H2 => Hn = Hd ∧ ∃ p2 d2, v = .ref p2 ∧ H p2 = none ∧ NewAt H d2 ∧ LogAt K T.a_Log Hd H2 p2 d2 l) := fun H1 e1 Q q =>
  hp H1 e1 _ fun H2 e2 => by
    obtain ⟨dx, h1⟩ := L.ob
    have e12 := e1.trans e2
    exact ⟨p, dx, _, rfl, e12 _ _ h1, rfl, p, d, l, Hd, rfl, L.mono (Ex.refl _) e12, (W.ext e12).nil, fun p2 d2 H3 f1 f2 g L3 => q _ H3 Hd (g.pre e2) ⟨rfl, p2, d2, rfl, fresh_back e12 f1, f2.ext e12, L3⟩⟩
end
def tellR (ls : LogsM) : AtD → ActR
  | .tell n r k o y => match getL ls n with
    | none => .no .gone
    | some l => match addE l r k o y with
      | some e => .no (.er e)
      | none => .ok (putL ls n (addL l r k o y)) (.int l.next)
  | _ => .no .gone
section
variable {σ : L2.St} {Hd H : Hp} {tr : TA} {E : XK} {p : Addr} {n : Str} {ls : LogsM}
/-- changed = log_of(logs, name).twin() -/
theorem go_twin (T : Tx w K mg base) {i : Nat} {tz : TS} {D : Ends} (W : Wld (tabsOf T) [] Hd H) (ha : EvA tr σ H [.ref p, .str n]) (hls : LogsAt K T.a_Log Hd p ls) (bad : getL ls n = none → ∀ H2, Ex H H2 → E (.ref T.a_NoChart) none H2)
    (k : ∀ l p2 d2 H2, getL ls n = some l → NewAt H p2 → NewAt H d2 → Hd p2 = none → Hd d2 = none → GrW (tabsOf T) [] Hd H Hd H2 → Wld (tabsOf T) [p2, d2] Hd H2 → LogAt K T.a_Log Hd H2 p2 d2 l → Go tz D (σ.set i (some (.ref p2))) H2) :
    Go (tSeq (tAsg (tMeth T.a_Log "twin" (sp_Log_twin T) [] E (tCall (sp_log_of T) [] E tr) tNil) (gName i)) tz) D σ H := by
  cases hg : getL ls n with
  | none => exact go_raises (C := fun te => tSeq (tAsg (tMeth T.a_Log "twin" (sp_Log_twin T) [] E te tNil) (gName i)) tz) fun H1 Q e1 => tx_log_of T (ha.mono e1) hls (W.sub.trans e1) (fun l q d g => by rw [hg] at g; cases g) fun _ H2 e2 => bad hg H2 (e1.trans e2)
  | some l =>
    refine go_bind (C := fun te => tSeq (tAsg (tMeth T.a_Log "twin" (sp_Log_twin T) [] E te tNil) (gName i)) tz) (ew_log_of T (M := []) W ha hls hg) ?_
    rintro _ H1 Hn1 g1 ⟨e1, q, d, rfl, L⟩
    obtain rfl := e1.symm
    have W1 := W.step g1
    refine go_asgE (ew_twin T W1 ev_val (L.mono (Ex.refl _) W1.sub)) ?_
    rintro _ H2 Hn2 g2 ⟨e2, p2, d2, rfl, fp2, fd2, L2'⟩
    obtain rfl := e2.symm
    have np2 : NewAt H p2 := (newAt_none fp2).back g1
    have W2 := W1.step g2
    obtain ⟨⟨dx, k1⟩, ⟨kvs, k2, k3⟩, ok⟩ := id L2'
    have hd2 : Hd d2 = none := fd2.data W1.sub W1.nt
    have hp2 : Hd p2 = none := fresh_back W1.sub fp2
    have W2' : Wld (tabsOf T) [p2, d2] Hd H2 := (W2.nil.add hd2 k2 noTb_dK).add hp2 k1 noTb_ins
    exact k l p2 d2 H2 hg np2 (fd2.back g1) hp2 hd2 (g1.trans g2) W2' L2'
end
theorem tellR_none {ls : LogsM} {n : Str} {r k o y : Int} (h : getL ls n = none) : tellR ls (.tell n r k o y) = .no .gone := by simp only [tellR, h]
theorem tellR_no {ls : LogsM} {n : Str} {l : LogM} {r k o y : Int} {e : Er} (h : getL ls n = some l) (ha : addE l r k o y = some e) : tellR ls (.tell n r k o y) = .no (.er e) := by simp only [tellR, h, ha]
theorem tellR_ok {ls : LogsM} {n : Str} {l : LogM} {r k o y : Int} (h : getL ls n = some l) (ha : addE l r k o y = none) : tellR ls (.tell n r k o y) = .ok (putL ls n (addL l r k o y)) (.int l.next) := by simp only [tellR, h, ha]
theorem okX_tell_square (T : Tx w K mg base) : FnOk P w K mg base (L2N.CX P w) 8 T.a_tell_square T.d_tell_square ["logs", "things"] (spA T (fun x => x.ix = 1) tellR) := by
  refine okN T.F_tell_square sc_tell_square (fun vs H Q E h => ?_) (fun cdv A outer s H vs Q E hr h => ?_)
  · obtain ⟨p, t, x, ls, Hd, rfl, _⟩ := h
    rfl
  · obtain ⟨p, t, x, ls, Hd, rfl, hx, hls, W, ok, ht, good, bad⟩ := h
    cases x with
    | tell n r k o y =>
      refine ⟨_, (pss_cons (ps_asg (pv 1) (pg_tup rfl (pgs_cons (pg_name (i := 2) sc_tell_square.nd rfl (.inl rfl)) (pgs_cons (pg_name (i := 3) sc_tell_square.nd rfl (.inl rfl)) (pgs_cons (pg_name (i := 4) sc_tell_square.nd rfl (.inl rfl)) (pgs_cons (pg_name (i := 5) sc_tell_square.nd rfl (.inl rfl)) (pgs_cons (pg_name (i := 6) sc_tell_square.nd rfl (.inl rfl)) pgs_nil)))))))
      (pss_cons (ps_set (i := 7) sc_tell_square.nd rfl (.inl rfl) (pe_meth0 (pe_call (okX_log_of T) (hr.mono (by omega)) (by rfl) T.g_log_of T.F_log_of.kp T.b_log_of .nil (L2N.passes_call (L2N.takes_of rfl rfl rfl rfl) (fun _ _ _ _ h => h)) (pa_cons (pv 0) (pa_cons (pv 2) pa_nil))) T.Q_Log T.m_Log_twin (okX_Log_twin (P := P) (w := w) T) (hr.mono (by omega)) T.b_Log_twin .nil (L2N.passes_call (L2N.takes_of rfl rfl rfl rfl) (fun _ _ _ _ h => h))))
      (pss_cons (ps_set (i := 8) sc_tell_square.nd rfl (.inl rfl) (pe_meth (pv 7) T.Q_Log T.m_Log_add (okX_Log_add (P := P) (w := w) T) (hr.mono (by omega)) T.b_Log_add .nil (L2N.passes_call (L2N.takes_of rfl rfl rfl rfl) (fun _ _ _ _ h => h)) (pa_cons (pv 3) (pa_cons (pv 4) (pa_cons (pv 5) (pa_cons (pv 6) pa_nil))))))
      (pss_cons (ps_ret (pe_tup (pa_cons (pe_frz (pe_dstar (pv 0) (pv 2) (pv 7))) (pa_cons (pv 8) pa_nil))))
      pss_nil)))), Go.go ?_⟩
      refine go_unpV (K := K) (t := t) (vs := [.str n, .int r, .int k, .int o, .int y]) (n := 5) (js := [2, 3, 4, 5, 6]) (ev_var rfl) ht rfl rfl rfl ?_
      show Go _ _ [some (.ref p), some (.ref t), some (.str n), some (.int r), some (.int k), some (.int o), some (.int y), none, none] H
      refine go_twin T W (ea_cons (ev_var rfl) (ea_cons (ev_var rfl) ea_nil)) hls (fun g => by rw [tellR_none g] at bad; exact fun H2 e2 => bad H2 Hd (GrW.ext W e2)) fun l p2 d2 H2 hg f1 f2 hp2 hd2 g2 W2 L2' => ?_
      show Go _ _ [some (.ref p), some (.ref t), some (.str n), some (.int r), some (.int k), some (.int o), some (.int y), some (.ref p2), none] H2
      cases ha : addE l r k o y with
      | some e =>
        rw [tellR_no hg ha] at bad
        refine go_raises (C := fun te => tSeq (tAsg te (gName 8)) _) fun H3 Q e3 => tx_add T (W2.ext e3) (ev_var rfl) (L2'.mono (Ex.refl _) e3) (ea_cons (ev_var rfl) (ea_cons (ev_var rfl) (ea_cons (ev_var rfl) (ea_cons (ev_var rfl) ea_nil)))) rfl (fun z => by rw [ha] at z; cases z) fun er he H4 e4 => ?_
        rw [ha] at he
        cases he
        exact bad H4 Hd (g2.post (e3.trans e4))
      | none =>
        refine go_asgE (ew_add T W2 (ev_var rfl) L2' (ea_cons (ev_var rfl) (ea_cons (ev_var rfl) (ea_cons (ev_var rfl) (ea_cons (ev_var rfl) ea_nil)))) rfl ha) ?_
        rintro _ H3 Hn3 g3 ⟨rfl, L3⟩
        obtain ⟨o', kvs, h1, h2⟩ := id hls
        have gf := g2.drop g3 fun a ha => by
          rcases List.mem_cons.mp ha with rfl | ha
          · exact f1
          · rw [List.mem_singleton.mp ha]
            exact f2
        have W3 := W2.step g3
        have h3 := W3.sub _ _ (g3.dx _ _ (g2.dx _ _ h1))
        refine go_retPair (edf_star (ev_var rfl) (k := .inr n) (ev_var rfl) (ev_var rfl) (rd_frz h3) (h2.nd ok.nd) (by rw [h2.len]; have := ok.few; omega)) (ev_var rfl) fun r' p' o2 H4 e4 fp hp hr' => ?_
        obtain ⟨Hf, gF, lF⟩ := fin_put gf L3 f1 f2 (W3.mn p2 (by simp)).1 (W3.mn d2 (by simp)).1 h2 e4 fp hp
        exact good _ _ (tellR_ok hg ha) r' p' H4 Hf gF lF hr'
    | _ => cases hx
def rightR (ls : LogsM) : AtD → ActR
  | .right n m o => match getL ls n with
    | none => .no .gone
    | some l => match rightE l m o with
      | some none => .entry (l.kept.length : Int)
      | some (some e) => .no (.er e)
      | none => .ok (putL ls n (rightL l m o)) .non
  | _ => .no .gone
theorem rightR_none {ls : LogsM} {n : Str} {m o : Int} (h : getL ls n = none) : rightR ls (.right n m o) = .no .gone := by simp only [rightR, h]
theorem rightR_entry {ls : LogsM} {n : Str} {l : LogM} {m o : Int} (h : getL ls n = some l) (ha : rightE l m o = some none) : rightR ls (.right n m o) = .entry (l.kept.length : Int) := by simp only [rightR, h, ha]
theorem rightR_no {ls : LogsM} {n : Str} {l : LogM} {m o : Int} {e : Er} (h : getL ls n = some l) (ha : rightE l m o = some (some e)) : rightR ls (.right n m o) = .no (.er e) := by simp only [rightR, h, ha]
theorem rightR_ok {ls : LogsM} {n : Str} {l : LogM} {m o : Int} (h : getL ls n = some l) (ha : rightE l m o = none) : rightR ls (.right n m o) = .ok (putL ls n (rightL l m o)) .non := by simp only [rightR, h, ha]
section
variable {σ : L2.St} {Hd H : Hp} {ta : TE} {tr : TA} {E : XK} {p d : Addr} {l : LogM} {Q : VK}
theorem ty_right (T : Tx w K mg base) {n o : Int} (W : Wld (tabsOf T) [p, d] Hd H) (hp : Ev ta σ H (.ref p)) (L : LogAt K T.a_Log Hd H p d l) (ha : EvA tr σ H [.int n, .int o])
    (good : rightE l n o = none → ∀ H2 Hn, GrW (tabsOf T) [p, d] Hd H Hn H2 → LogAt K T.a_Log Hn H2 p d (rightL l n o) → Q .non H2) (bad : ∀ x, rightE l n o = some x → BadX T l E H x) : tMeth T.a_Log "right" (sp_Log_right T) [] E ta tr σ H Q :=
  hp H (Ex.refl _) _ fun H1 e1 => by
    obtain ⟨dx, h1⟩ := L.ob
    refine ⟨p, dx, _, rfl, e1 _ _ h1, rfl, ha H1 e1 _ fun H2 e2 => ?_⟩
    have e12 := e1.trans e2
    exact ⟨p, d, l, n, o, Hd, rfl, L.mono (Ex.refl _) e12, W.ext e12, fun e0 H3 Hn g L3 => good e0 H3 Hn (g.pre e12) L3, fun x hx => (bad x hx).pre e12⟩
theorem ty_strike (T : Tx w K mg base) {n : Int} (W : Wld (tabsOf T) [p, d] Hd H) (hp : Ev ta σ H (.ref p)) (L : LogAt K T.a_Log Hd H p d l) (ha : EvA tr σ H [.int n])
    (good : hasL l n = true → ∀ H2, GrW (tabsOf T) [p, d] Hd H Hd H2 → LogAt K T.a_Log Hd H2 p d (strikeL l n) → Q .non H2) (bad : hasL l n = false → XE T l E H) : tMeth T.a_Log "strike" (sp_Log_strike T) [] E ta tr σ H Q :=
  hp H (Ex.refl _) _ fun H1 e1 => by
    obtain ⟨dx, h1⟩ := L.ob
    refine ⟨p, dx, _, rfl, e1 _ _ h1, rfl, ha H1 e1 _ fun H2 e2 => ?_⟩
    have e12 := e1.trans e2
    exact ⟨p, d, l, n, Hd, rfl, L.mono (Ex.refl _) e12, W.ext e12, fun e0 H3 g L3 => good e0 H3 (g.pre e12) L3, fun z => (bad z).pre e12⟩
end
theorem okX_right_entry (T : Tx w K mg base) : FnOk P w K mg base (L2N.CX P w) 8 T.a_right_entry T.d_right_entry ["logs", "things"] (spA T (fun x => x.ix = 2) rightR) := by
  refine okN T.F_right_entry sc_right_entry (fun vs H Q E h => ?_) (fun cdv A outer s H vs Q E hr h => ?_)
  · obtain ⟨p, t, x, ls, Hd, rfl, _⟩ := h
    rfl
  · obtain ⟨p, t, x, ls, Hd, rfl, hx, hls, W, ok, ht, good, bad⟩ := h
    cases x with
    | right n m o =>
      refine ⟨_, (pss_cons (ps_asg (pv 1) (pg_tup rfl (pgs_cons (pg_name (i := 2) sc_right_entry.nd rfl (.inl rfl)) (pgs_cons (pg_name (i := 3) sc_right_entry.nd rfl (.inl rfl)) (pgs_cons (pg_name (i := 4) sc_right_entry.nd rfl (.inl rfl)) pgs_nil)))))
      (pss_cons (ps_set (i := 5) sc_right_entry.nd rfl (.inl rfl) (pe_meth0 (pe_call (okX_log_of T) (hr.mono (by omega)) (by rfl) T.g_log_of T.F_log_of.kp T.b_log_of .nil (L2N.passes_call (L2N.takes_of rfl rfl rfl rfl) (fun _ _ _ _ h => h)) (pa_cons (pv 0) (pa_cons (pv 2) pa_nil))) T.Q_Log T.m_Log_twin (okX_Log_twin (P := P) (w := w) T) (hr.mono (by omega)) T.b_Log_twin .nil (L2N.passes_call (L2N.takes_of rfl rfl rfl rfl) (fun _ _ _ _ h => h))))
      (pss_cons (ps_expr (pe_meth (pv 5) T.Q_Log T.m_Log_right (okX_Log_right (P := P) (w := w) T) (hr.mono (by omega)) T.b_Log_right .nil (L2N.passes_call (L2N.takes_of rfl rfl rfl rfl) (fun _ _ _ _ h => h)) (pa_cons (pv 3) (pa_cons (pv 4) pa_nil))))
      (pss_cons (ps_ret (pe_tup (pa_cons (pe_frz (pe_dstar (pv 0) (pv 2) (pv 5))) (pa_cons pe_non pa_nil))))
      pss_nil)))), Go.go ?_⟩
      refine go_unpV (K := K) (t := t) (vs := [.str n, .int m, .int o]) (n := 3) (js := [2, 3, 4]) (ev_var rfl) ht rfl rfl rfl ?_
      show Go _ _ [some (.ref p), some (.ref t), some (.str n), some (.int m), some (.int o), none] H
      refine go_twin T W (ea_cons (ev_var rfl) (ea_cons (ev_var rfl) ea_nil)) hls (fun g => by rw [rightR_none g] at bad; exact fun H2 e2 => bad H2 Hd (GrW.ext W e2)) fun l p2 d2 H2 hg f1 f2 hp2 hd2 g2 W2 L2' => ?_
      show Go _ _ [some (.ref p), some (.ref t), some (.str n), some (.int m), some (.int o), some (.ref p2)] H2
      have few := L2'.ok.few
      cases ha : rightE l m o with
      | some x =>
        refine go_raises (C := fun te => tSeq (tDrop te) _) fun H3 Q e3 => ty_right T (W2.ext e3) (ev_var rfl) (L2'.mono (Ex.refl _) e3) (ea_cons (ev_var rfl) (ea_cons (ev_var rfl) ea_nil)) (fun z => by rw [ha] at z; cases z) fun x' hx' => ?_
        rw [ha] at hx'
        cases hx'
        cases x with
        | none =>
          rw [rightR_entry hg ha] at bad
          exact fun H4 dx e4 hdx => bad H4 Hd dx (g2.post (e3.trans e4)) hdx
        | some e =>
          rw [rightR_no hg ha] at bad
          exact fun H4 e4 => bad H4 Hd (g2.post (e3.trans e4))
      | none =>
        refine go_dropE (P := fun v Hn H2 => LogAt K T.a_Log Hn H2 p2 d2 (rightL l m o)) (M := [p2, d2]) (fun H3 e3 Q q => ty_right T (W2.ext e3) (ev_var rfl) (L2'.mono (Ex.refl _) e3) (ea_cons (ev_var rfl) (ea_cons (ev_var rfl) ea_nil)) (fun _ H4 Hn g L4 => q _ H4 Hn g L4) fun x' hx' => by rw [ha] at hx'; cases hx') ?_
        intro _ H3 Hn3 g3 L3
        obtain ⟨o', kvs, h1, h2⟩ := id hls
        have gf := g2.drop g3 fun a ha => by
          rcases List.mem_cons.mp ha with rfl | ha
          · exact f1
          · rw [List.mem_singleton.mp ha]
            exact f2
        have W3 := W2.step g3
        have h3 := W3.sub _ _ (g3.dx _ _ (g2.dx _ _ h1))
        refine go_retPair (edf_star (ev_var rfl) (k := .inr n) (ev_var rfl) (ev_var rfl) (rd_frz h3) (h2.nd ok.nd) (by rw [h2.len]; have := ok.few; omega)) ev_c fun r' p' o2 H4 e4 fp hp hr' => ?_
        obtain ⟨Hf, gF, lF⟩ := fin_put gf L3 f1 f2 (W3.mn p2 (by simp)).1 (W3.mn d2 (by simp)).1 h2 e4 fp hp
        exact good _ _ (rightR_ok hg ha) r' p' H4 Hf gF lF hr'
    | _ => cases hx
def strikeR (ls : LogsM) : AtD → ActR
  | .strike n m => match getL ls n with
    | none => .no .gone
    | some l => match hasL l m with
      | false => .entry (l.kept.length : Int)
      | true => .ok (putL ls n (strikeL l m)) .non
  | _ => .no .gone
theorem strikeR_none {ls : LogsM} {n : Str} {m : Int} (h : getL ls n = none) : strikeR ls (.strike n m) = .no .gone := by simp only [strikeR, h]
theorem strikeR_entry {ls : LogsM} {n : Str} {l : LogM} {m : Int} (h : getL ls n = some l) (ha : hasL l m = false) : strikeR ls (.strike n m) = .entry (l.kept.length : Int) := by simp only [strikeR, h, ha]
theorem strikeR_ok {ls : LogsM} {n : Str} {l : LogM} {m : Int} (h : getL ls n = some l) (ha : hasL l m = true) : strikeR ls (.strike n m) = .ok (putL ls n (strikeL l m)) .non := by simp only [strikeR, h, ha]
theorem okX_strike_entry (T : Tx w K mg base) : FnOk P w K mg base (L2N.CX P w) 8 T.a_strike_entry T.d_strike_entry ["logs", "things"] (spA T (fun x => x.ix = 3) strikeR) := by
  refine okN T.F_strike_entry sc_strike_entry (fun vs H Q E h => ?_) (fun cdv A outer s H vs Q E hr h => ?_)
  · obtain ⟨p, t, x, ls, Hd, rfl, _⟩ := h
    rfl
  · obtain ⟨p, t, x, ls, Hd, rfl, hx, hls, W, ok, ht, good, bad⟩ := h
    cases x with
    | strike n m =>
      refine ⟨_, (pss_cons (ps_asg (pv 1) (pg_tup rfl (pgs_cons (pg_name (i := 2) sc_strike_entry.nd rfl (.inl rfl)) (pgs_cons (pg_name (i := 3) sc_strike_entry.nd rfl (.inl rfl)) pgs_nil))))
      (pss_cons (ps_set (i := 4) sc_strike_entry.nd rfl (.inl rfl) (pe_meth0 (pe_call (okX_log_of T) (hr.mono (by omega)) (by rfl) T.g_log_of T.F_log_of.kp T.b_log_of .nil (L2N.passes_call (L2N.takes_of rfl rfl rfl rfl) (fun _ _ _ _ h => h)) (pa_cons (pv 0) (pa_cons (pv 2) pa_nil))) T.Q_Log T.m_Log_twin (okX_Log_twin (P := P) (w := w) T) (hr.mono (by omega)) T.b_Log_twin .nil (L2N.passes_call (L2N.takes_of rfl rfl rfl rfl) (fun _ _ _ _ h => h))))
      (pss_cons (ps_expr (pe_meth (pv 4) T.Q_Log T.m_Log_strike (okX_Log_strike (P := P) (w := w) T) (hr.mono (by omega)) T.b_Log_strike .nil (L2N.passes_call (L2N.takes_of rfl rfl rfl rfl) (fun _ _ _ _ h => h)) (pa_cons (pv 3) pa_nil)))
      (pss_cons (ps_ret (pe_tup (pa_cons (pe_frz (pe_dstar (pv 0) (pv 2) (pv 4))) (pa_cons pe_non pa_nil))))
      pss_nil)))), Go.go ?_⟩
      refine go_unpV (K := K) (t := t) (vs := [.str n, .int m]) (n := 2) (js := [2, 3]) (ev_var rfl) ht rfl rfl rfl ?_
      show Go _ _ [some (.ref p), some (.ref t), some (.str n), some (.int m), none] H
      refine go_twin T W (ea_cons (ev_var rfl) (ea_cons (ev_var rfl) ea_nil)) hls (fun g => by rw [strikeR_none g] at bad; exact fun H2 e2 => bad H2 Hd (GrW.ext W e2)) fun l p2 d2 H2 hg f1 f2 hp2 hd2 g2 W2 L2' => ?_
      show Go _ _ [some (.ref p), some (.ref t), some (.str n), some (.int m), some (.ref p2)] H2
      cases ha : hasL l m with
      | false =>
        refine go_raises (C := fun te => tSeq (tDrop te) _) fun H3 Q e3 => ty_strike T (W2.ext e3) (ev_var rfl) (L2'.mono (Ex.refl _) e3) (ea_cons (ev_var rfl) ea_nil) (fun z => by rw [ha] at z; cases z) fun _ => ?_
        rw [strikeR_entry hg ha] at bad
        exact fun H4 dx e4 hdx => bad H4 Hd dx (g2.post (e3.trans e4)) hdx
      | true =>
        refine go_dropE (P := fun v Hn H2 => LogAt K T.a_Log Hn H2 p2 d2 (strikeL l m)) (M := [p2, d2]) (fun H3 e3 Q q => ty_strike T (W2.ext e3) (ev_var rfl) (L2'.mono (Ex.refl _) e3) (ea_cons (ev_var rfl) ea_nil) (fun _ H4 g L4 => q _ H4 _ g L4) fun z => by rw [ha] at z; cases z) ?_
        intro _ H3 Hn3 g3 L3
        obtain ⟨o', kvs, h1, h2⟩ := id hls
        have gf := g2.drop g3 fun a ha => by
          rcases List.mem_cons.mp ha with rfl | ha
          · exact f1
          · rw [List.mem_singleton.mp ha]
            exact f2
        have W3 := W2.step g3
        have h3 := W3.sub _ _ (g3.dx _ _ (g2.dx _ _ h1))
        refine go_retPair (edf_star (ev_var rfl) (k := .inr n) (ev_var rfl) (ev_var rfl) (rd_frz h3) (h2.nd ok.nd) (by rw [h2.len]; have := ok.few; omega)) ev_c fun r' p' o2 H4 e4 fp hp hr' => ?_
        obtain ⟨Hf, gF, lF⟩ := fin_put gf L3 f1 f2 (W3.mn p2 (by simp)).1 (W3.mn d2 (by simp)).1 h2 e4 fp hp
        exact good _ _ (strikeR_ok hg ha) r' p' H4 Hf gF lF hr'
    | _ => cases hx
theorem valV_mem {kvs : List (Key × V)} {k : Key} {v : V} (nd : (kvs.map (·.1)).Nodup) (h : (k, v) ∈ kvs) : valV kvs k = some v := by
  induction kvs with
  | nil => cases h
  | cons e kvs ih =>
    rw [List.map_cons, List.nodup_cons] at nd
    rcases List.mem_cons.mp h with rfl | h
    · exact valV_pos rfl
    · rw [valV_neg (fun z => nd.1 (List.mem_map.mpr ⟨_, h, z.symm⟩))]
      exact ih nd.2 h
theorem KvL.isr {C : Addr} {Hd : Hp} {k : Key} {v : V} : ∀ {kvs : List (Key × V)} {ls : LogsM}, KvL K C Hd kvs ls → (k, v) ∈ kvs → ∃ m, k = .inr m
  | _, _, .nil, h => by cases h
  | _, _, .cons _ r, h => by
    rcases List.mem_cons.mp h with h | h
    · cases h
      exact ⟨_, rfl⟩
    · exact r.isr h
def dropR (ls : LogsM) : AtD → ActR
  | .drop n => match getL ls n with
    | none => .no .gone
    | some _ => .ok (dropL ls n) .non
  | _ => .no .gone
theorem dropR_none {ls : LogsM} {n : Str} (h : getL ls n = none) : dropR ls (.drop n) = .no .gone := by simp only [dropR, h]
theorem dropR_ok {ls : LogsM} {n : Str} {l : LogM} (h : getL ls n = some l) : dropR ls (.drop n) = .ok (dropL ls n) .non := by simp only [dropR, h]
theorem okX_drop_chart (T : Tx w K mg base) : FnOk P w K mg base (L2N.CX P w) 2 T.a_drop_chart T.d_drop_chart ["logs", "things"] (spA T (fun x => x.ix = 4) dropR) := by
  refine okN T.F_drop_chart sc_drop_chart (fun vs H Q E h => ?_) (fun cdv A outer s H vs Q E hr h => ?_)
  · obtain ⟨p, t, x, ls, Hd, rfl, _⟩ := h
    rfl
  · obtain ⟨p, t, x, ls, Hd, rfl, hx, hls, W, ok, ht, good, bad⟩ := h
    cases x with
    | drop n =>
      refine ⟨_, (pss_cons (ps_set (i := 2) sc_drop_chart.nd rfl (.inr rfl) (pe_ix (r := rIxT K) ix_tup (pv 1) pe_int (fun _ _ => rfl)))
      (pss_cons (ps_expr (pe_call (okX_log_of T) (hr.mono (by omega)) (by rfl) T.g_log_of T.F_log_of.kp T.b_log_of .nil (L2N.passes_call (L2N.takes_of rfl rfl rfl rfl) (fun _ _ _ _ h => h)) (pa_cons (pv 0) (pa_cons (pv 2) pa_nil))))
      (pss_cons (ps_ret (pe_tup (pa_cons (pe_frz (pe_dc (own := [("other", 3)]) (g := (gName 3)) (by rfl) sc_drop_chart.nd (pi_keys (pv 0)) (blkOk_by (own := [("other", 3)]) (N := N_drop_chart) (sc := defScope s_drop_chart) (by decide +kernel)) (fun _ _ _ _ _ => (pg_name (i := 3) sc_drop_chart.nd rfl (.inl rfl) (hf := .inr rfl))) (fun _ _ _ _ _ => (pts_one (pt_cmpR op_ne (pv 3) (pv 2) (nomark _)))) (fun _ _ _ _ _ => (pv 3)) (fun _ _ _ _ _ => (pe_dget (hu_of hr) (pv 0) (pv 3) (fun _ _ => rfl))))) (pa_cons pe_non pa_nil))))
      pss_nil))), Go.go ?_⟩
      refine go_asg (v := .str n) (ev_op (ev_var rfl) ev_c (rv_ixT (K := K) ht rfl)) ?_
      show Go _ _ [some (.ref p), some (.ref t), some (.str n), none] H
      cases hg : getL ls n with
      | none =>
        rw [dropR_none hg] at bad
        exact go_raises (C := fun te => tSeq (tDrop te) _) fun H1 Q e1 => tx_log_of T (ea_cons (ev_var rfl) (ea_cons (ev_var rfl) ea_nil)) hls (W.sub.trans e1) (fun l q d g => by rw [hg] at g; cases g) fun _ H2 e2 => bad H2 Hd (GrW.ext W (e1.trans e2))
      | some l =>
        refine go_dropE (ew_log_of T (M := []) W (ea_cons (ev_var rfl) (ea_cons (ev_var rfl) ea_nil)) hls hg) ?_
        rintro _ H1 Hn1 g1 ⟨e1, _⟩
        obtain rfl := e1.symm
        obtain ⟨o', kvs, h1, h2⟩ := id hls
        have W1 := W.step g1
        have nd := h2.nd ok.nd
        have few : kvs.length ≤ 1000 := by rw [h2.len]; have := ok.few; omega
        refine go_retPair (kvs := kvs.filter fun e => !decide (e.1 = .inr n)) (fun H2 e2 Q q => edf_keep (K := K) (Hd := Hd) (o := o') (j := 3) (f := fun k => !decide (k = .inr n)) (ei_keysF (ev_var rfl) h1) nd few (fun k v σ2 Hn hm ex hs => ?_) H2 (W1.sub.trans e2) Q q) ev_c fun r' p' o2 H4 e4 fp hp hr' => ?_
        · subst hs
          obtain ⟨m, rfl⟩ := h2.isr hm
          refine ⟨rfl, et_is (et_test (ev_op (ev_var rfl) (ev_var rfl) (rv_ne rfl))) ?_, fun _ => ⟨ev_var rfl, ev_dgetF (k := .inr m) (ev_var rfl) (ev_var rfl) (ex _ _ h1) (valV_mem nd hm)⟩⟩
          show (!decide (V.str m = V.str n)) = !decide ((.inr m : Key) = .inr n)
          congr 1
          rw [decide_eq_decide, V.str.injEq, Sum.inr.injEq]
        · have g4 := g1.post e4
          have np : NewAt H p' := (newAt_none fp).back g1
          have nd' : Hd p' = none := fresh_back W1.sub fp
          have gk := g4.keep np nd' hp noTb_frz
          exact good _ _ (dropR_ok hg) r' p' H4 _ gk ⟨o2, _, upd_same, h2.drop.mono (Ex.new nd')⟩ hr'
    | _ => cases hx
abbrev lettersS : Str := "abcdefghijklmnopqrstuvwxyz"
abbrev figuresS : Str := "0123456789"
def isNameS (z : Str) : Bool := (decide (1 ≤ z.length) && decide (z.length ≤ 8)) && z.cps.toList.all fun k => decide (k ∈ lettersS.cps.toList)
def figsB (z : Str) : Bool := (decide (1 ≤ z.length) && decide (z.length ≤ 6)) && z.cps.toList.all fun k => decide (k ∈ figuresS.cps.toList)
def readNum (z : Str) : Option Int := if figsB z = true then (if decide (1 < z.length) && decide (z.cps.toList.head? = some 48) then none else some ((NumText.digitsVal z.cps.toList : Nat) : Int)) else none
def readWhat (z : Str) : Option Int := if z = "land" then some (-1) else if z = "sea" then some (-2) else readNum z
def whatT (n : Int) : Str := if n = -1 then "land" else if n = -2 then "sea" else Str.ofString (toString n)
def readT (k z : Str) : PyData := if k = "name" then (if isNameS z = true then .str z else .none) else if k = "what" then oD (readWhat z) else oD (readNum z)
def thingT (k : Str) : PyData → Str
  | .int n => if k = "what" then whatT n else Str.ofString (toString n)
  | .str z => z
  | _ => ""
theorem thingT_int (k : Str) (n : Int) : thingT k (.int n) = if k = "what" then whatT n else Str.ofString (toString n) := rfl
theorem len_int (z : Str) (k : Nat) (c : Int) (hc : c = (k : Int)) : decide ((1 : Int) ≤ (z.length : Int)) = decide (1 ≤ z.length) ∧ decide ((z.length : Int) ≤ c) = decide (z.length ≤ k) := by
  subst hc
  exact ⟨by rw [decide_eq_decide]; omega, by rw [decide_eq_decide]; omega⟩
def R_name (vs : List V) (v : V) : Prop := ∃ z : Str, vs = [.str z] ∧ z.length ≤ 30000 ∧ v = .bl (isNameS z)
theorem ok_is_name (T : Tx w K mg base) : FnOk P w K mg base CX0 1 T.a_is_name T.d_is_name ["word"] (spS R_name) := by
  refine T.F_is_name.ok sc_is_name (fun vs H Q E h => ?_) (fun cdv A outer s H vs Q E hr h => ?_)
  · obtain ⟨v, ⟨z, rfl, _⟩, q⟩ := h
    rfl
  · obtain ⟨v, ⟨z, rfl, hz, rfl⟩, q⟩ := h
    refine ⟨_, (pss_cons (ps_ret (pe_and (pe_chain op_le op_le pe_int (pe_callB (r := rLenX) call_lenX (by rfl) T.n_len PySem.boot_len (pa_cons (pv 0) pa_nil)) (pe_glob (v := .int (8)) rfl T.c_MOST_LETTERS ⟨_, rfl⟩)) (pe_one (pe_callB (r := rAll K) (cr_all rfl) (by rfl) T.n_all (by decide +kernel) (pa_cons (pe_lc (own := [("letter", 1)]) (g := (gName 1)) (by rfl) sc_is_name.nd (pi_str (pv 0)) (blkOk_by (own := [("letter", 1)]) (N := N_is_name) (sc := defScope s_is_name) (by decide +kernel)) (fun _ _ _ _ _ => (pg_name (i := 1) sc_is_name.nd rfl (.inl rfl) (hf := .inr rfl))) (fun _ _ _ _ _ => pts_nil) (fun _ _ _ _ _ => (pe_cmpR (r := rInSg) op_in_sign (pv 1) (pe_glob (v := .str "abcdefghijklmnopqrstuvwxyz") rfl T.c_LETTERS ⟨_, rfl⟩) (by rfl)))) pa_nil)))))
      pss_nil), Go.go ?_⟩
    refine go_retE (v := .bl (isNameS z)) (ev_andB (ev_chainB ev_c (ev_lenX (ev_var rfl) (by omega)) rv_I0 ev_c rv_I0) (ev_all (K := K) (ed_new (en_signs (f := fun k => decide (k ∈ lettersS.cps.toList)) (ev_var rfl) (by omega) ?_)))) ?_ q
    · rintro σ2 Hn k ex rfl
      exact ⟨rfl, ev_inSg (ev_var rfl) ev_c⟩
    · unfold isNameS
      rw [(len_int z 8 8 rfl).1, (len_int z 8 8 rfl).2, List.all_map]
      rfl
theorem zero_sg : ("0" : Str) = sg 48 := by decide +kernel
theorem figs_all : ∀ k ∈ figuresS.cps.toList, 48 ≤ k ∧ k ≤ 57 := by decide +kernel
def R_num (vs : List V) (v : V) : Prop := ∃ z : Str, vs = [.str z] ∧ z.length ≤ 30000 ∧ v = oV (readNum z)
theorem ok_read_number (T : Tx w K mg base) : FnOk P w K mg base CX0 1 T.a_read_number T.d_read_number ["word"] (spS R_num) := by
  refine T.F_read_number.ok sc_read_number (fun vs H Q E h => ?_) (fun cdv A outer s H vs Q E hr h => ?_)
  · obtain ⟨v, ⟨z, rfl, _⟩, q⟩ := h
    rfl
  · obtain ⟨v, ⟨z, rfl, hz, rfl⟩, q⟩ := h
    refine ⟨_, (pss_cons (ps_if (PW.pt (pw_or (pt_not (pt_chain op_le op_le pe_int (pe_callB (r := rLenX) call_lenX (by rfl) T.n_len PySem.boot_len (pa_cons (pv 0) pa_nil)) (pe_glob (v := .int (6)) rfl T.c_MOST_FIGURES ⟨_, rfl⟩))) (pw_or1 (pt_not (pt_val (pe_callB (r := rAll K) (cr_all rfl) (by rfl) T.n_all (by decide +kernel) (pa_cons (pe_lc (own := [("figure", 1)]) (g := (gName 1)) (by rfl) sc_read_number.nd (pi_str (pv 0)) (blkOk_by (own := [("figure", 1)]) (N := N_read_number) (sc := defScope s_read_number) (by decide +kernel)) (fun _ _ _ _ _ => (pg_name (i := 1) sc_read_number.nd rfl (.inl rfl) (hf := .inr rfl))) (fun _ _ _ _ _ => pts_nil) (fun _ _ _ _ _ => (pe_cmpR (r := rInSg) op_in_sign (pv 1) (pe_glob (v := .str "0123456789") rfl T.c_FIGURES ⟨_, rfl⟩) (by rfl)))) pa_nil))))))) (pss_cons (ps_ret pe_non)
      pss_nil) pss_nil)
      (pss_cons (ps_if (PW.pt (pw_and (pt_cmpR op_gt (pe_callB (r := rLenX) call_lenX (by rfl) T.n_len PySem.boot_len (pa_cons (pv 0) pa_nil)) pe_int (nomark _)) (pw_and1 (pt_cmpR op_eq (pe_ix (r := rIxS) ix_str (pv 0) pe_int (fun _ _ => rfl)) pe_str (nomark _))))) (pss_cons (ps_ret pe_non)
      pss_nil) pss_nil)
      (pss_cons (ps_ret (pe_callTy (r := rIntS) call_intS (by rfl) T.n_int (by decide +kernel) (pa_cons (pv 0) pa_nil)))
      pss_nil))), Go.go ?_⟩
    refine go_when (b := !figsB z) (et_is (et_orB (et_not (et_test (ev_chainB ev_c (ev_lenX (ev_var rfl) (by omega)) rv_I0 ev_c rv_I0))) (et_not (et_test (ev_all (K := K) (ed_new (en_signs (f := fun k => decide (k ∈ figuresS.cps.toList)) (ev_var rfl) (by omega) ?_)))))) ?_) (fun e => ?_) (fun e => ?_)
    · rintro σ2 Hn k ex rfl
      exact ⟨rfl, ev_inSg (ev_var rfl) ev_c⟩
    · unfold figsB
      rw [(len_int z 6 6 rfl).1, (len_int z 6 6 rfl).2, List.all_map, ← Bool.not_and]
      rfl
    · have e0 : figsB z = false := by simpa using e
      refine go_retE (v := oV (readNum z)) ev_c ?_ q
      unfold readNum
      rw [e0]
      rfl
    have e0 : figsB z = true := by simpa using e
    obtain ⟨⟨l1, l6⟩, ha⟩ : (1 ≤ z.length ∧ z.length ≤ 6) ∧ _ := by
      unfold figsB at e0
      rw [Bool.and_eq_true, Bool.and_eq_true, decide_eq_true_eq, decide_eq_true_eq] at e0
      exact e0
    have hlen : z.cps.toList.length = z.length := by simp [Str.length]
    obtain ⟨c0, cs, hcs⟩ : ∃ c cs, z.cps.toList = c :: cs := by
      cases h : z.cps.toList with
      | nil => rw [h] at hlen; simp at hlen; omega
      | cons c cs => exact ⟨c, cs, rfl⟩
    refine go_when (b := decide (1 < z.length) && decide (z.cps.toList.head? = some 48)) (et_is (et_andB (et_test (ev_op (ev_lenX (ev_var rfl) (by omega)) ev_c rv_I0)) (et_test (ev_op (ev_ixS (c := c0) (ev_var rfl) ev_c (by omega) (by rw [hcs]; exact atI_nat (j := 0) rfl)) ev_c (rv_eq rfl)))) ?_) (fun e2 => ?_) (fun e2 => ?_)
    · rw [hcs]
      congr 1
      · rw [decide_eq_decide]
        omega
      · rw [zero_sg, decide_eq_decide, V.str.injEq]
        constructor
        · intro h
          have := congrArg TL.tl h
          rw [List.head?_cons, List.singleton_inj.mp this]
        · intro h
          rw [Option.some.inj h]
    · refine go_retE (v := oV (readNum z)) ev_c ?_ q
      unfold readNum
      rw [if_pos e0, if_pos e2]
      rfl
    · have hi : intText? z = some ((NumText.digitsVal z.cps.toList : Nat) : Int) := intText_digits (x := z) (fun c hc => figs_all c (of_decide_eq_true (List.all_eq_true.mp ha c hc))) (by rw [hcs]; simp) (by omega)
      refine go_retE (v := oV (readNum z)) (ev_intS (ev_var rfl) hi (by omega)) ?_ q
      unfold readNum
      rw [if_pos e0, if_neg (by rw [e2]; decide)]
      rfl
def R_rwhat (vs : List V) (v : V) : Prop := ∃ z : Str, vs = [.str z] ∧ z.length ≤ 30000 ∧ v = oV (readWhat z)
theorem ok_read_what (T : Tx w K mg base) : FnOk P w K mg base CX0 2 T.a_read_what T.d_read_what ["word"] (spS R_rwhat) := by
  refine T.F_read_what.ok sc_read_what (fun vs H Q E h => ?_) (fun cdv A outer s H vs Q E hr h => ?_)
  · obtain ⟨v, ⟨z, rfl, _⟩, q⟩ := h
    rfl
  · obtain ⟨v, ⟨z, rfl, hz, rfl⟩, q⟩ := h
    refine ⟨_, (pss_cons (ps_if (pt_cmpR op_eq (pv 0) pe_str (nomark _)) (pss_cons (ps_ret (pe_glob (v := .int (-1)) rfl T.c_LAND ⟨_, rfl⟩))
      pss_nil) pss_nil)
      (pss_cons (ps_if (pt_cmpR op_eq (pv 0) pe_str (nomark _)) (pss_cons (ps_ret (pe_glob (v := .int (-2)) rfl T.c_UNTOLD ⟨_, rfl⟩))
      pss_nil) pss_nil)
      (pss_cons (ps_ret (pe_call (ok_read_number (P := P) (w := w) T) (hr.mono (by omega)) (by rfl) T.g_read_number T.F_read_number.kp T.b_read_number .nil pass0 (pa_cons (pv 0) pa_nil)))
      pss_nil))), Go.go ?_⟩
    refine go_when (b := decide (z = "land")) (et_is (by walk_at "et") (by rw [decide_eq_decide, V.str.injEq])) (fun e => ?_) (fun e => ?_)
    · exact go_retE (v := oV (readWhat z)) ev_c (by unfold readWhat; rw [if_pos (of_decide_eq_true e)]; rfl) q
    refine go_when (b := decide (z = "sea")) (et_is (by walk_at "et") (by rw [decide_eq_decide, V.str.injEq])) (fun e2 => ?_) (fun e2 => ?_)
    · exact go_retE (v := oV (readWhat z)) ev_c (by unfold readWhat; rw [if_neg (of_decide_eq_false e), if_pos (of_decide_eq_true e2)]; rfl) q
    exact go_retE (v := oV (readWhat z)) (ev_callS (ea_cons (ev_var rfl) ea_nil) ⟨z, rfl, hz, rfl⟩) (by unfold readWhat; rw [if_neg (of_decide_eq_false e), if_neg (of_decide_eq_false e2)]) q
def RReadT (ds : List PyData) (d : PyData) : Prop := ∃ k z : Str, ds = [.str k, .str z] ∧ z.length ≤ 30000 ∧ d = readT k z
theorem ok_read_thing (T : Tx w K mg base) : FnOk P w K mg base CX0 3 T.a_read_thing T.d_read_thing ["kind", "word"] (spF K RReadT) := by
  refine T.F_read_thing.ok sc_read_thing (fun vs H Q E h => ?_) (fun cdv A outer s H vs Q E hr h => ?_)
  · obtain ⟨Hd, ds, d, sx, hds, ⟨k, z, rfl, _⟩, q⟩ := h
    rw [dpa_len hds]
    rfl
  · obtain ⟨Hd, ds, d, sx, hds, ⟨k, z, rfl, hz, rfl⟩, q⟩ := h
    cases hds with
    | @cons v1 _ _ _ d1 h2 =>
    cases h2 with
    | @cons v2 _ _ _ d2 h3 =>
    cases h3
    cases d1
    cases d2
    have fin : ∀ {te : TE} {d : PyData} {σ : L2.St}, EvD K te σ Hd d → d = readT k z → ∀ {tz : TS} {D : Ends}, D.rt = Q → Go (tSeq (tRet te) tz) D σ H := fun {te d σ} h e {tz D} hD => go_ret sx (d := readT k z) (by rw [← e]; exact h) (by rw [hD]; exact q)
    refine ⟨_, (pss_cons (ps_if (pt_cmpR op_eq (pv 0) pe_str (nomark _)) (pss_cons (ps_ret (pe_ifExp (pt_val (pe_call (ok_is_name (P := P) (w := w) T) (hr.mono (by omega)) (by rfl) T.g_is_name T.F_is_name.kp T.b_is_name .nil pass0 (pa_cons (pv 1) pa_nil))) (pv 1) pe_non))
      pss_nil) pss_nil)
      (pss_cons (ps_if (pt_cmpR op_eq (pv 0) pe_str (nomark _)) (pss_cons (ps_ret (pe_call (ok_read_what (P := P) (w := w) T) (hr.mono (by omega)) (by rfl) T.g_read_what T.F_read_what.kp T.b_read_what .nil pass0 (pa_cons (pv 1) pa_nil)))
      pss_nil) pss_nil)
      (pss_cons (ps_ret (pe_call (ok_read_number (P := P) (w := w) T) (hr.mono (by omega)) (by rfl) T.g_read_number T.F_read_number.kp T.b_read_number .nil pass0 (pa_cons (pv 1) pa_nil)))
      pss_nil))), Go.go ?_⟩
    refine go_when (b := decide (k = "name")) (et_is (by walk_at "et") (by rw [decide_eq_decide, V.str.injEq])) (fun e => ?_) (fun e => ?_)
    · refine fin (D := _) (ed_if (c := isNameS z) (d := if isNameS z = true then .str z else .none) (et_test (ev_callS (ea_cons (ev_var rfl) ea_nil) ⟨z, rfl, hz, rfl⟩)) (fun e2 => by rw [if_pos e2]; exact ed_str (ev_var rfl)) (fun e2 => by rw [if_neg (by rw [e2]; decide)]; exact ed_non ev_c)) ?_ rfl
      unfold readT
      rw [if_pos (of_decide_eq_true e)]
    refine go_when (b := decide (k = "what")) (et_is (by walk_at "et") (by rw [decide_eq_decide, V.str.injEq])) (fun e2 => ?_) (fun e2 => ?_)
    · refine fin (ed_ev (v := oV (readWhat z)) (ev_callS (ea_cons (ev_var rfl) ea_nil) ⟨z, rfl, hz, rfl⟩) (ov_dp _)) ?_ rfl
      unfold readT
      rw [if_neg (of_decide_eq_false e), if_pos (of_decide_eq_true e2)]
    · refine fin (ed_ev (v := oV (readNum z)) (ev_callS (ea_cons (ev_var rfl) ea_nil) ⟨z, rfl, hz, rfl⟩) (ov_dp _)) ?_ rfl
      unfold readT
      rw [if_neg (of_decide_eq_false e), if_neg (of_decide_eq_false e2)]
theorem log2_40 {n : Int} (h0 : -2 ≤ n) (h : n < 10 ^ 40) : n.natAbs.log2 < 1920 := by
  have h1 : n.natAbs < 2 ^ 200 := by
    have : (10 : Int) ^ 40 < 2 ^ 200 := by decide
    omega
  by_cases z : n.natAbs = 0
  · rw [z]; decide
  · have := (Nat.log2_lt z).mpr h1
    omega
def readTs (ks ws : List Str) : PyData := if ws.length = ks.length then (if (List.zipWith readT ks ws).any (fun d => PyData.eqv d .none) = true then .none else .list (List.zipWith readT ks ws)) else .none
def RReadTs (ds : List PyData) (d : PyData) : Prop := ∃ ks ws : List Str, ds = [.tuple (ks.map .str), .list (ws.map .str)] ∧ ks.length ≤ 10 ∧ (∀ z ∈ ws, z.length ≤ 30000) ∧ d = readTs ks ws
theorem letters_all : ∀ k ∈ lettersS.cps.toList, 97 ≤ k ∧ k ≤ 122 := by decide +kernel
theorem name_ok {z : Str} (h : isNameS z = true) : PyData.strOk z = true := by
  unfold isNameS at h
  rw [Bool.and_eq_true] at h
  have h2 := List.all_eq_true.mp h.2
  unfold PyData.strOk
  rw [← Array.all_toList, List.all_eq_true]
  intro c hc
  have := letters_all c (of_decide_eq_true (h2 c hc))
  exact decide_eq_true (by omega)
theorem readT_ok (n : Nat) (k z : Str) : okE n (readT k z) := by
  unfold readT
  split
  · split
    · rename_i h
      cases n <;> exact name_ok h
    · cases n <;> trivial
  · split
    · cases readWhat z <;> cases n <;> trivial
    · cases readNum z <;> cases n <;> trivial
theorem readTs_ok (n : Nat) (ks ws : List Str) : okE (n + 1) (.list (List.zipWith readT ks ws)) := fun e he => by
  obtain ⟨i, hi, rfl⟩ := List.getElem_of_mem he
  rw [List.getElem_zipWith]
  exact readT_ok n _ _
theorem ok_read_things (T : Tx w K mg base) : FnOk P w K mg base CX0 4 T.a_read_things T.d_read_things ["kinds", "words"] (spF K RReadTs) := by
  refine T.F_read_things.ok sc_read_things (fun vs H Q E h => ?_) (fun cdv A outer s H vs Q E hr h => ?_)
  · obtain ⟨Hd, ds, d, sx, hds, ⟨ks, ws, rfl, _⟩, q⟩ := h
    rw [dpa_len hds]
    rfl
  · obtain ⟨Hd, ds, d, sx, hds, ⟨ks, ws, rfl, hk, hw, rfl⟩, q⟩ := h
    cases hds with
    | @cons v1 _ _ _ d1 h2 =>
    cases h2 with
    | @cons v2 _ _ _ d2 h3 =>
    cases h3
    refine ⟨_, (pss_cons (ps_if (pt_cmpR op_ne (pe_callB (r := rLenS K) call_lenQ (by rfl) T.n_len PySem.boot_len (pa_cons (pv 1) pa_nil)) (pe_callB (r := rLenS K) call_lenQ (by rfl) T.n_len PySem.boot_len (pa_cons (pv 0) pa_nil)) (nomark _)) (pss_cons (ps_ret pe_non)
      pss_nil) pss_nil)
      (pss_cons (ps_setLc (i := 2) (own := [("kind", 3), ("word", 4)]) (g := (gTup K 2 (gCons (gName 3) (gCons (gName 4) gNil)))) (by rfl) sc_read_things.nd rfl rfl (sw_true rfl rfl rfl (by decide +kernel)) (pi_zipTL (by rfl) T.n_zip (pa_cons (pv 0) (pa_cons (pv 1) pa_nil))) (blkOk_by (own := [("kind", 3), ("word", 4)]) (N := N_read_things) (sc := defScope s_read_things) (by decide +kernel)) (fun _ _ _ _ _ => (pg_tup rfl (pgs_cons (pg_name (i := 3) sc_read_things.nd rfl (.inl rfl) (hf := .inr rfl)) (pgs_cons (pg_name (i := 4) sc_read_things.nd rfl (.inl rfl) (hf := .inr rfl)) pgs_nil)))) (fun _ _ _ _ _ => pts_nil) (fun _ _ _ _ _ => (pe_call (ok_read_thing (P := P) (w := w) T) (hr.mono (by omega)) (by rfl) T.g_read_thing T.F_read_thing.kp T.b_read_thing .nil pass0 (pa_cons (pv 3) (pa_cons (pv 4) pa_nil)))))
      (pss_cons (ps_ret (pe_ifExp (pt_cmpR (r := rInD K) (op_inD (u65 hr)) pe_non (pv 2) (by rfl)) pe_non (pv 2)))
      pss_nil))), Go.go ?_⟩
    refine go_when (b := !decide (ws.length = ks.length)) (EvT.mono sx (et_is (et_test (ev_op (ev_lenL (K := K) (ed_var rfl d2)) (ev_lenT (K := K) (ed_var rfl d1)) (rv_ne rfl))) ?_)) (fun e => ?_) (fun e => ?_)
    · rw [List.length_map, List.length_map]
      congr 1
      rw [decide_eq_decide, V.int.injEq]
      omega
    · refine go_ret (K := K) sx (d := readTs ks ws) ?_ q
      unfold readTs
      rw [if_neg (by simpa using e)]
      exact ed_non ev_c
    have e : ws.length = ks.length := by simpa using e
    have ez : List.zipWith readT ks ws = givenD ks.length (fun _ => true) (fun i => readT ((ks[i]?).getD "") ((ws[i]?).getD "")) := by
      rw [givenD_all]
      apply List.ext_getElem
      · simp [e]
      · intro i h1 h2
        simp [e] at h1
        simp [h1, e]
    refine go_asgD (K := K) (d := .list (List.zipWith readT ks ws)) sx (ed_new ?_) fun v3 H3 D3 g3 h3 => ?_
    · rw [ez]
      have hn : (ks.map PyData.str).length = ks.length := List.length_map ..
      rw [← hn]
      refine en_lc (ei_zipTL (K := K) (eda_cons (ed_var rfl d1) (eda_cons (ed_var rfl d2) eda_nil)) (by simp [e])) (by omega) _ _ ?_
      rintro i σ2 Hn hi ex ⟨va, vb, da, db, hda, hdb, hva, hvb, rfl⟩
      have hda : (ks.map PyData.str)[i]? = some da := hda
      have hdb : (ws.map PyData.str)[i]? = some db := hdb
      rw [List.getElem?_map] at hda hdb
      obtain ⟨k, hk1, rfl⟩ := Option.map_eq_some_iff.mp hda
      obtain ⟨z, hz1, rfl⟩ := Option.map_eq_some_iff.mp hdb
      cases hva
      cases hvb
      refine ⟨rfl, et_yes, fun _ => ?_⟩
      rw [hk1, hz1]
      exact ed_call (eda_cons (ed_str (ev_var rfl)) (eda_cons (ed_str (ev_var rfl)) eda_nil)) ⟨k, z, rfl, hw z (List.mem_of_getElem? hz1), rfl⟩
    refine go_ret (K := K) g3.sub (d := readTs ks ws) (ed_if (c := (List.zipWith readT ks ws).any fun d => PyData.eqv d .none) (et_test (ev_inD (K := K) (d := .none) (ed_non ev_c) (ed_var rfl h3) (by decide) (okE_shaped (readTs_ok 0 ks ws) (by decide)))) (fun e2 => ?_) (fun e2 => ?_)) fun v H4 D4 g4 h4 => q v H4 D4 (g3.trans g4) h4
    · unfold readTs
      rw [if_pos e, if_pos e2]
      exact ed_non ev_c
    · unfold readTs
      rw [if_pos e, if_neg (by rw [e2]; decide)]
      exact ed_var rfl h3
def beginR (ls : LogsM) : AtD → ActR
  | .begin n c h wi => match isNameS n with
    | false => .no .name
    | true => match getL ls n with
      | some _ => .no .taken
      | none => match newE c h wi with
        | some e => .no (.er e)
        | none => match decide (8 ≤ ls.length) with
          | true => .no (.er .full)
          | false => .ok (putL ls n (newL c h wi)) .non
  | _ => .no .name
theorem beginR_name {ls : LogsM} {n : Str} {c h wi : Int} (h1 : isNameS n = false) : beginR ls (.begin n c h wi) = .no .name := by simp only [beginR, h1]
theorem beginR_taken {ls : LogsM} {n : Str} {c h wi : Int} {l : LogM} (h1 : isNameS n = true) (h2 : getL ls n = some l) : beginR ls (.begin n c h wi) = .no .taken := by simp only [beginR, h1, h2]
theorem beginR_no {ls : LogsM} {n : Str} {c h wi : Int} {e : Er} (h1 : isNameS n = true) (h2 : getL ls n = none) (h3 : newE c h wi = some e) : beginR ls (.begin n c h wi) = .no (.er e) := by simp only [beginR, h1, h2, h3]
theorem beginR_full {ls : LogsM} {n : Str} {c h wi : Int} (h1 : isNameS n = true) (h2 : getL ls n = none) (h3 : newE c h wi = none) (h4 : decide (8 ≤ ls.length) = true) : beginR ls (.begin n c h wi) = .no (.er .full) := by simp only [beginR, h1, h2, h3, h4]
theorem beginR_ok {ls : LogsM} {n : Str} {c h wi : Int} (h1 : isNameS n = true) (h2 : getL ls n = none) (h3 : newE c h wi = none) (h4 : decide (8 ≤ ls.length) = false) : beginR ls (.begin n c h wi) = .ok (putL ls n (newL c h wi)) .non := by simp only [beginR, h1, h2, h3, h4]
def selBegin (x : AtD) : Prop := ∃ n c h wi, x = .begin n c h wi ∧ n.length ≤ 30000
theorem okX_begin_chart (T : Tx w K mg base) : FnOk P w K mg base (L2N.CX P w) 7 T.a_begin_chart T.d_begin_chart ["logs", "things"] (spA T selBegin beginR) := by
  refine okN T.F_begin_chart sc_begin_chart (fun vs H Q E h => ?_) (fun cdv A outer s H vs Q E hr h => ?_)
  · obtain ⟨p, t, x, ls, Hd, rfl, _⟩ := h
    rfl
  · obtain ⟨p, t, x, ls, Hd, rfl, ⟨n, c, hh, wi, rfl, hn⟩, hls, W, ok, ht, good, bad⟩ := h
    refine ⟨_, (pss_cons (ps_asg (pv 1) (pg_tup rfl (pgs_cons (pg_name (i := 2) sc_begin_chart.nd rfl (.inl rfl)) (pgs_cons (pg_name (i := 3) sc_begin_chart.nd rfl (.inl rfl)) (pgs_cons (pg_name (i := 4) sc_begin_chart.nd rfl (.inl rfl)) (pgs_cons (pg_name (i := 5) sc_begin_chart.nd rfl (.inl rfl)) pgs_nil))))))
      (pss_cons (ps_if (pt_not (pt_val (pe_call (ok_is_name (P := P) (w := w) T) (hr.mono (by omega)) (by rfl) T.g_is_name T.F_is_name.kp T.b_is_name .nil pass0 (pa_cons (pv 2) pa_nil)))) (pss_cons (L2N.ps_raise rfl (L2N.takes_of rfl rfl rfl rfl) (T.X_BadName.pmk (by rfl)))
      pss_nil) pss_nil)
      (pss_cons (ps_if (pt_cmp (pc_din (hu_of hr) (pv 2) (pv 0))) (pss_cons (L2N.ps_raise rfl (L2N.takes_of rfl rfl rfl rfl) (T.X_Taken.pmk (by rfl)))
      pss_nil) pss_nil)
      (pss_cons (ps_set (i := 6) sc_begin_chart.nd rfl (.inl rfl) (pe_make T.M_Log (okX_Log_init (P := P) (w := w) T) (hr.mono (by omega)) (by rfl) T.x_Log.g T.b_Log_init .nil (L2N.passes_call (L2N.takes_of rfl rfl rfl rfl) (fun _ _ _ _ h => h)) (pa_cons (pv 3) (pa_cons (pv 4) (pa_cons (pv 5) pa_nil)))))
      (pss_cons (ps_if (pt_cmpR op_ge (pe_callB (r := rLenF) call_lenF (by rfl) T.n_len PySem.boot_len (pa_cons (pv 0) pa_nil)) (pe_glob (v := .int (8)) rfl T.c_MOST_CHARTS ⟨_, rfl⟩) (nomark _)) (pss_cons (L2N.ps_raise rfl (L2N.takes_of rfl rfl rfl rfl) (T.X_Full.pmk (by rfl)))
      pss_nil) pss_nil)
      (pss_cons (ps_ret (pe_tup (pa_cons (pe_frz (pe_dstar (pv 0) (pv 2) (pv 6))) (pa_cons pe_non pa_nil))))
      pss_nil)))))), Go.go ?_⟩
    refine go_unpV (K := K) (t := t) (vs := [.str n, .int c, .int hh, .int wi]) (n := 4) (js := [2, 3, 4, 5]) (ev_var rfl) ht rfl rfl rfl ?_
    show Go _ _ [some (.ref p), some (.ref t), some (.str n), some (.int c), some (.int hh), some (.int wi), none] H
    obtain ⟨o', kvs, h1, h2⟩ := id hls
    have h1H := W.sub _ _ h1
    refine go_when (b := !isNameS n) (et_not (et_B (ev_callS (R := R_name) (ea_cons (ev_var rfl) ea_nil) ⟨n, rfl, hn, rfl⟩))) (fun z => ?_) (fun z => ?_)
    · have z : isNameS n = false := by simpa using z
      rw [beginR_name z] at bad
      exact go_raise fun H2 e2 => bad H2 Hd (GrW.ext W e2)
    have z : isNameS n = true := by simpa using z
    rcases h2.find (n := n) with ⟨g1, g2⟩ | ⟨l, q, d, g1, g2, L⟩
    · refine go_whenF (et_is (et_test (ev_dinF (k := .inr n) (ev_var rfl) (ev_var rfl) h1H)) (by rw [g2]; rfl)) ?_
      cases he : newE c hh wi with
      | some e =>
        rw [beginR_no z g1 he] at bad
        refine go_raises (C := fun te => tSeq (tAsg te (gName 6)) _) fun H1 Q e1 => tx_new T (c := c) (h := hh) (W.ext e1) (ea_cons (ev_var rfl) (ea_cons (ev_var rfl) (ea_cons (ev_var rfl) ea_nil))) (fun y => by rw [he] at y; cases y) fun er he' H2 e2 => ?_
        rw [he] at he'
        cases he'
        exact bad H2 Hd (GrW.ext W (e1.trans e2))
      | none =>
        refine go_asgE (ew_new T W (c := c) (h := hh) (ea_cons (ev_var rfl) (ea_cons (ev_var rfl) (ea_cons (ev_var rfl) ea_nil))) he) ?_
        rintro _ H2 Hn2 g2' ⟨e2, p2, d2, rfl, f1, f2, L2'⟩
        obtain rfl := e2.symm
        have W2 := W.step g2'
        have h1c := W2.sub _ _ h1
        show Go _ _ [some (.ref p), some (.ref t), some (.str n), some (.int c), some (.int hh), some (.int wi), some (.ref p2)] H2
        refine go_when (b := decide (8 ≤ ls.length)) (et_is (et_test (ev_op (ev_lenF (ev_var rfl) h1c) ev_c rv_I0)) ?_) (fun y => ?_) (fun y => ?_)
        · rw [h2.len]
          show decide ((8 : Int) ≤ (ls.length : Int)) = _
          rw [decide_eq_decide]
          omega
        · rw [beginR_full z g1 he y] at bad
          exact go_raise fun H3 e3 => bad H3 Hd (g2'.post e3)
        · refine go_retPair (edf_star (ev_var rfl) (k := .inr n) (ev_var rfl) (ev_var rfl) (rd_frz h1c) (h2.nd ok.nd) (by rw [h2.len]; have := ok.few; omega)) ev_c fun r' p' o2 H4 e4 fp hp hr' => ?_
          obtain ⟨Hf, gF, lF⟩ := fin_put g2' L2' (newAt_none f1) (newAt_none f2) (fresh_back W.sub f1) (fresh_back W.sub f2) h2 e4 fp hp
          exact good _ _ (beginR_ok z g1 he y) r' p' H4 Hf gF lF hr'
    · rw [beginR_taken z g1] at bad
      refine go_whenT (et_is (et_test (ev_dinF (k := .inr n) (ev_var rfl) (ev_var rfl) h1H)) (by rw [g2]; rfl)) ?_
      exact go_raise fun H2 e2 => bad H2 Hd (GrW.ext W e2)
def goodC (m : Int) (c : Int) (rows : List (List Int)) : Prop := isClock c = true ∧ 1 ≤ rows.length ∧ (rows.length : Int) ≤ m ∧ ∃ w : Nat, 1 ≤ w ∧ (w : Int) ≤ m ∧ ∀ r ∈ rows, r.length = w ∧ ∀ x ∈ r, -2 ≤ x ∧ x < c
def wideOf (rows : List (List Int)) : Nat := (rows.headD []).length
structure Rect (rows : List (List Int)) : Prop where
  h1 : 1 ≤ rows.length
  h9 : rows.length ≤ 9
  w1 : 1 ≤ wideOf rows
  w9 : wideOf rows ≤ 9
  row : ∀ r ∈ rows, r.length = wideOf rows
theorem goodC_rect {m c : Int} {rows : List (List Int)} (g : goodC m c rows) (hm : m ≤ 9) : Rect rows := by
  obtain ⟨_, h1, h2, w, w1, w2, hr⟩ := g
  have hw : wideOf rows = w := by
    cases rows with
    | nil => simp at h1
    | cons r rs => exact (hr r List.mem_cons_self).1
  exact ⟨h1, by omega, by omega, by omega, fun r h => by rw [hw]; exact (hr r h).1⟩
theorem Rect.head {rows : List (List Int)} (R : Rect rows) : atI (rows.map dRow) 0 = some (dRow (rows.headD [])) := by
  have h := R.h1
  cases rows with
  | nil => simp at h
  | cons r rs => exact atI_nat (j := 0) rfl
theorem goodC_chart {m c : Int} {rows : List (List Int)} (g : goodC m c rows) (hm : m ≤ 9) : isChart c rows = true := by
  have R := goodC_rect g hm
  obtain ⟨h1, h2, h3, w, w1, w2, hr⟩ := g
  have r1 := R.h1
  have r9 := R.h9
  have a1 := R.w1
  have a9 := R.w9
  have ew : (rows.headD []).length = wideOf rows := rfl
  unfold isChart
  rw [h1, ew]
  simp only [Bool.true_and, Bool.and_eq_true, decide_eq_true_eq]
  refine ⟨⟨by omega, by omega⟩, ⟨by omega, by omega⟩, ?_⟩
  rw [List.all_eq_true]
  intro r hrm
  unfold isRow
  rw [Bool.and_eq_true, decide_eq_true_eq, List.all_eq_true]
  refine ⟨by rw [R.row r hrm], fun x hx => ?_⟩
  have := (hr r hrm).2 x hx
  simp only [Bool.and_eq_true, decide_eq_true_eq]
  exact this
def RNeed (ds : List PyData) (v : V) : Prop := ∃ c rows, ds = [dChart c rows] ∧ isChart c rows = true ∧ Rect rows ∧ v = .non
theorem ok_need_chart (T : Tx w K mg base) : FnOk P w K mg base CX0 4 T.a_need_chart T.d_need_chart ["chart"] (spD K RNeed) := by
  refine T.F_need_chart.ok sc_need_chart (fun vs H Q E h => ?_) (fun cdv A outer s H vs Q E hr h => ?_)
  · obtain ⟨ds, v, hds, ⟨c, rows, rfl, _⟩, q⟩ := h
    rw [dpa_len hds]
    rfl
  · obtain ⟨ds, v, hds, ⟨c, rows, rfl, hg, R, rfl⟩, q⟩ := h
    cases hds with
    | @cons v1 _ _ _ d1 h2 =>
    cases h2
    refine ⟨_, (pss_cons (ps_if (pt_not (pt_val (pe_call (ok_is_chart (P := P) (w := w) T) (hr.mono (by omega)) (by rfl) T.g_is_chart T.F_is_chart.kp T.b_is_chart .nil pass0 (pa_cons (pv 0) pa_nil)))) (pss_cons ps_never
      pss_nil) pss_nil)
      pss_nil), Go.go ?_⟩
    have h9 := R.h9
    refine go_whenF (et_is (et_not (et_B (ev_is_chart (eda_cons (ed_var rfl d1) eda_nil) (by omega) (fun r hr => by rw [R.row r hr]; have := R.w9; omega)))) (by rw [hg]; rfl)) (go_next fun H2 e2 => q H2 e2)
def RSize (ds : List PyData) (d : PyData) : Prop := ∃ c rows, ds = [dChart c rows] ∧ isChart c rows = true ∧ Rect rows ∧ d = .tuple [.int (rows.length : Int), .int (wideOf rows : Int)]
theorem ok_size (T : Tx w K mg base) : FnOk P w K mg base CX0 5 T.a_size T.d_size ["chart"] (spF K RSize) := by
  refine T.F_size.ok sc_size (fun vs H Q E h => ?_) (fun cdv A outer s H vs Q E hr h => ?_)
  · obtain ⟨Hd, ds, d, sx, hds, ⟨c, rows, rfl, _⟩, q⟩ := h
    rw [dpa_len hds]
    rfl
  · obtain ⟨Hd, ds, d, sx, hds, ⟨c, rows, rfl, hg, R, rfl⟩, q⟩ := h
    cases hds with
    | @cons v1 _ _ _ d1 h2 =>
    cases h2
    refine ⟨_, (pss_cons (ps_expr (pe_call (ok_need_chart (P := P) (w := w) T) (hr.mono (by omega)) (by rfl) T.g_need_chart T.F_need_chart.kp T.b_need_chart .nil pass0 (pa_cons (pv 0) pa_nil)))
      (pss_cons (ps_set (i := 1) sc_size.nd rfl (.inl rfl) (pe_ix (r := rIxT K) ix_tup (pv 0) pe_int (fun _ _ => rfl)))
      (pss_cons (ps_ret (pe_tup (pa_cons (pe_callB (r := rLenS K) call_lenQ (by rfl) T.n_len PySem.boot_len (pa_cons (pv 1) pa_nil)) (pa_cons (pe_callB (r := rLenS K) call_lenQ (by rfl) T.n_len PySem.boot_len (pa_cons (pe_ix (r := rIxT K) ix_tup (pv 1) pe_int (fun _ _ => rfl)) pa_nil)) pa_nil))))
      pss_nil))), Go.go ?_⟩
    refine go_drop (Ev.mono sx (ev_callD (eda_cons (ed_var rfl d1) eda_nil) ⟨c, rows, rfl, hg, R, rfl⟩)) ?_
    refine go_asgD (K := K) (d := .tuple (rows.map dRow)) sx (ed_ixT (ed_var rfl d1) ev_c rfl) fun v2 H2 D2 g2 h2 => ?_
    refine go_ret (K := K) g2.sub (ed_tup (eda_cons (ed_int (ev_is (ev_lenT (ed_var rfl h2)) (by rw [List.length_map]))) (eda_cons (ed_int (ev_is (ev_lenT (ed_ixT (ed_var rfl h2) ev_c R.head)) (by rw [List.length_map]; rfl))) eda_nil)) (by simp)) fun v H3 D3 g3 hv => q v H3 D3 (g2.trans g3) hv
structure GoodT (c : Int) (h w : Nat) (f : Nat → Nat → Int) : Prop where
  clk : isClock c = true
  h1 : 1 ≤ h
  h9 : h ≤ 9
  w1 : 1 ≤ w
  w9 : w ≤ 9
  inn : ∀ i j, i < h → j < w → -2 ≤ f i j ∧ f i j < c
theorem GoodT.gc {c : Int} {h w : Nat} {f : Nat → Nat → Int} (g : GoodT c h w f) : goodC 9 c (tab h w f) := by
  have h1 := g.h1
  have h9 := g.h9
  have w1 := g.w1
  have w9 := g.w9
  refine ⟨g.clk, by rw [tab_len]; exact h1, by rw [tab_len]; omega, w, w1, by omega, fun r hr => ?_⟩
  unfold tab at hr
  obtain ⟨i, hi, rfl⟩ := List.mem_map.mp hr
  refine ⟨row_len, fun x hx => ?_⟩
  unfold rowOf at hx
  obtain ⟨j, hj, rfl⟩ := List.mem_map.mp hx
  exact g.inn i j (List.mem_range.mp hi) (List.mem_range.mp hj)
theorem GoodT.of {c : Int} {rows : List (List Int)} (g : goodC 9 c rows) : ∃ h w f, rows = tab h w f ∧ GoodT c h w f := by
  obtain ⟨hc, h1, h9, w, w1, w9, hr⟩ := g
  refine ⟨rows.length, w, fun i j => (((rows[i]?).getD [])[j]?).getD 0, ?_, hc, h1, by omega, w1, by omega, fun i j hi hj => ?_⟩
  · apply List.ext_getElem?
    intro i
    by_cases hi : i < rows.length
    · rw [tab_get hi, List.getElem?_eq_getElem hi]
      congr 1
      have hl := (hr _ (List.getElem_mem hi)).1
      apply List.ext_getElem?
      intro j
      by_cases hj : j < w
      · rw [row_get hj, List.getElem?_eq_getElem (by omega)]
        simp [hi, hl, hj]
      · rw [List.getElem?_eq_none (by omega), List.getElem?_eq_none (by rw [row_len]; omega)]
    · rw [List.getElem?_eq_none (by omega), List.getElem?_eq_none (by rw [tab_len]; omega)]
  · have hl := hr _ (List.getElem_mem hi)
    have hj2 : j < (rows[i]).length := by omega
    have := hl.2 _ (List.getElem_mem hj2)
    simpa [hi, hj2] using this
theorem GoodT.rect {c : Int} {h w : Nat} {f : Nat → Nat → Int} (g : GoodT c h w f) : Rect (tab h w f) := goodC_rect g.gc (by decide)
theorem GoodT.chart {c : Int} {h w : Nat} {f : Nat → Nat → Int} (g : GoodT c h w f) : isChart c (tab h w f) = true := goodC_chart g.gc (by decide)
theorem GoodT.wide {c : Int} {h w : Nat} {f : Nat → Nat → Int} (g : GoodT c h w f) : wideOf (tab h w f) = w := by
  have h1 := g.h1
  have e : (tab h w f)[0]? = some (rowOf w (f 0)) := tab_get (by omega)
  unfold wideOf
  cases ht : tab h w f with
  | nil => rw [ht] at e; cases e
  | cons a b =>
    rw [ht] at e
    cases e
    exact row_len
theorem ev_needT {σ : L2.St} {Hd : Hp} {E : XK} {te : TE} {c : Int} {h w : Nat} {f : Nat → Nat → Int} (hd : EvD K te σ Hd (dChart c (tab h w f))) (g : GoodT c h w f) : Ev (tCall (spD K RNeed) [] E (tCons te tNil)) σ Hd .non := ev_callD (eda_cons hd eda_nil) ⟨c, _, rfl, g.chart, g.rect, rfl⟩
def laidF (t l n m : Nat) (g f : Nat → Nat → Int) : Nat → Nat → Int := fun i j => if (t ≤ i ∧ i < t + n) ∧ l ≤ j ∧ j < l + m then g (i - t) (j - l) else f i j
theorem GoodT.laid {c : Int} {h w t l n m : Nat} {f p : Nat → Nat → Int} (g : GoodT c h w f) (gp : GoodT c n m p) : GoodT c h w (laidF t l n m p f) := ⟨g.clk, g.h1, g.h9, g.w1, g.w9, fun i j hi hj => by
  unfold laidF
  split
  · exact gp.inn _ _ (by omega) (by omega)
  · exact g.inn i j hi hj⟩
def inW (h w : Nat) (t l n m : Int) : Bool := decide (1 ≤ n) && decide (1 ≤ m) && decide (0 ≤ t) && decide (0 ≤ l) && decide (t + n ≤ (h : Int)) && decide (l + m ≤ (w : Int))
theorem inW_iff {h w : Nat} {t l n m : Int} : inW h w t l n m = true ↔ (1 ≤ n ∧ 1 ≤ m ∧ 0 ≤ t ∧ 0 ≤ l ∧ t + n ≤ (h : Int) ∧ l + m ≤ (w : Int)) := by
  unfold inW
  simp only [Bool.and_eq_true, decide_eq_true_eq, and_assoc]
theorem inW_not {h w : Nat} {t l n m : Int} : (decide (n < 1) || (decide (m < 1) || (decide (t < 0) || (decide (l < 0) || (decide (t + n > (h : Int)) || decide (l + m > (w : Int))))))) = !inW h w t l n m := by
  cases e : inW h w t l n m with
  | true =>
    obtain ⟨a1, a2, a3, a4, a5, a6⟩ := inW_iff.mp e
    rw [decide_eq_false (show ¬ n < 1 by omega), decide_eq_false (show ¬ m < 1 by omega), decide_eq_false (show ¬ t < 0 by omega), decide_eq_false (show ¬ l < 0 by omega), decide_eq_false (show ¬ t + n > (h : Int) by omega), decide_eq_false (show ¬ l + m > (w : Int) by omega)]
    rfl
  | false =>
    have hn : ¬ (1 ≤ n ∧ 1 ≤ m ∧ 0 ≤ t ∧ 0 ≤ l ∧ t + n ≤ (h : Int) ∧ l + m ≤ (w : Int)) := fun z => by
      rw [inW_iff.mpr z] at e
      cases e
    have : n < 1 ∨ m < 1 ∨ t < 0 ∨ l < 0 ∨ t + n > (h : Int) ∨ l + m > (w : Int) := by omega
    rcases this with z | z | z | z | z | z <;> simp [z]
def RXW (ds : List PyData) (d : PyData) : Prop := ∃ c h w f t l n m, ds = [dChart c (tab h w f), .int t, .int l, .int n, .int m] ∧ GoodT c h w f ∧ inW h w t l n m = true ∧ d = .none
def XXW (T : Tx w K mg base) (ds : List PyData) (C : Addr) : Prop := ∃ c h w f t l n m, ds = [dChart c (tab h w f), .int t, .int l, .int n, .int m] ∧ GoodT c h w f ∧ inW h w t l n m = false ∧ C = T.a_BadSquare
theorem okX_need_within (T : Tx w K mg base) : FnOk P w K mg base (L2N.CX P w) 6 T.a_need_within T.d_need_within ["chart", "top", "left", "high", "wide"] (spX K RXW (XXW T)) := by
  refine okN T.F_need_within sc_need_within (fun vs H Q E h => ?_) (fun cdv A outer s H vs Q E hr h => ?_)
  · obtain ⟨Hd, ds, e, hd, ⟨d, ⟨c, hh, ww, f, t, l, n, m, rfl, _⟩, _⟩ | ⟨C, ⟨c, hh, ww, f, t, l, n, m, rfl, _⟩, _⟩⟩ := h <;> exact dpa_len hd
  · obtain ⟨Hd, ds, e, hd, h⟩ := h
    have key : ∃ c hh ww f t l n m, ds = [dChart c (tab hh ww f), .int t, .int l, .int n, .int m] ∧ GoodT c hh ww f ∧ (inW hh ww t l n m = true → ∀ H2, Ex H H2 → Q .non H2) ∧ (inW hh ww t l n m = false → ∀ H2, Ex H H2 → E (.ref T.a_BadSquare) none H2) := by
      rcases h with ⟨d, ⟨c, hh, ww, f, t, l, n, m, rfl, g, hi, rfl⟩, q⟩ | ⟨C, ⟨c, hh, ww, f, t, l, n, m, rfl, g, hi, rfl⟩, q⟩
      · exact ⟨c, hh, ww, f, t, l, n, m, rfl, g, fun _ H2 e2 => q .non H2 Hd (Gr.ext e e2) .non, fun z => absurd (hi.symm.trans z) (by decide)⟩
      · exact ⟨c, hh, ww, f, t, l, n, m, rfl, g, fun z => absurd (hi.symm.trans z) (by decide), fun _ => q⟩
    obtain ⟨c, hh, ww, f, t, l, n, m, rfl, g, good, bad⟩ := key
    cases hd with
    | @cons v1 _ _ _ d1 h2 =>
    have ei := dpa_ints_inv (ns := [t, l, n, m]) h2
    subst ei
    refine ⟨_, (pss_cons (ps_asg (pe_call (ok_size (P := P) (w := w) T) (hr.mono (by omega)) (by rfl) T.g_size T.F_size.kp T.b_size .nil pass0 (pa_cons (pv 0) pa_nil)) (pg_tup rfl (pgs_cons (pg_name (i := 5) sc_need_within.nd rfl (.inl rfl)) (pgs_cons (pg_name (i := 6) sc_need_within.nd rfl (.inl rfl)) pgs_nil))))
      (pss_cons (ps_if (PW.pt (pw_or (pt_cmpR op_lt (pv 3) pe_int (nomark _)) (pw_or (pt_cmpR op_lt (pv 4) pe_int (nomark _)) (pw_or (pt_cmpR op_lt (pv 1) pe_int (nomark _)) (pw_or (pt_cmpR op_lt (pv 2) pe_int (nomark _)) (pw_or (pt_cmpR op_gt (pe_op op_add (pv 1) (pv 3)) (pv 5) (nomark _)) (pw_or1 (pt_cmpR op_gt (pe_op op_add (pv 2) (pv 4)) (pv 6) (nomark _))))))))) (pss_cons (L2N.ps_raise rfl (L2N.takes_of rfl rfl rfl rfl) (T.X_BadSquare.pmk (by rfl)))
      pss_nil) pss_nil)
      pss_nil)), Go.go ?_⟩
    refine go_two (K := K) e (ed_call (eda_cons (ed_var rfl d1) eda_nil) ⟨c, _, rfl, g.chart, g.rect, rfl⟩) fun u1 u2 H1 D1 g1 k1 k2 => ?_
    rw [tab_len] at k1
    rw [g.wide] at k2
    cases k1
    cases k2
    cases hi : inW hh ww t l n m with
    | true => exact go_whenF (et_is (by walk_at "et") (by rw [inW_not, hi]; rfl)) (go_next fun H2 e2 => good hi H2 (g1.ex.trans e2))
    | false => exact go_whenT (et_is (by walk_at "et") (by rw [inW_not, hi]; rfl)) (go_raise fun H3 e3 => bad hi H3 (g1.ex.trans e3))
def RXF (ds : List PyData) (d : PyData) : Prop := ∃ (c : Int) (h w : Nat) (f : Nat → Nat → Int) (n m : Nat) (g : Nat → Nat → Int) (t l : Int), ds = [dChart c (tab h w f), dChart c (tab n m g), .int t, .int l] ∧ GoodT c h w f ∧ GoodT c n m g ∧ inW h w t l n m = true ∧ d = .none
def XXF (T : Tx w K mg base) (ds : List PyData) (C : Addr) : Prop := ∃ (c c' : Int) (h w : Nat) (f : Nat → Nat → Int) (n m : Nat) (g : Nat → Nat → Int) (t l : Int), ds = [dChart c (tab h w f), dChart c' (tab n m g), .int t, .int l] ∧ GoodT c h w f ∧ GoodT c' n m g ∧ ((c ≠ c' ∧ C = T.a_Unlike) ∨ (c = c' ∧ inW h w t l n m = false ∧ C = T.a_BadSquare))
theorem okX_need_fit (T : Tx w K mg base) : FnOk P w K mg base (L2N.CX P w) 7 T.a_need_fit T.d_need_fit ["chart", "patch", "top", "left"] (spX K RXF (XXF T)) := by
  refine okN T.F_need_fit sc_need_fit (fun vs H Q E h => ?_) (fun cdv A outer s H vs Q E hr h => ?_)
  · obtain ⟨Hd, ds, e, hd, ⟨d, ⟨c, hh, ww, f, n, m, g, t, l, rfl, _⟩, _⟩ | ⟨C, ⟨c, c', hh, ww, f, n, m, g, t, l, rfl, _⟩, _⟩⟩ := h <;> exact dpa_len hd
  · obtain ⟨Hd, ds, e, hd, h⟩ := h
    have key : ∃ (c c' : Int) (hh ww : Nat) (f : Nat → Nat → Int) (n m : Nat) (g : Nat → Nat → Int) (t l : Int), ds = [dChart c (tab hh ww f), dChart c' (tab n m g), .int t, .int l] ∧ GoodT c hh ww f ∧ GoodT c' n m g ∧ (c = c' → inW hh ww t l n m = true → ∀ H2, Ex H H2 → Q .non H2) ∧ (c ≠ c' → ∀ H2, Ex H H2 → E (.ref T.a_Unlike) none H2) ∧ (c = c' → inW hh ww t l n m = false → ∀ H2, Ex H H2 → E (.ref T.a_BadSquare) none H2) := by
      rcases h with ⟨d, ⟨c, hh, ww, f, n, m, g, t, l, rfl, gf, gg, hi, rfl⟩, q⟩ | ⟨C, ⟨c, c', hh, ww, f, n, m, g, t, l, rfl, gf, gg, ⟨hne, rfl⟩ | ⟨heq, hi, rfl⟩⟩, q⟩
      · exact ⟨c, c, hh, ww, f, n, m, g, t, l, rfl, gf, gg, fun _ _ H2 e2 => q .non H2 Hd (Gr.ext e e2) .non, fun z => absurd rfl z, fun _ z => absurd (hi.symm.trans z) (by decide)⟩
      · exact ⟨c, c', hh, ww, f, n, m, g, t, l, rfl, gf, gg, fun z => absurd z hne, fun _ => q, fun z => absurd z hne⟩
      · exact ⟨c, c', hh, ww, f, n, m, g, t, l, rfl, gf, gg, fun _ z => absurd (hi.symm.trans z) (by decide), fun z => absurd heq z, fun _ _ => q⟩
    obtain ⟨c, c', hh, ww, f, n, m, g, t, l, rfl, gf, gg, good, bad1, bad2⟩ := key
    cases hd with
    | @cons v1 _ _ _ d1 h2 =>
    cases h2 with
    | @cons v2 _ _ _ d2 h3 =>
    have ei := dpa_ints_inv (ns := [t, l]) h3
    subst ei
    refine ⟨_, (pss_cons (ps_expr (pe_call (ok_need_chart (P := P) (w := w) T) (hr.mono (by omega)) (by rfl) T.g_need_chart T.F_need_chart.kp T.b_need_chart .nil pass0 (pa_cons (pv 0) pa_nil)))
      (pss_cons (ps_expr (pe_call (ok_need_chart (P := P) (w := w) T) (hr.mono (by omega)) (by rfl) T.g_need_chart T.F_need_chart.kp T.b_need_chart .nil pass0 (pa_cons (pv 1) pa_nil)))
      (pss_cons (ps_if (pt_cmpR op_ne (pe_ix (r := rIxT K) ix_tup (pv 0) pe_int (fun _ _ => rfl)) (pe_ix (r := rIxT K) ix_tup (pv 1) pe_int (fun _ _ => rfl)) (nomark _)) (pss_cons (L2N.ps_raise rfl (L2N.takes_of rfl rfl rfl rfl) (T.X_Unlike.pmk (by rfl)))
      pss_nil) pss_nil)
      (pss_cons (ps_asg (pe_call (ok_size (P := P) (w := w) T) (hr.mono (by omega)) (by rfl) T.g_size T.F_size.kp T.b_size .nil pass0 (pa_cons (pv 1) pa_nil)) (pg_tup rfl (pgs_cons (pg_name (i := 4) sc_need_fit.nd rfl (.inl rfl)) (pgs_cons (pg_name (i := 5) sc_need_fit.nd rfl (.inl rfl)) pgs_nil))))
      (pss_cons (ps_expr (pe_call (okX_need_within T) (hr.mono (by omega)) (by rfl) T.g_need_within T.F_need_within.kp T.b_need_within .nil (L2N.passes_call (L2N.takes_of rfl rfl rfl rfl) (fun _ _ _ _ h => h)) (pa_cons (pv 0) (pa_cons (pv 2) (pa_cons (pv 3) (pa_cons (pv 4) (pa_cons (pv 5) pa_nil)))))))
      pss_nil))))), Go.go ?_⟩
    refine go_drop (Ev.mono e (ev_needT (ed_var rfl d1) gf)) ?_
    refine go_drop (Ev.mono e (ev_needT (ed_var rfl d2) gg)) ?_
    have hT : ∀ {σ : L2.St}, σ[0]? = some (some v1) → σ[1]? = some (some v2) → EvT (tTest (tOp rNe (tOp (rIxT K) (tVar 0) (tC (.int 0))) (tOp (rIxT K) (tVar 1) (tC (.int 0))))) σ H (!decide (V.int c = V.int c')) := fun a b => EvT.mono e (et_test (ev_op (ev_int (K := K) (ed_ixT (ed_var a d1) ev_c rfl)) (ev_int (K := K) (ed_ixT (ed_var b d2) ev_c rfl)) (rv_ne rfl)))
    by_cases hc : c = c'
    · refine go_whenF (et_is (hT rfl rfl) (by rw [hc]; simp)) ?_
      refine go_two (K := K) e (ed_call (eda_cons (ed_var rfl d2) eda_nil) ⟨c', _, rfl, gg.chart, gg.rect, rfl⟩) fun u1 u2 H1 D1 g1 k1 k2 => ?_
      rw [tab_len] at k1
      rw [gg.wide] at k2
      cases k1
      cases k2
      have d1' := dp_mono g1.dx _ d1
      cases hi : inW hh ww t l n m with
      | true =>
        refine go_dropOk (K := K) g1.sub (eda_cons (ed_var rfl d1') (eda_cons (ed_int (ev_var rfl)) (eda_cons (ed_int (ev_var rfl)) (eda_cons (ed_int (ev_var rfl)) (eda_cons (ed_int (ev_var rfl)) eda_nil))))) ⟨c, hh, ww, f, _, _, _, _, rfl, gf, hi, rfl⟩ fun v H2 D2 g2 hv => ?_
        exact go_next fun H3 e3 => good hc hi H3 ((g1.ex.trans g2.ex).trans e3)
      | false => exact go_dropNo (K := K) g1.sub (eda_cons (ed_var rfl d1') (eda_cons (ed_int (ev_var rfl)) (eda_cons (ed_int (ev_var rfl)) (eda_cons (ed_int (ev_var rfl)) (eda_cons (ed_int (ev_var rfl)) eda_nil))))) ⟨c, hh, ww, f, _, _, _, _, rfl, gf, hi, rfl⟩ fun H3 e3 => bad2 hc hi H3 (g1.ex.trans e3)
    · exact go_whenT (et_is (hT rfl rfl) (by simp [hc])) (go_raise fun H3 e3 => bad1 hc H3 e3)
theorem lastF_in {c : Int} (hc : 0 ≤ c) {y : Int} : ∀ {es : List (List Int)}, (∀ e ∈ es, -2 ≤ e.getD 4 0 ∧ e.getD 4 0 < c) → ∀ i j, -2 ≤ lastF y es i j ∧ lastF y es i j < c := by
  intro es
  unfold lastF
  suffices h : ∀ (f : Nat → Nat → Int), (∀ i j, -2 ≤ f i j ∧ f i j < c) → (∀ e ∈ es, -2 ≤ e.getD 4 0 ∧ e.getD 4 0 < c) → ∀ i j, -2 ≤ (es.foldl (fun f e => if e.getD 1 0 ≤ y then withF (e.getD 2 0).toNat (e.getD 3 0).toNat (e.getD 4 0) f else f) f) i j ∧ (es.foldl (fun f e => if e.getD 1 0 ≤ y then withF (e.getD 2 0).toNat (e.getD 3 0).toNat (e.getD 4 0) f else f) f) i j < c from h _ (fun _ _ => ⟨Int.le_refl _, by omega⟩)
  induction es with
  | nil => exact fun f h _ => h
  | cons e es ih =>
    intro f hf he
    have h0 := he e List.mem_cons_self
    refine ih _ (fun i j => ?_) fun e' h' => he e' (List.mem_cons_of_mem _ h')
    dsimp only
    by_cases z : e.getD 1 0 ≤ y
    · rw [if_pos z]
      unfold withF
      split
      · exact h0
      · exact hf i j
    · rw [if_neg z]
      exact hf i j
theorem lastF_ok {l : LogM} (ok : LogOk l) (y : Int) (i j : Nat) : -2 ≤ lastF y (entL l) i j ∧ lastF y (entL l) i j < l.clock := by
  have hc := isClock_iff.mp ok.clk
  refine lastF_in (by omega) (fun e he => ?_) i j
  obtain ⟨n, y', r, k, o, rfl, _, _, _, _, ho⟩ := entL_ok ok he
  exact ho
theorem good_chartT {l : LogM} (ok : LogOk l) (y : Int) : GoodT l.clock l.high.toNat l.wide.toNat (lastF y (entL l)) := by
  have h1 := ok.h1
  have h9 := ok.h9
  have w1 := ok.w1
  have w9 := ok.w9
  exact ⟨ok.clk, by omega, by omega, by omega, by omega, fun i j _ _ => lastF_ok ok y i j⟩
/-- what is laid of a row, up to a column; of the rows ahead -/
def layRow (t l y : Int) (f : Nat → Nat → Int) (i : Nat) : Nat → LogM × Nat → LogM × Nat
  | 0, s => s
  | j + 1, s => if f i j = -2 then layRow t l y f i j s else (addL (layRow t l y f i j s).1 (t + i) (l + j) (f i j) y, (layRow t l y f i j s).2 + 1)
def layRows (t l y : Int) (f : Nat → Nat → Int) (m : Nat) : Nat → LogM × Nat → LogM × Nat
  | 0, s => s
  | i + 1, s => layRow t l y f i m (layRows t l y f m i s)
theorem layRow_le {t l y : Int} {f : Nat → Nat → Int} {i : Nat} {s : LogM × Nat} : ∀ {j k : Nat}, j ≤ k → (layRow t l y f i j s).2 ≤ (layRow t l y f i k s).2
  | j, 0, h => by
    obtain rfl : j = 0 := by omega
    exact Nat.le_refl _
  | j, k + 1, h => by
    rcases Nat.lt_or_ge j (k + 1) with h1 | h1
    · refine Nat.le_trans (layRow_le (k := k) (by omega)) ?_
      show _ ≤ (if f i k = -2 then _ else _ : LogM × Nat).2
      split
      · exact Nat.le_refl _
      · exact Nat.le_succ _
    · obtain rfl : j = k + 1 := by omega
      exact Nat.le_refl _
theorem layRows_le {t l y : Int} {f : Nat → Nat → Int} {m : Nat} {s : LogM × Nat} : ∀ {i k : Nat}, i ≤ k → (layRows t l y f m i s).2 ≤ (layRows t l y f m k s).2
  | i, 0, h => by
    obtain rfl : i = 0 := by omega
    exact Nat.le_refl _
  | i, k + 1, h => by
    rcases Nat.lt_or_ge i (k + 1) with h1 | h1
    · exact Nat.le_trans (layRows_le (k := k) (by omega)) (layRow_le (j := 0) (Nat.zero_le _))
    · obtain rfl : i = k + 1 := by omega
      exact Nat.le_refl _
theorem layRow_len {t l y : Int} {f : Nat → Nat → Int} {i : Nat} {s : LogM × Nat} : ∀ {j : Nat}, (layRow t l y f i j s).1.kept.length + s.2 = s.1.kept.length + (layRow t l y f i j s).2
  | 0 => rfl
  | j + 1 => by
    have ih := layRow_len (t := t) (l := l) (y := y) (f := f) (i := i) (s := s) (j := j)
    show (if f i j = -2 then _ else _ : LogM × Nat).1.kept.length + s.2 = s.1.kept.length + (if f i j = -2 then _ else _ : LogM × Nat).2
    by_cases z : f i j = -2
    · rw [if_pos z]
      exact ih
    · rw [if_neg z]
      show ((layRow t l y f i j s).1.kept ++ [_]).length + s.2 = s.1.kept.length + ((layRow t l y f i j s).2 + 1)
      rw [List.length_append, List.length_singleton]
      omega
theorem layRows_len {t l y : Int} {f : Nat → Nat → Int} {m : Nat} {s : LogM × Nat} : ∀ {i : Nat}, (layRows t l y f m i s).1.kept.length + s.2 = s.1.kept.length + (layRows t l y f m i s).2
  | 0 => rfl
  | i + 1 => by
    have ih := layRows_len (t := t) (l := l) (y := y) (f := f) (m := m) (s := s) (i := i)
    have h := layRow_len (t := t) (l := l) (y := y) (f := f) (i := i) (s := layRows t l y f m i s) (j := m)
    show (layRow t l y f i m (layRows t l y f m i s)).1.kept.length + s.2 = s.1.kept.length + (layRow t l y f i m (layRows t l y f m i s)).2
    omega
theorem layRow_same {t l y : Int} {f : Nat → Nat → Int} {i : Nat} {s : LogM × Nat} : ∀ {j : Nat}, (layRow t l y f i j s).1.clock = s.1.clock ∧ (layRow t l y f i j s).1.high = s.1.high ∧ (layRow t l y f i j s).1.wide = s.1.wide
  | 0 => ⟨rfl, rfl, rfl⟩
  | j + 1 => by
    have ih := layRow_same (t := t) (l := l) (y := y) (f := f) (i := i) (s := s) (j := j)
    show (if f i j = -2 then _ else _ : LogM × Nat).1.clock = _ ∧ (if f i j = -2 then _ else _ : LogM × Nat).1.high = _ ∧ (if f i j = -2 then _ else _ : LogM × Nat).1.wide = _
    by_cases z : f i j = -2
    · rw [if_pos z]
      exact ih
    · rw [if_neg z]
      exact ih
theorem layRows_same {t l y : Int} {f : Nat → Nat → Int} {m : Nat} {s : LogM × Nat} : ∀ {i : Nat}, (layRows t l y f m i s).1.clock = s.1.clock ∧ (layRows t l y f m i s).1.high = s.1.high ∧ (layRows t l y f m i s).1.wide = s.1.wide
  | 0 => ⟨rfl, rfl, rfl⟩
  | i + 1 => by
    have ih := layRows_same (t := t) (l := l) (y := y) (f := f) (m := m) (s := s) (i := i)
    have h := layRow_same (t := t) (l := l) (y := y) (f := f) (i := i) (s := layRows t l y f m i s) (j := m)
    exact ⟨h.1.trans ih.1, h.2.1.trans ih.2.1, h.2.2.trans ih.2.2⟩
/-- what lies in the goal when all of the patch is laid -/
def layAll (g p : LogM) (t l y : Int) : LogM × Nat := layRows t l y (lastF y (entL p)) p.wide.toNat p.high.toNat (g, 0)
def layR (ls : LogsM) : AtD → ActR
  | .lay n o t l y => match getL ls n with
    | none => .no .gone
    | some g => match getL ls o with
      | none => .no .gone
      | some p => if 0 ≤ y ∧ y ≤ 999 then (if g.clock = p.clock then (if inW g.high.toNat g.wide.toNat t l p.high.toNat p.wide.toNat = true then
          (if g.kept.length + (layAll g p t l y).2 ≤ 200 then .ok (putL ls n (layAll g p t l y).1) (.int ((layAll g p t l y).2 : Int)) else .no (.er .full)) else .no (.er .square)) else .no .unlike) else .no (.er .day)
  | _ => .no .gone
section
variable {ls : LogsM} {n o : Str} {g p : LogM} {t l y : Int}
theorem layR_none (h : getL ls n = none) : layR ls (.lay n o t l y) = .no .gone := by simp only [layR, h]
theorem layR_none2 (h : getL ls n = some g) (h2 : getL ls o = none) : layR ls (.lay n o t l y) = .no .gone := by simp only [layR, h, h2]
theorem layR_day (h : getL ls n = some g) (h2 : getL ls o = some p) (h3 : ¬ (0 ≤ y ∧ y ≤ 999)) : layR ls (.lay n o t l y) = .no (.er .day) := by simp only [layR, h, h2, if_neg h3]
theorem layR_un (h : getL ls n = some g) (h2 : getL ls o = some p) (h3 : 0 ≤ y ∧ y ≤ 999) (h4 : ¬ g.clock = p.clock) : layR ls (.lay n o t l y) = .no .unlike := by simp only [layR, h, h2, if_pos h3, if_neg h4]
theorem layR_sq (h : getL ls n = some g) (h2 : getL ls o = some p) (h3 : 0 ≤ y ∧ y ≤ 999) (h4 : g.clock = p.clock) (h5 : ¬ inW g.high.toNat g.wide.toNat t l p.high.toNat p.wide.toNat = true) : layR ls (.lay n o t l y) = .no (.er .square) := by simp only [layR, h, h2, if_pos h3, if_pos h4, if_neg h5]
theorem layR_full (h : getL ls n = some g) (h2 : getL ls o = some p) (h3 : 0 ≤ y ∧ y ≤ 999) (h4 : g.clock = p.clock) (h5 : inW g.high.toNat g.wide.toNat t l p.high.toNat p.wide.toNat = true) (h6 : ¬ g.kept.length + (layAll g p t l y).2 ≤ 200) : layR ls (.lay n o t l y) = .no (.er .full) := by simp only [layR, h, h2, if_pos h3, if_pos h4, if_pos h5, if_neg h6]
theorem layR_ok (h : getL ls n = some g) (h2 : getL ls o = some p) (h3 : 0 ≤ y ∧ y ≤ 999) (h4 : g.clock = p.clock) (h5 : inW g.high.toNat g.wide.toNat t l p.high.toNat p.wide.toNat = true) (h6 : g.kept.length + (layAll g p t l y).2 ≤ 200) : layR ls (.lay n o t l y) = .ok (putL ls n (layAll g p t l y).1) (.int ((layAll g p t l y).2 : Int)) := by simp only [layR, h, h2, if_pos h3, if_pos h4, if_pos h5, if_pos h6]
end
/-- enumerate of a tuple that is data already, whatever changes beside it -/
theorem go_forWET {σ : L2.St} {H Hd : Hp} {D : Ends} {tz : TS} {v : V} {ds : List PyData} {j0 j1 : Nat} {tu : TS} (s : Ex Hd H) (hd : Dp K Hd v (.tuple ds)) (Pv : Nat → L2.St → Hp → Prop) (h0 : ∀ H', Ex H H' → Pv 0 σ H') (hE : ∀ i σ' H', Pv i σ' H' → Ex Hd H')
    (hs : ∀ i d x σ' H', ds[i]? = some d → Dp K Hd x d → Pv i σ' H' → Go tu { D with nx := Pv (i + 1), ct := Pv (i + 1), bk := tz D } ((σ'.set j0 (some (.int (i : Int)))).set j1 (some x)) H')
    (hz : ∀ σ' H', Pv ds.length σ' H' → Go tz D σ' H') : Go (tSeq (tFor (iEnumT K (tCons (tVal v) tNil)) (gTup K 2 (gCons (gName j0) (gCons (gName j1) gNil))) tu) tz) D σ H := fun H1 e1 => by
  cases hd with
  | @tup a xs ds hs' hall =>
    have hl : xs.length = ds.length := dpa_len hall
    refine ⟨a, xs, rfl, ex_t (s.trans e1) hs', for_it (by rw [← hl]; exact walk_enumT (xs := xs)) Pv (h0 H1 e1) (fun i σ' H' _ p => ex_t (hE i σ' H' p) hs') (fun i x σ' H' H'' hi p y => ?_) (fun σ' H' p => hz σ' H' p H' (Ex.refl _))⟩
    obtain ⟨t0, x, z, rfl, ht0, rfl, hxx, hzz⟩ := y
    cases hxx
    obtain ⟨d, h1, h2⟩ := dpa_get2 hall hzz
    have ex : Ex H' (upd H' t0 (.tup [.int (i : Int), z])) := Ex.new ht0
    exact ⟨t0, _, rfl, st_of upd_same, rfl, _, _, rfl, _, _, rfl, rfl, hs i d z σ' _ h1 h2 p _ ex⟩
theorem go_augA {te : TE} {tz : TS} {D : Ends} {σ : L2.St} {H : Hp} {i : Nat} {f : Int → Int → Int} {a b : Int} (hx : σ[i]? = some (some (.int a))) (h : Ev te σ H (.int b)) (k : Go tz D (σ.set i (some (.int (f a b)))) H) : Go (tSeq (tAug i te (ipI f)) tz) D σ H := fun H1 e1 => q_aug hx (h.mono e1) fun H2 e2 => k H2 (e1.trans e2)
/-- the loops of lay_chart: c the log that is changed -/
structure LayOk (t l y : Int) (g p : LogM) : Prop where
  gk : LogOk g
  day : 0 ≤ y ∧ y ≤ 999
  clk : g.clock = p.clock
  inn : inW g.high.toNat g.wide.toNat t l p.high.toNat p.wide.toNat = true
  cell : ∀ i j, -2 ≤ lastF y (entL p) i j ∧ lastF y (entL p) i j < p.clock
theorem LayOk.add {t l y : Int} {g p : LogM} (L : LayOk t l y g p) {c : LogM} (h1 : c.clock = g.clock) (h2 : c.high = g.high) (h3 : c.wide = g.wide) {i j : Nat} (hi : i < p.high.toNat) (hj : j < p.wide.toNat) : addE c (t + i) (l + j) (lastF y (entL p) i j) y = if c.kept.length < 200 then none else some .full := by
  have gk := L.gk
  have a1 := gk.h1
  have a2 := gk.w1
  have hw := inW_iff.mp L.inn
  have hc := L.cell i j
  have hk := L.clk
  unfold addE
  rw [if_pos (by rw [h2, h3]; omega), if_pos (by rw [h1]; omega), if_pos L.day]
theorem okX_lay_chart (T : Tx w K mg base) : FnOk P w K mg base (L2N.CX P w) 8 T.a_lay_chart T.d_lay_chart ["logs", "things"] (spA T (fun x => x.ix = 5) layR) := by
  refine okN T.F_lay_chart sc_lay_chart (fun vs H Q E h => ?_) (fun cdv A outer s H vs Q E hr h => ?_)
  · obtain ⟨p, t, x, ls, Hd, rfl, _⟩ := h
    rfl
  · obtain ⟨pl, tt, x, ls, Hd, rfl, hx, hls, W, ok, ht, good, bad⟩ := h
    cases x with
    | lay n o t l y =>
      refine ⟨_, (pss_cons (ps_asg (pv 1) (pg_tup rfl (pgs_cons (pg_name (i := 2) sc_lay_chart.nd rfl (.inl rfl)) (pgs_cons (pg_name (i := 3) sc_lay_chart.nd rfl (.inl rfl)) (pgs_cons (pg_name (i := 4) sc_lay_chart.nd rfl (.inl rfl)) (pgs_cons (pg_name (i := 5) sc_lay_chart.nd rfl (.inl rfl)) (pgs_cons (pg_name (i := 6) sc_lay_chart.nd rfl (.inl rfl)) pgs_nil)))))))
      (pss_cons (ps_set (i := 7) sc_lay_chart.nd rfl (.inl rfl) (pe_meth0 (pe_call (okX_log_of T) (hr.mono (by omega)) (by rfl) T.g_log_of T.F_log_of.kp T.b_log_of .nil (L2N.passes_call (L2N.takes_of rfl rfl rfl rfl) (fun _ _ _ _ h => h)) (pa_cons (pv 0) (pa_cons (pv 2) pa_nil))) T.Q_Log T.m_Log_twin (okX_Log_twin (P := P) (w := w) T) (hr.mono (by omega)) T.b_Log_twin .nil (L2N.passes_call (L2N.takes_of rfl rfl rfl rfl) (fun _ _ _ _ h => h))))
      (pss_cons (ps_set (i := 8) sc_lay_chart.nd rfl (.inl rfl) (pe_meth (pe_call (okX_log_of T) (hr.mono (by omega)) (by rfl) T.g_log_of T.F_log_of.kp T.b_log_of .nil (L2N.passes_call (L2N.takes_of rfl rfl rfl rfl) (fun _ _ _ _ h => h)) (pa_cons (pv 0) (pa_cons (pv 3) pa_nil))) T.Q_Log T.m_Log_chart (okX_Log_chart (P := P) (w := w) T) (hr.mono (by omega)) T.b_Log_chart .nil (L2N.passes_call (L2N.takes_of rfl rfl rfl rfl) (fun _ _ _ _ h => h)) (pa_cons (pv 6) pa_nil)))
      (pss_cons (ps_expr (pe_call (okX_need_fit T) (hr.mono (by omega)) (by rfl) T.g_need_fit T.F_need_fit.kp T.b_need_fit .nil (L2N.passes_call (L2N.takes_of rfl rfl rfl rfl) (fun _ _ _ _ h => h)) (pa_cons (pe_meth (pv 7) T.Q_Log T.m_Log_chart (okX_Log_chart (P := P) (w := w) T) (hr.mono (by omega)) T.b_Log_chart .nil (L2N.passes_call (L2N.takes_of rfl rfl rfl rfl) (fun _ _ _ _ h => h)) (pa_cons (pv 6) pa_nil)) (pa_cons (pv 8) (pa_cons (pv 4) (pa_cons (pv 5) pa_nil))))))
      (pss_cons (ps_set (i := 9) sc_lay_chart.nd rfl (.inl rfl) pe_int)
      (pss_cons (ps_for PassesOwn.leaving rfl (pi_enumT (by rfl) T.n_enumerate (pa_cons (pe_ix (r := rIxT K) ix_tup (pv 8) pe_int (fun _ _ => rfl)) pa_nil)) (pg_tup rfl (pgs_cons (pg_name (i := 10) sc_lay_chart.nd rfl (.inl rfl)) (pgs_cons (pg_name (i := 11) sc_lay_chart.nd rfl (.inl rfl)) pgs_nil))) (pss_cons (ps_for PassesOwn.leaving rfl (pi_enumT (by rfl) T.n_enumerate (pa_cons (pv 11) pa_nil)) (pg_tup rfl (pgs_cons (pg_name (i := 12) sc_lay_chart.nd rfl (.inl rfl)) (pgs_cons (pg_name (i := 13) sc_lay_chart.nd rfl (.inl rfl)) pgs_nil))) (pss_cons (ps_if (pt_cmpR op_ne (pv 13) (pe_glob (v := .int (-2)) rfl T.c_UNTOLD ⟨_, rfl⟩) (nomark _)) (pss_cons (ps_expr (pe_meth (pv 7) T.Q_Log T.m_Log_add (okX_Log_add (P := P) (w := w) T) (hr.mono (by omega)) T.b_Log_add .nil (L2N.passes_call (L2N.takes_of rfl rfl rfl rfl) (fun _ _ _ _ h => h)) (pa_cons (pe_op op_add (pv 4) (pv 10)) (pa_cons (pe_op op_add (pv 5) (pv 12)) (pa_cons (pv 13) (pa_cons (pv 6) pa_nil))))))
      (pss_cons (ps_aug (i := 9) sc_lay_chart.nd rfl (.inl rfl) pe_int ip_add)
      pss_nil)) pss_nil)
      pss_nil))
      pss_nil))
      (pss_cons (ps_ret (pe_tup (pa_cons (pe_frz (pe_dstar (pv 0) (pv 2) (pv 7))) (pa_cons (pv 9) pa_nil))))
      pss_nil))))))), Go.go ?_⟩
      refine go_unpV (K := K) (t := tt) (vs := [.str n, .str o, .int t, .int l, .int y]) (n := 5) (js := [2, 3, 4, 5, 6]) (ev_var rfl) ht rfl rfl rfl ?_
      show Go _ _ [some (.ref pl), some (.ref tt), some (.str n), some (.str o), some (.int t), some (.int l), some (.int y), none, none, none, none, none, none, none] H
      refine go_twin T W (ea_cons (ev_var rfl) (ea_cons (ev_var rfl) ea_nil)) hls (fun g => by rw [layR_none g] at bad; exact fun H2 e2 => bad H2 Hd (GrW.ext W e2)) fun g p2 d2 H2 hg f1 f2 hp2 hd2 g2 W2 L2' => ?_
      show Go _ _ [some (.ref pl), some (.ref tt), some (.str n), some (.str o), some (.int t), some (.int l), some (.int y), some (.ref p2), none, none, none, none, none, none] H2
      cases ho : getL ls o with
      | none =>
        rw [layR_none2 hg ho] at bad
        exact go_raises (C := fun te => tSeq (tAsg (tMeth T.a_Log "chart" (sp_Log_chart T) [] _ te _) (gName 8)) _) fun H3 Q e3 => tx_log_of T (ea_cons (ev_var rfl) (ea_cons (ev_var rfl) ea_nil)) hls (W2.sub.trans e3) (fun l q d g => by rw [ho] at g; cases g) fun _ H4 e4 => bad H4 Hd (g2.post (e3.trans e4))
      | some p =>
        refine go_bind (C := fun te => tSeq (tAsg (tMeth T.a_Log "chart" (sp_Log_chart T) [] _ te _) (gName 8)) _) (ew_log_of T (M := []) W2 (ea_cons (ev_var rfl) (ea_cons (ev_var rfl) ea_nil)) hls ho) ?_
        rintro _ H3 Hn3 g3 ⟨e3, q3, d3, rfl, L3⟩
        obtain rfl := e3.symm
        have W3 := W2.step g3
        have L2c := L2'.step g3 (by simp) (by simp)
        have G3 := g2.trans g3
        by_cases hy : 0 ≤ y ∧ y ≤ 999
        · refine go_asgE (ew_chart T W3 ev_val (L3.mono (Ex.refl _) W3.sub) (ea_cons (ev_var rfl) ea_nil) rfl hy) ?_
          intro v8 H4 Hn4 g4 hd4
          have W4 := W3.step g4
          have L4 := L2c.step g4 (by simp) (by simp)
          have G4 := G3.trans g4
          show Go _ _ [some (.ref pl), some (.ref tt), some (.str n), some (.str o), some (.int t), some (.int l), some (.int y), some (.ref p2), some v8, none, none, none, none, none] H4
          refine go_bind (C := fun te => tSeq (tDrop (tCall _ _ _ (tCons te _))) _) (ew_chart T W4 (ev_var rfl) L4 (ea_cons (ev_var rfl) ea_nil) rfl hy) ?_
          intro v9 H5 Hn5 g5 hd5
          have W5 := W4.step g5
          have L5 := L4.step g5 (by simp) (by simp)
          have G5 := G4.trans g5
          have hd4' := dp_mono g5.dx _ hd4
          have gg := good_chartT L5.ok y
          have gp := good_chartT L3.ok y
          have args : EvDA K (tCons (tVal v9) (tCons (tVar 8) (tCons (tVar 4) (tCons (tVar 5) tNil)))) [some (.ref pl), some (.ref tt), some (.str n), some (.str o), some (.int t), some (.int l), some (.int y), some (.ref p2), some v8, none, none, none, none, none] Hn5 [dChart g.clock (chartT g y), dChart p.clock (chartT p y), .int t, .int l] := eda_cons (ed_val hd5) (eda_cons (ed_var rfl hd4') (eda_cons (ed_int (ev_var rfl)) (eda_cons (ed_int (ev_var rfl)) eda_nil)))
          by_cases hk : g.clock = p.clock
          · cases hi : inW g.high.toNat g.wide.toNat t l p.high.toNat p.wide.toNat with
            | false =>
              rw [layR_sq hg ho hy hk (by rw [hi]; decide)] at bad
              exact go_dropNo (K := K) (C := T.a_BadSquare) W5.sub args ⟨_, _, _, _, _, _, _, _, _, _, rfl, gg, gp, .inr ⟨hk, hi, rfl⟩⟩ fun H6 e6 => bad H6 Hn5 (G5.post e6)
            | true =>
              have K0 : LayOk t l y g p := ⟨L5.ok, hy, hk, hi, lastF_ok L3.ok y⟩
              have pk := L3.ok
              generalize hf : lastF y (entL p) = f at K0
              generalize hn : p.high.toNat = nn
              generalize hm : p.wide.toNat = m
              have hAll : layAll g p t l y = layRows t l y f m nn (g, 0) := by
                unfold layAll
                rw [hf, hn, hm]
              refine go_dropOk (K := K) (d := .none) W5.sub args ⟨g.clock, g.high.toNat, g.wide.toNat, lastF y (entL g), p.high.toNat, p.wide.toNat, lastF y (entL p), t, l, by rw [← hk]; rfl, gg, by rw [hk]; exact gp, hi, rfl⟩ fun v6 H6 Hn6 g6 _ => ?_
              have g6' := GrW.of (M := []) W5 g6
              have W6 := W5.step g6'
              have L6 := L5.step g6' (by simp) (by simp)
              have G6 := G5.trans g6'
              have hd6 := dp_mono g6'.dx _ hd4'
              refine go_asg (v := .int 0) ev_c ?_
              show Go _ _ [some (.ref pl), some (.ref tt), some (.str n), some (.str o), some (.int t), some (.int l), some (.int y), some (.ref p2), some v8, some (.int 0), none, none, none, none] H6
              have e6 : EvD K (tOp (rIxT K) (tVar 8) (tC (.int 1))) [some (.ref pl), some (.ref tt), some (.str n), some (.str o), some (.int t), some (.int l), some (.int y), some (.ref p2), some v8, some (.int 0), none, none, none, none] (noT Hn6) (.tuple ((chartT p y).map dRow)) := ed_ixT (ed_var rfl hd6) ev_c rfl
              refine go_bind (C := fun te => tSeq (tFor (iEnumT K (tCons te tNil)) _ _) _) (ew_ed (K := K) (M := []) W6 e6) ?_
              rintro v7 H8 Hn8 g8 ⟨hd8, _⟩
              have W8 := W6.step g8
              have L8 := L6.step g8 (by simp) (by simp)
              have G8 := G6.trans g8
              have ect : chartT p y = tab nn m f := by unfold chartT; rw [hf, hn, hm]
              rw [ect] at hd8
              have drop : ∀ {Hk H' : Hp}, GrW (tabsOf T) [p2, d2] Hn8 H8 Hk H' → GrW (tabsOf T) [] Hd H Hk H' := fun gk => G8.drop gk fun a ha => by
                rcases List.mem_cons.mp ha with rfl | ha
                · exact f1
                · rw [List.mem_singleton.mp ha]
                  exact f2
              refine go_forWET (K := K) (j0 := 10) (j1 := 11) W8.sub hd8 (fun i σ' H' => ∃ Hk, GrW (tabsOf T) [p2, d2] Hn8 H8 Hk H' ∧ LogAt K T.a_Log Hk H' p2 d2 (layRows t l y f m i (g, 0)).1 ∧ ∃ x10 x11 x12 x13, σ' = [some (.ref pl), some (.ref tt), some (.str n), some (.str o), some (.int t), some (.int l), some (.int y), some (.ref p2), some v8, some (.int ((layRows t l y f m i (g, 0)).2 : Int)), x10, x11, x12, x13]) ?_ ?_ ?_ ?_
              · intro H' e'
                exact ⟨Hn8, GrW.ext W8 e', L8.mono (Ex.refl _) e', _, _, _, _, rfl⟩
              · rintro i σ' H' ⟨Hk, gk, _⟩
                exact gk.dx.trans gk.sub
              · rintro i d x σ' H' hdi hxd ⟨Hk, gk, Lk, x10, x11, x12, x13, rfl⟩
                have hin : i < nn := by
                  have := (List.getElem?_eq_some_iff.mp hdi).1
                  rw [List.length_map, tab_len] at this
                  exact this
                rw [List.getElem?_map, tab_get hin] at hdi
                cases hdi
                show Go _ _ [some (.ref pl), some (.ref tt), some (.str n), some (.str o), some (.int t), some (.int l), some (.int y), some (.ref p2), some v8, some (.int ((layRows t l y f m i (g, 0)).2 : Int)), some (.int (i : Int)), some x, x12, x13] H'
                refine go_bindEv (C := fun te => tSeq (tFor (iEnumT K (tCons te tNil)) _ _) _) (ev_var rfl) ?_
                refine go_forWET (K := K) (j0 := 12) (j1 := 13) (Hd := Hn8) (gk.dx.trans gk.sub) (show Dp K Hn8 x (.tuple ((rowOf m (f i)).map .int)) from hxd) (fun j σ' H' => ∃ Hk, GrW (tabsOf T) [p2, d2] Hn8 H8 Hk H' ∧ LogAt K T.a_Log Hk H' p2 d2 (layRow t l y f i j (layRows t l y f m i (g, 0))).1 ∧ ∃ x12 x13, σ' = [some (.ref pl), some (.ref tt), some (.str n), some (.str o), some (.int t), some (.int l), some (.int y), some (.ref p2), some v8, some (.int ((layRow t l y f i j (layRows t l y f m i (g, 0))).2 : Int)), some (.int (i : Int)), some x, x12, x13]) ?_ ?_ ?_ ?_
                · intro H'' e'
                  exact ⟨Hk, gk.post e', Lk.mono (Ex.refl _) e', _, _, rfl⟩
                · rintro j σ' H'' ⟨Hk, gk, _⟩
                  exact gk.dx.trans gk.sub
                · rintro j d z σ' H'' hdj hzd ⟨Hk2, gk2, Lk2, x12', x13', rfl⟩
                  have hjm : j < m := by
                    have := (List.getElem?_eq_some_iff.mp hdj).1
                    rw [List.length_map, row_len] at this
                    exact this
                  rw [List.getElem?_map, row_get hjm] at hdj
                  cases hdj
                  cases hzd
                  show Go _ _ [some (.ref pl), some (.ref tt), some (.str n), some (.str o), some (.int t), some (.int l), some (.int y), some (.ref p2), some v8, some (.int ((layRow t l y f i j (layRows t l y f m i (g, 0))).2 : Int)), some (.int (i : Int)), some x, some (.int (j : Int)), some (.int (f i j))] H''
                  have Wk := W8.step gk2
                  by_cases hz : f i j = -2
                  · refine go_whenF (et_is (et_test (ev_op (ev_var rfl) (by walk_at "ev") (rv_ne rfl))) (by rw [hz]; simp)) (go_next fun H9 e9 => ?_)
                    have es : layRow t l y f i (j + 1) (layRows t l y f m i (g, 0)) = layRow t l y f i j (layRows t l y f m i (g, 0)) := if_pos hz
                    exact ⟨Hk2, gk2.post e9, by rw [es]; exact Lk2.mono (Ex.refl _) e9, _, _, by rw [es]⟩
                  · refine go_whenT (et_is (et_test (ev_op (ev_var rfl) (by walk_at "ev") (rv_ne rfl))) (by simp [hz])) ?_
                    have es : layRow t l y f i (j + 1) (layRows t l y f m i (g, 0)) = (addL (layRow t l y f i j (layRows t l y f m i (g, 0))).1 (t + i) (l + j) (f i j) y, (layRow t l y f i j (layRows t l y f m i (g, 0))).2 + 1) := if_neg hz
                    generalize hcur : layRow t l y f i j (layRows t l y f m i (g, 0)) = cur at es Lk2 ⊢
                    have sm : cur.1.clock = g.clock ∧ cur.1.high = g.high ∧ cur.1.wide = g.wide := by
                      have s1 := layRow_same (t := t) (l := l) (y := y) (f := f) (i := i) (s := layRows t l y f m i (g, 0)) (j := j)
                      have s2 := layRows_same (t := t) (l := l) (y := y) (f := f) (m := m) (s := (g, 0)) (i := i)
                      rw [hcur] at s1
                      exact ⟨s1.1.trans s2.1, s1.2.1.trans s2.2.1, s1.2.2.trans s2.2.2⟩
                    have hadd := K0.add sm.1 sm.2.1 sm.2.2 (i := i) (j := j) (by omega) (by omega)
                    rw [hf] at hadd
                    have aa : EvA (tCons (tOp rAdd (tVar 4) (tVar 10)) (tCons (tOp rAdd (tVar 5) (tVar 12)) (tCons (tVar 13) (tCons (tVar 6) tNil)))) [some (.ref pl), some (.ref tt), some (.str n), some (.str o), some (.int t), some (.int l), some (.int y), some (.ref p2), some v8, some (.int (cur.2 : Int)), some (.int (i : Int)), some x, some (.int (j : Int)), some (.int (f i j))] H'' [.int (t + i), .int (l + j), .int (f i j), .int y] := ea_cons (ev_op (ev_var rfl) (ev_var rfl) rv_I0) (ea_cons (ev_op (ev_var rfl) (ev_var rfl) rv_I0) (ea_cons (ev_var rfl) (ea_cons (ev_var rfl) ea_nil)))
                    by_cases hfull : cur.1.kept.length < 200
                    · rw [if_pos hfull] at hadd
                      refine go_dropE (ew_add T (Wk.sup (by simp)) (ev_var rfl) Lk2 aa rfl hadd) ?_
                      rintro _ H9 Hn9 g9 ⟨rfl, L9⟩
                      refine go_augA (a := (cur.2 : Int)) (b := 1) rfl ev_c (go_next fun H10 e10 => ⟨Hn9, (gk2.trans g9).post e10, by rw [es]; exact L9.mono (Ex.refl _) e10, _, _, by rw [es]; rfl⟩)
                    · rw [if_neg hfull] at hadd
                      refine go_raises (C := fun te => tSeq (tDrop te) _) fun H9 Q9 e9 => tx_add T ((Wk.sup (by simp)).ext e9) (ev_var rfl) (Lk2.mono (Ex.refl _) e9) (aa.mono e9) rfl (fun z => by rw [hadd] at z; cases z) fun er he H10 e10 => ?_
                      rw [hadd] at he
                      cases he
                      have l1 := layRow_len (t := t) (l := l) (y := y) (f := f) (i := i) (s := layRows t l y f m i (g, 0)) (j := j)
                      have l2 : (layRows t l y f m i (g, 0)).1.kept.length + 0 = g.kept.length + (layRows t l y f m i (g, 0)).2 := layRows_len (t := t) (l := l) (y := y) (f := f) (m := m) (s := (g, 0)) (i := i)
                      have l3 : (layRow t l y f i (j + 1) (layRows t l y f m i (g, 0))).2 ≤ (layRows t l y f m (i + 1) (g, 0)).2 := layRow_le (by omega)
                      have l4 : (layRows t l y f m (i + 1) (g, 0)).2 ≤ (layRows t l y f m nn (g, 0)).2 := layRows_le (by omega)
                      rw [es] at l3
                      rw [hcur] at l1
                      rw [layR_full hg ho hy hk hi (by rw [hAll]; dsimp only at l3; omega)] at bad
                      exact bad H10 Hk2 ((drop gk2).post (e9.trans e10))
                · rintro σ' H'' ⟨Hk2, gk2, Lk2, x12', x13', rfl⟩
                  rw [List.length_map, row_len] at Lk2
                  refine go_next fun H9 e9 => ⟨Hk2, gk2.post e9, Lk2.mono (Ex.refl _) e9, some (.int (i : Int)), some x, x12', x13', ?_⟩
                  rw [List.length_map, row_len]
                  rfl
              · rintro σ' H' ⟨Hk, gk, Lk, x10, x11, x12, x13, rfl⟩
                rw [List.length_map, tab_len] at Lk
                rw [List.length_map, tab_len]
                obtain ⟨o', kvs, h1, h2⟩ := id hls
                have Wk := W8.step gk
                have gf := drop gk
                have h3 := gf.sub _ _ (gf.dx _ _ h1)
                have len := layRows_len (t := t) (l := l) (y := y) (f := f) (m := m) (s := (g, 0)) (i := nn)
                have few := Lk.ok.few
                refine go_retPair (edf_star (ev_var rfl) (k := .inr n) (ev_var rfl) (ev_var rfl) (rd_frz h3) (h2.nd ok.nd) (by rw [h2.len]; have := ok.few; omega)) (ev_var rfl) fun r' p' o2 H9 e9 fp hp hr' => ?_
                have n1 : Hk p2 = none := (Wk.mn p2 (by simp)).1
                have n2 : Hk d2 = none := (Wk.mn d2 (by simp)).1
                obtain ⟨Hf, gF, lF⟩ := fin_put gf Lk f1 f2 n1 n2 h2 e9 fp hp
                have eo := layR_ok hg ho hy hk hi (by rw [hAll]; show g.kept.length + _ ≤ 200; have len : (layRows t l y f m nn (g, 0)).1.kept.length + 0 = g.kept.length + (layRows t l y f m nn (g, 0)).2 := len; omega)
                rw [hAll] at eo
                exact good _ _ eo r' p' H9 Hf gF lF hr'
          · rw [layR_un hg ho hy hk] at bad
            exact go_dropNo (K := K) (C := T.a_Unlike) W5.sub args ⟨_, _, _, _, _, _, _, _, _, _, rfl, gg, gp, .inl ⟨hk, rfl⟩⟩ fun H6 e6 => bad H6 Hn5 (G5.post e6)
        · rw [layR_day hg ho hy] at bad
          exact go_raises (C := fun te => tSeq (tAsg te (gName 8)) _) fun H4 Q e4 => tx_chart T (W3.ext e4) ev_val (L3.mono (Ex.refl _) (W3.sub.trans e4)) (ea_cons (ev_var rfl) ea_nil) rfl (fun z => absurd z hy) fun _ H5 e5 => bad H5 Hd (G3.post (e4.trans e5))
    | _ => cases hx
def actR (ls : LogsM) : AtD → ActR
  | .begin n c h wi => beginR ls (.begin n c h wi)
  | .tell n r k o y => tellR ls (.tell n r k o y)
  | .right n m o => rightR ls (.right n m o)
  | .strike n m => strikeR ls (.strike n m)
  | .drop n => dropR ls (.drop n)
  | .lay n o t l y => layR ls (.lay n o t l y)
/-- names that are no longer than any text may be -/
def AtD.fit : AtD → Prop
  | .begin n _ _ _ => n.length ≤ 30000
  | _ => True
def AtD.word : AtD → Str
  | .begin _ _ _ _ => "begin"
  | .tell _ _ _ _ _ => "tell"
  | .right _ _ _ => "right"
  | .strike _ _ => "strike"
  | .drop _ => "drop"
  | .lay _ _ _ _ _ => "lay"
def AtD.act (T : Tx w K mg base) : AtD → Addr
  | .begin _ _ _ _ => T.a_begin_chart
  | .tell _ _ _ _ _ => T.a_tell_square
  | .right _ _ _ => T.a_right_entry
  | .strike _ _ => T.a_strike_entry
  | .drop _ => T.a_drop_chart
  | .lay _ _ _ _ _ => T.a_lay_chart
/-- an action, and what it promises of one deed -/
def actS (T : Tx w K mg base) (f : Addr) (sp : Sp) : Prop := ∃ x : AtD, x.fit ∧ f = x.act T ∧ sp = spA T (fun y => y = x) actR
theorem spA_imp (T : Tx w K mg base) {sel sel' : AtD → Prop} {res res' : LogsM → AtD → ActR} (h1 : ∀ x, sel' x → sel x) (h2 : ∀ ls x, sel' x → res' ls x = res ls x) : ∀ vs H Q E, spA T sel' res' vs H Q E → spA T sel res vs H Q E := fun vs H Q E h => by
  obtain ⟨p, t, x, ls, Hd, rfl, hx, a1, a2, a3, a4, a5, a6⟩ := h
  rw [h2 ls x hx] at a6
  exact ⟨p, t, x, ls, Hd, rfl, h1 x hx, a1, a2, a3, a4, fun ls' v e => a5 ls' v (by rw [h2 ls x hx]; exact e), a6⟩
theorem act_held (T : Tx w K mg base) (f : Addr) (sp : Sp) (h : actS T f sp) : HeldX P w K mg base 8 f sp := by
  obtain ⟨x, fit, rfl, rfl⟩ := h
  cases x with
  | begin n c h wi => exact ⟨_, _, ((okX_begin_chart T).mono (by decide)).imp (spA_imp T (fun y e => by rw [e]; exact ⟨n, c, h, wi, rfl, fit⟩) (fun ls y e => by rw [e]; rfl)), T.F_begin_chart.kp, T.b_begin_chart⟩
  | tell n r k o y => exact ⟨_, _, ((okX_tell_square T).mono (by decide)).imp (spA_imp T (fun y e => by rw [e]; rfl) (fun ls y e => by rw [e]; rfl)), T.F_tell_square.kp, T.b_tell_square⟩
  | right n m o => exact ⟨_, _, ((okX_right_entry T).mono (by decide)).imp (spA_imp T (fun y e => by rw [e]; rfl) (fun ls y e => by rw [e]; rfl)), T.F_right_entry.kp, T.b_right_entry⟩
  | strike n m => exact ⟨_, _, ((okX_strike_entry T).mono (by decide)).imp (spA_imp T (fun y e => by rw [e]; rfl) (fun ls y e => by rw [e]; rfl)), T.F_strike_entry.kp, T.b_strike_entry⟩
  | drop n => exact ⟨_, _, ((okX_drop_chart T).mono (by decide)).imp (spA_imp T (fun y e => by rw [e]; rfl) (fun ls y e => by rw [e]; rfl)), T.F_drop_chart.kp, T.b_drop_chart⟩
  | lay n o t l y => exact ⟨_, _, ((okX_lay_chart T).mono (by decide)).imp (spA_imp T (fun y e => by rw [e]; rfl) (fun ls y e => by rw [e]; rfl)), T.F_lay_chart.kp, T.b_lay_chart⟩
/-- how many things a deed of this name has -/
def formN (z : Str) : Option Nat := (([("begin", 4), ("tell", 5), ("right", 3), ("strike", 2), ("drop", 1), ("lay", 5)] : List (Str × Nat)).find? fun e => decide (e.1 = z)).map (·.2)
/-- a deed as values: nothing, or a text and things -/
def formOk : List V → Bool
  | .str z :: r => decide (formN z = some r.length)
  | _ => false
def isDeed (xs : List V) : Prop := xs = [] ∨ ∃ z r, xs = .str z :: r
theorem ev_lenTS {σ : L2.St} {H : Hp} {ta : TE} {a : Addr} {xs : List V} (ha : Ev ta σ H (.ref a)) (hx : SqT K H a xs) : Ev (tCB (rLenS K) (tCons ta tNil)) σ H (.int (xs.length : Int)) := fun H1 e1 Q q =>
  ha H1 e1 _ fun H2 e2 => ⟨a, xs, rfl, Or.inr (ex_t (e1.trans e2) hx), q H2 e2⟩
def sp_need_deed (T : Tx w K mg base) : Sp := fun vs H Q E => ∃ (t : Addr) (xs : List V), vs = [.ref t] ∧ SqT K H t xs ∧ isDeed xs ∧ xs.length < 1000 ∧ (formOk xs = true → ∀ H2, Ex H H2 → Q .non H2) ∧ (formOk xs = false → ∀ H2, Ex H H2 → E (.ref T.a_BadDeed) none H2)
theorem deeds_look (T : Tx w K mg base) (H : Hp) (z : Str) : (lookS z [("begin", .ref T.o_DEEDS_0), ("tell", .ref T.o_DEEDS_1), ("right", .ref T.o_DEEDS_2), ("strike", .ref T.o_DEEDS_3), ("drop", .ref T.o_DEEDS_4), ("lay", .ref T.o_DEEDS_5)] = none ∧ formN z = none) ∨
    ∃ a ys n, lookS z [("begin", .ref T.o_DEEDS_0), ("tell", .ref T.o_DEEDS_1), ("right", .ref T.o_DEEDS_2), ("strike", .ref T.o_DEEDS_3), ("drop", .ref T.o_DEEDS_4), ("lay", .ref T.o_DEEDS_5)] = some (.ref a) ∧ formN z = some n ∧ SqT K H a ys ∧ ys.length = n := by
  unfold lookS formN
  simp only [List.find?_cons, List.find?_nil]
  by_cases h1 : ("begin" : Str) = z
  · exact .inr ⟨T.o_DEEDS_0, _, 4, by rw [decide_eq_true h1]; rfl, by rw [decide_eq_true h1]; rfl, T.s_DEEDS_0 H, rfl⟩
  by_cases h2 : ("tell" : Str) = z
  · exact .inr ⟨T.o_DEEDS_1, _, 5, by rw [decide_eq_false h1, decide_eq_true h2]; rfl, by rw [decide_eq_false h1, decide_eq_true h2]; rfl, T.s_DEEDS_1 H, rfl⟩
  by_cases h3 : ("right" : Str) = z
  · exact .inr ⟨T.o_DEEDS_2, _, 3, by rw [decide_eq_false h1, decide_eq_false h2, decide_eq_true h3]; rfl, by rw [decide_eq_false h1, decide_eq_false h2, decide_eq_true h3]; rfl, T.s_DEEDS_2 H, rfl⟩
  by_cases h4 : ("strike" : Str) = z
  · exact .inr ⟨T.o_DEEDS_3, _, 2, by rw [decide_eq_false h1, decide_eq_false h2, decide_eq_false h3, decide_eq_true h4]; rfl, by rw [decide_eq_false h1, decide_eq_false h2, decide_eq_false h3, decide_eq_true h4]; rfl, T.s_DEEDS_3 H, rfl⟩
  by_cases h5 : ("drop" : Str) = z
  · exact .inr ⟨T.o_DEEDS_4, _, 1, by rw [decide_eq_false h1, decide_eq_false h2, decide_eq_false h3, decide_eq_false h4, decide_eq_true h5]; rfl, by rw [decide_eq_false h1, decide_eq_false h2, decide_eq_false h3, decide_eq_false h4, decide_eq_true h5]; rfl, T.s_DEEDS_4 H, rfl⟩
  by_cases h6 : ("lay" : Str) = z
  · exact .inr ⟨T.o_DEEDS_5, _, 5, by rw [decide_eq_false h1, decide_eq_false h2, decide_eq_false h3, decide_eq_false h4, decide_eq_false h5, decide_eq_true h6]; rfl, by rw [decide_eq_false h1, decide_eq_false h2, decide_eq_false h3, decide_eq_false h4, decide_eq_false h5, decide_eq_true h6]; rfl, T.s_DEEDS_5 H, rfl⟩
  exact .inl ⟨by rw [decide_eq_false h1, decide_eq_false h2, decide_eq_false h3, decide_eq_false h4, decide_eq_false h5, decide_eq_false h6]; rfl, by rw [decide_eq_false h1, decide_eq_false h2, decide_eq_false h3, decide_eq_false h4, decide_eq_false h5, decide_eq_false h6]; rfl⟩
theorem okX_need_deed (T : Tx w K mg base) : FnOk P w K mg base (L2N.CX P w) 1 T.a_need_deed T.d_need_deed ["deed"] (sp_need_deed T) := by
  refine okN T.F_need_deed sc_need_deed (fun vs H Q E h => ?_) (fun cdv A outer s H vs Q E hr h => ?_)
  · obtain ⟨t, xs, rfl, _⟩ := h
    rfl
  · obtain ⟨t, xs, rfl, ht, hd, hl, good, bad⟩ := h
    refine ⟨_, (pss_cons (ps_if (PW.pt (pw_or (pt_cmpR op_eq (pe_callB (r := rLenS K) call_lenQ (by rfl) T.n_len PySem.boot_len (pa_cons (pv 0) pa_nil)) pe_int (nomark _)) (pw_or (pt_cmpR (r := rInDK K w true) (op_notInDK (by rfl) (by rfl)) (pe_ix (r := rIxT K) ix_tup (pv 0) pe_int (fun _ _ => rfl)) (pe_glob (v := .ref T.o_DEEDS) rfl T.c_DEEDS rfl) (by rfl)) (pw_or1 (pt_cmpR op_ne (pe_callB (r := rLenS K) call_lenQ (by rfl) T.n_len PySem.boot_len (pa_cons (pv 0) pa_nil)) (pe_op op_add pe_int (pe_callB (r := rLenS K) call_lenQ (by rfl) T.n_len PySem.boot_len (pa_cons (pe_ix (r := rIxD K w) (ix_dk (by rfl) (by rfl)) (pe_glob (v := .ref T.o_DEEDS) rfl T.c_DEEDS rfl) (pe_ix (r := rIxT K) ix_tup (pv 0) pe_int (fun _ _ => rfl)) (fun _ _ => rfl)) pa_nil))) (nomark _)))))) (pss_cons (L2N.ps_raise rfl (L2N.takes_of rfl rfl rfl rfl) (T.X_BadDeed.pmk (by rfl)))
      pss_nil) pss_nil)
      pss_nil), Go.go ?_⟩
    rcases hd with rfl | ⟨z, r, rfl⟩
    · refine go_whenT (et_is (et_or (a := true) (b := false) (et_is (et_test (ev_op (ev_lenTS (ev_var rfl) ht) ev_c (rv_eq rfl))) rfl) fun z => by cases z) rfl) ?_
      exact go_raise (bad rfl)
    · have e0 : Ev (tOp (rIxT K) (tVar 0) (tC (.int 0))) [some (.ref t)] H (.str z) := ev_op (ev_var rfl) ev_c (rv_ixT (K := K) ht (atI_nat (j := 0) rfl))
      have t1 : EvT (tTest (tOp rEq (tCB (rLenS K) (tCons (tVar 0) tNil)) (tC (.int 0)))) [some (.ref t)] H false := et_is (et_test (ev_op (ev_lenTS (ev_var rfl) ht) ev_c (rv_eq rfl))) (by
        rw [decide_eq_false_iff_not]
        intro y
        injection y with y
        rw [List.length_cons] at y
        omega)
      rcases deeds_look T H z with ⟨k1, k2⟩ | ⟨a, ys, n, k1, k2, k3, k4⟩
      · refine go_whenT (et_is (et_or t1 fun _ => et_or (a := true) (b := false) (et_is (et_test (ev_inDK (neg := true) e0 ev_c T.k_DEEDS)) (by rw [k1]; rfl)) fun z => by cases z) rfl) ?_
        exact go_raise (bad (by show decide (formN z = some r.length) = false; rw [k2]; rfl))
      · have e3 : Ev (tOp rAdd (tC (.int 1)) (tCB (rLenS K) (tCons (tOp (rIxD K w) (tC (.ref T.o_DEEDS)) (tOp (rIxT K) (tVar 0) (tC (.int 0)))) tNil))) [some (.ref t)] H (.int (1 + (ys.length : Int))) := ev_op ev_c (ev_lenTS (ev_ixDK ev_c e0 T.k_DEEDS k1) k3) rv_I0
        have t3 : EvT _ [some (.ref t)] H (!decide (formN z = some r.length)) := et_is (et_test (ev_op (ev_lenTS (ta := tVar 0) (ev_var rfl) ht) e3 (rv_ne rfl))) (by
          show (!decide (V.int ((V.str z :: r).length : Int) = V.int (1 + (ys.length : Int)))) = _
          congr 1
          rw [decide_eq_decide, k2, k4, V.int.injEq, List.length_cons, Option.some.injEq]
          omega)
        refine go_when (b := !decide (formN z = some r.length)) (et_is (et_or t1 fun _ => et_or (a := false) (et_is (et_test (ev_inDK (neg := true) e0 ev_c T.k_DEEDS)) (by rw [k1]; rfl)) fun _ => t3) (by simp)) (fun y => go_raise (bad ?_)) (fun y => go_next (good ?_))
        · show decide (formN z = some r.length) = false
          simpa using y
        · show decide (formN z = some r.length) = true
          simpa using y
structure AtlM where
  logs : LogsM
  past : List (PyData × LogsM)
  ahead : List (PyData × LogsM)
/-- the deeds of a list, each with the logs ahead of it -/
inductive PastAt (K : PySem.W.Frag) (C : Addr) (Hd : Hp) : List V → List (PyData × LogsM) → Prop
  | nil : PastAt K C Hd [] []
  | cons {t pl : Addr} {v : V} {d : PyData} {ls : LogsM} {xs : List V} {es : List (PyData × LogsM)} (hs : SqT K Hd t [v, .ref pl]) (hd : Dp K Hd v d) (hl : LogsAt K C Hd pl ls) (r : PastAt K C Hd xs es) : PastAt K C Hd (.ref t :: xs) ((d, ls) :: es)
def atlF (pl pa ah : Addr) : List (Str × V) := [("logs", .ref pl), ("past", .ref pa), ("ahead", .ref ah)]
structure AtlAt (K : PySem.W.Frag) (CA CL : Addr) (Hd H : Hp) (a pa ah : Addr) (A : AtlM) : Prop where
  ob : ∃ dx pl, H a = some (.ins CA dx (atlF pl pa ah)) ∧ LogsAt K CL Hd pl A.logs
  ps : ∃ xs, H pa = some (.lst xs) ∧ PastAt K CL Hd xs A.past
  as : ∃ xs, H ah = some (.lst xs) ∧ PastAt K CL Hd xs A.ahead
  ne : pa ≠ ah
  ok : LsOk A.logs
  few : A.past.length ≤ 50000
section
variable {CA CL a pa ah : Addr} {Hd Hn H H2 : Hp} {A : AtlM}
theorem PastAt.mono (e : Ex Hd Hn) : ∀ {xs : List V} {es : List (PyData × LogsM)}, PastAt K CL Hd xs es → PastAt K CL Hn xs es
  | _, _, .nil => .nil
  | _, _, .cons hs hd hl r => .cons (ex_t e hs) (dp_mono e _ hd) (hl.mono e) (r.mono e)
theorem PastAt.len : ∀ {xs : List V} {es : List (PyData × LogsM)}, PastAt K CL Hd xs es → xs.length = es.length
  | _, _, .nil => rfl
  | _, _, .cons _ _ _ r => by rw [List.length_cons, List.length_cons, r.len]
theorem PastAt.app {t pl : Addr} {v : V} {d : PyData} {ls : LogsM} (hs : SqT K Hd t [v, .ref pl]) (hd : Dp K Hd v d) (hl : LogsAt K CL Hd pl ls) : ∀ {xs : List V} {es : List (PyData × LogsM)}, PastAt K CL Hd xs es → PastAt K CL Hd (xs ++ [.ref t]) (es ++ [(d, ls)])
  | _, _, .nil => .cons hs hd hl .nil
  | _, _, .cons h1 h2 h3 r => .cons h1 h2 h3 (r.app hs hd hl)
theorem AtlAt.mono (dx : Ex Hd Hn) (e : Ex H H2) (h : AtlAt K CA CL Hd H a pa ah A) : AtlAt K CA CL Hn H2 a pa ah A := by
  obtain ⟨⟨x, pl, h1, h2⟩, ⟨xs, h3, h4⟩, ⟨ys, h5, h6⟩, ne, ok, few⟩ := h
  exact ⟨⟨x, pl, e _ _ h1, h2.mono dx⟩, ⟨xs, e _ _ h3, h4.mono dx⟩, ⟨ys, e _ _ h5, h6.mono dx⟩, ne, ok, few⟩
theorem AtlAt.step {Tt : List (Addr × Str)} {M : List Addr} (h : AtlAt K CA CL Hd H a pa ah A) (g : GrW Tt M Hd H Hn H2) (n1 : a ∉ M) (n2 : pa ∉ M) (n3 : ah ∉ M) : AtlAt K CA CL Hn H2 a pa ah A := by
  obtain ⟨⟨x, pl, h1, h2⟩, ⟨xs, h3, h4⟩, ⟨ys, h5, h6⟩, ne, ok, few⟩ := h
  exact ⟨⟨x, pl, g.ex _ _ h1 n1 noTb_ins, h2.mono g.dx⟩, ⟨xs, g.ex _ _ h3 n2 noTb_lst, h4.mono g.dx⟩, ⟨ys, g.ex _ _ h5 n3 noTb_lst, h6.mono g.dx⟩, ne, ok, few⟩
theorem AtlAt.nt (h : AtlAt K CA CL Hd H a pa ah A) : ∀ x ∈ [a, pa, ah], NTb H x := fun x hx => by
  obtain ⟨⟨_, _, h1, _⟩, ⟨_, h3, _⟩, ⟨_, h5, _⟩, _⟩ := h
  simp only [List.mem_cons, List.not_mem_nil, or_false] at hx
  rcases hx with rfl | rfl | rfl
  · exact ntb_ins h1
  · exact ntb_lst h3
  · exact ntb_lst h5
theorem AtlAt.ne3 (h : AtlAt K CA CL Hd H a pa ah A) : a ≠ pa ∧ a ≠ ah ∧ pa ≠ ah := by
  obtain ⟨⟨_, _, h1, _⟩, ⟨_, h3, _⟩, ⟨_, h5, _⟩, ne, _⟩ := h
  exact ⟨fun z => (by rw [z, h3] at h1; cases h1), fun z => (by rw [z, h5] at h1; cases h1), ne⟩
end
theorem getL_none {ls : LogsM} {n : Str} (h : getL ls n = none) : n ∉ ls.map (·.1) := fun z => by
  obtain ⟨e, he, rfl⟩ := List.mem_map.mp z
  unfold getL at h
  rw [Option.map_eq_none_iff] at h
  have := List.find?_eq_none.mp h e he
  simp at this
theorem getL_any {ls : LogsM} {n : Str} : (ls.any fun e => decide (e.1 = n)) = (getL ls n).isSome := by
  unfold getL
  rw [Option.isSome_map]
  cases h : ls.find? fun e => decide (e.1 = n) with
  | none =>
    show _ = false
    rw [List.any_eq_false]
    intro e he
    exact List.find?_eq_none.mp h e he
  | some e =>
    show _ = true
    rw [List.any_eq_true]
    exact ⟨e, List.mem_of_find?_eq_some h, List.find?_some (p := fun e : Str × LogM => decide (e.1 = n)) h⟩
theorem putL_old {ls : LogsM} {n : Str} {l g : LogM} (ok : LsOk ls) (h : getL ls n = some g) : LsOk (putL ls n l) := by
  have e : putL ls n l = ls.map (fun e => if e.1 = n then (e.1, l) else e) := if_pos (by rw [getL_any, h]; rfl)
  rw [e]
  refine ⟨?_, by rw [List.length_map]; exact ok.few⟩
  have : (ls.map (fun e => if e.1 = n then (e.1, l) else e)).map (·.1) = ls.map (·.1) := by
    rw [List.map_map]
    refine List.map_congr_left fun x _ => ?_
    show (if x.1 = n then (x.1, l) else x).1 = x.1
    split <;> rfl
  rw [this]
  exact ok.nd
theorem putL_new {ls : LogsM} {n : Str} {l : LogM} (ok : LsOk ls) (h : getL ls n = none) (hl : ls.length < 8) : LsOk (putL ls n l) := by
  have e : putL ls n l = ls ++ [(n, l)] := if_neg (by rw [getL_any, h]; decide)
  rw [e]
  refine ⟨?_, by rw [List.length_append, List.length_singleton]; omega⟩
  rw [List.map_append, List.map_cons, List.map_nil, List.nodup_append]
  refine ⟨ok.nd, by simp, fun a ha b hb => ?_⟩
  rw [List.mem_singleton] at hb
  rw [hb]
  exact fun z => getL_none h (by have z : a = n := z; rw [← z]; exact ha)
theorem dropL_ok {ls : LogsM} {n : Str} (ok : LsOk ls) : LsOk (dropL ls n) :=
  ⟨(List.filter_sublist.map _).nodup ok.nd, Nat.le_trans (List.length_filter_le _ _) ok.few⟩
theorem actR_ok {ls ls' : LogsM} {x : AtD} {v : V} (ok : LsOk ls) (h : actR ls x = .ok ls' v) : LsOk ls' := by
  cases x with
  | begin n c hh wi =>
    have h : beginR ls (.begin n c hh wi) = .ok ls' v := h
    unfold beginR at h
    dsimp only at h
    split at h
    · cases h
    · split at h
      · cases h
      · rename_i hg
        split at h
        · cases h
        · split at h
          · cases h
          · rename_i h8
            cases h
            exact putL_new ok hg (by have := of_decide_eq_false h8; omega)
  | tell n r k o y =>
    have h : tellR ls (.tell n r k o y) = .ok ls' v := h
    unfold tellR at h
    dsimp only at h
    split at h
    · cases h
    · rename_i g hg
      split at h
      · cases h
      · cases h
        exact putL_old ok hg
  | right n m o =>
    have h : rightR ls (.right n m o) = .ok ls' v := h
    unfold rightR at h
    dsimp only at h
    split at h
    · cases h
    · rename_i g hg
      split at h
      · cases h
      · cases h
      · cases h
        exact putL_old ok hg
  | strike n m =>
    have h : strikeR ls (.strike n m) = .ok ls' v := h
    unfold strikeR at h
    dsimp only at h
    split at h
    · cases h
    · rename_i g hg
      split at h
      · cases h
      · cases h
        exact putL_old ok hg
  | drop n =>
    have h : dropR ls (.drop n) = .ok ls' v := h
    unfold dropR at h
    dsimp only at h
    split at h
    · cases h
    · cases h
      exact dropL_ok ok
  | lay n o t l y =>
    have h : layR ls (.lay n o t l y) = .ok ls' v := h
    unfold layR at h
    dsimp only at h
    split at h
    · cases h
    · rename_i g hg
      split at h
      · cases h
      · split at h
        · split at h
          · split at h
            · split at h
              · cases h
                exact putL_old ok hg
              · cases h
            · cases h
          · cases h
        · cases h
theorem lookS_hit {z : Str} {v : V} {r : List (Str × V)} : lookS z ((z, v) :: r) = some v := by
  unfold lookS
  rw [List.find?_cons_of_pos (by simp)]
  rfl
theorem lookS_miss {z y : Str} {v : V} {r : List (Str × V)} (h : ¬ y = z) : lookS z ((y, v) :: r) = lookS z r := by
  unfold lookS
  rw [List.find?_cons_of_neg (by simpa using h)]
theorem acts_look (T : Tx w K mg base) (x : AtD) : lookS x.word [("begin", .ref T.a_begin_chart), ("tell", .ref T.a_tell_square), ("right", .ref T.a_right_entry), ("strike", .ref T.a_strike_entry), ("drop", .ref T.a_drop_chart), ("lay", .ref T.a_lay_chart)] = some (.ref (x.act T)) := by
  have m := @lookS_miss
  cases x with
  | begin => exact lookS_hit
  | tell => exact (m (show ¬ ("begin" : Str) = "tell" by decide +kernel)).trans lookS_hit
  | right => exact (m (show ¬ ("begin" : Str) = "right" by decide +kernel)).trans ((m (show ¬ ("tell" : Str) = "right" by decide +kernel)).trans lookS_hit)
  | strike => exact (m (show ¬ ("begin" : Str) = "strike" by decide +kernel)).trans ((m (show ¬ ("tell" : Str) = "strike" by decide +kernel)).trans ((m (show ¬ ("right" : Str) = "strike" by decide +kernel)).trans lookS_hit))
  | drop => exact (m (show ¬ ("begin" : Str) = "drop" by decide +kernel)).trans ((m (show ¬ ("tell" : Str) = "drop" by decide +kernel)).trans ((m (show ¬ ("right" : Str) = "drop" by decide +kernel)).trans ((m (show ¬ ("strike" : Str) = "drop" by decide +kernel)).trans lookS_hit)))
  | lay => exact (m (show ¬ ("begin" : Str) = "lay" by decide +kernel)).trans ((m (show ¬ ("tell" : Str) = "lay" by decide +kernel)).trans ((m (show ¬ ("right" : Str) = "lay" by decide +kernel)).trans ((m (show ¬ ("strike" : Str) = "lay" by decide +kernel)).trans ((m (show ¬ ("drop" : Str) = "lay" by decide +kernel)).trans lookS_hit))))
theorem form_word (x : AtD) : formOk (.str x.word :: x.vals) = true := by
  cases x <;> rfl
/-- xs[1:], not all of them -/
theorem etn_from {σ : L2.St} {H : Hp} {ta : TE} {a : Addr} {xs : List V} (ha : Ev ta σ H (.ref a)) (hx : SqT K H a xs) (hn : 1 ≤ xs.length) : EvTN (tSl (rSlA K) ta (tPart (tC (.int 1))) tNoPart) σ H (xs.drop 1) := fun H1 e1 Q q =>
  ha H1 e1 _ fun H2 e2 => by
    have s1 : HT.sIx xs.length 0 (some 1) = 1 := by
      show HT.sIx xs.length 0 (some ((1 : Nat) : Int)) = 1
      rw [HT.sIx_nat]
      omega
    refine ⟨1, rfl, a, xs, rfl, ex_t (e1.trans e2) hx, fun z => ?_, fun _ p hp => ?_⟩
    · exfalso
      have := z.1
      rw [s1] at this
      omega
    · have : cutV xs (some 1) none = xs.drop 1 := by
        unfold cutV
        rw [s1]
        show (xs.drop 1).take (xs.length - 1) = _
        rw [List.take_of_length_le (by rw [List.length_drop]; exact Nat.le_refl _)]
      rw [this]
      exact q p _ (e2.trans (Ex.new hp)) (fresh_back e2 hp) upd_same
theorem ew_etnA {Tt : List (Addr × Str)} {M : List Addr} {σ : L2.St} {Hd H : Hp} {te : TE} {xs : List V} (W : Wld Tt M Hd H) (h : EvTN te σ H xs) : EvW Tt [] te σ Hd H (fun v Hn H2 => ∃ q, v = .ref q ∧ Hn = upd Hd q (.tup xs) ∧ Hd q = none) := fun H1 e1 Q q =>
  h H1 e1 Q fun a H2 e2 f1 h2 => q _ H2 (upd Hd a (.tup xs)) ((GrW.ext (M := []) (W.ext e1) e2).keep (newAt_none f1) (fresh_back (W.sub.trans e1) f1) h2 noTb_tup) ⟨a, rfl, rfl, fresh_back (W.sub.trans e1) f1⟩
/-- l.clear() -/
theorem go_clear {σ : L2.St} {H : Hp} {ta : TE} {tz : TS} {D : Ends} {l : Addr} {xs : List V} (hl : H l = some (.lst xs)) (ha : Ev ta σ H (.ref l)) (k : Go tz D σ (upd H l (.lst []))) : Go (tSeq (tDrop (tBM0 K "list" rClear ta)) tz) D σ H := fun H1 e1 =>
  ha H1 e1 _ fun H2 e2 => ⟨Or.inl ⟨rfl, xs, sq_of ((e1.trans e2) _ _ hl)⟩, l, xs, rfl, rfl, (e1.trans e2) _ _ hl, k _ (ex_upd2 (e1.trans e2))⟩
def doA (A : AtlM) (ls : LogsM) (d : PyData) : AtlM := ⟨ls, A.past ++ [(d, A.logs)], []⟩
def sp_do (T : Tx w K mg base) : Sp := fun vs H Q E => ∃ (a pa ah t : Addr) (A : AtlM) (ds : List PyData) (xs : List V) (Hd : Hp), vs = [.ref a, .ref t] ∧ AtlAt K T.a_Atlas T.a_Log Hd H a pa ah A ∧ Wld (tabsOf T) [a, pa, ah] Hd H ∧ A.past.length < 50000 ∧ Dp K Hd (.ref t) (.tuple ds) ∧ SqT K Hd t xs ∧ isDeed xs ∧ xs.length < 1000 ∧
  (formOk xs = false → ∀ H2, Ex H H2 → E (.ref T.a_BadDeed) none H2) ∧
  (∀ x : AtD, xs = .str x.word :: x.vals → x.fit ∧ (∀ ls' v, actR A.logs x = .ok ls' v → ∀ H2 Hn, GrW (tabsOf T) [a, pa, ah] Hd H Hn H2 → AtlAt K T.a_Atlas T.a_Log Hn H2 a pa ah (doA A ls' (.tuple ds)) → Q v H2) ∧ BadA T E Hd H (actR A.logs x)) ∧
  (formOk xs = true → ∃ x : AtD, xs = .str x.word :: x.vals)
theorem okX_Atlas_do (T : Tx w K mg base) : FnOk P w K mg base (L2N.CX P w) 9 T.a_Atlas_do T.d_Atlas_do ["self", "deed"] (sp_do T) := by
  refine okN T.F_Atlas_do sc_Atlas_do (fun vs H Q E h => ?_) (fun cdv A outer s H vs Q E hr h => ?_)
  · obtain ⟨a, pa, ah, t, A, ds, xs, Hd, rfl, _⟩ := h
    rfl
  · obtain ⟨a, pa, ah, t, A, ds, xs, Hd, rfl, L, W, hpl, hdt, hts, hdeed, hl, badf, goodf, form⟩ := h
    have cl := T.Q_Atlas
    have na1 := T.na_Atlas_logs
    have na2 := T.na_Atlas_past
    have na3 := T.na_Atlas_ahead
    have htH := ex_t W.sub hts
    refine ⟨_, (pss_cons (ps_expr (pe_call (okX_need_deed T) (hr.mono (by omega)) (by rfl) T.g_need_deed T.F_need_deed.kp T.b_need_deed .nil (L2N.passes_call (L2N.takes_of rfl rfl rfl rfl) (fun _ _ _ _ h => h)) (pa_cons (pv 1) pa_nil)))
      (pss_cons (ps_set (i := 2) sc_Atlas_do.nd rfl (.inl rfl) (pe_ix (r := rIxD K w) (ix_dk (by rfl) (by rfl)) (pe_glob (v := .ref T.o_ACTIONS) rfl T.c_ACTIONS rfl) (pe_ix (r := rIxT K) ix_tup (pv 1) pe_int (fun _ _ => rfl)) (fun _ _ => rfl)))
      (pss_cons (ps_asg (pe_callX (i := 2) (S := actS T) (act_held (P := P) (w := w) T) (hr.mono (by omega)) rfl (.inl rfl) (L2N.passes_call (L2N.takes_of rfl rfl rfl rfl) (fun _ _ _ _ h => h)) (pa_cons (pe_fld (pv 0) rfl) (pa_cons (pe_slice (r := rSlA K) sl_tupA (pv 1) (po_some pe_int) po_none) pa_nil))) (pg_tup rfl (pgs_cons (pg_name (i := 3) sc_Atlas_do.nd rfl (.inl rfl)) (pgs_cons (pg_name (i := 4) sc_Atlas_do.nd rfl (.inl rfl)) pgs_nil))))
      (pss_cons (ps_expr (pe_bm PySem.F.plainAttrs_list PySem.F.slot_list_append PySem.F.type_list_append mt_append (pe_fld (pv 0) rfl) (pa_cons (pe_tup (pa_cons (pv 1) (pa_cons (pe_fld (pv 0) rfl) pa_nil))) pa_nil)))
      (pss_cons (ps_expr (pe_bm0 PySem.F.plainAttrs_list PySem.F.slot_list_clear PySem.F.type_list_clear mt_clear (pe_fld (pv 0) rfl)))
      (pss_cons (ps_fld (pv 0) (pv 3) rfl)
      (pss_cons (ps_ret (pv 4))
      pss_nil))))))), Go.go ?_⟩
    show Go _ _ [some (.ref a), some (.ref t), none, none, none] H
    cases hf : formOk xs with
    | false =>
      exact go_raises (C := fun te => tSeq (tDrop te) _) fun H1 Q1 e1 => (show EvA (tCons (tVar 1) tNil) [some (.ref a), some (.ref t), none, none, none] H [.ref t] from ea_cons (ev_var rfl) ea_nil) H1 e1 _ fun H2 e2 => ⟨t, xs, rfl, ex_t (e1.trans e2) htH, hdeed, hl, fun z => (by rw [hf] at z; cases z), fun _ H3 e3 => badf hf H3 ((e1.trans e2).trans e3)⟩
    | true =>
      obtain ⟨x, hx⟩ := form hf
      obtain ⟨fit, good, bad⟩ := goodf x hx
      refine go_drop (v := .non) (fun H1 e1 Q1 q1 => (show EvA (tCons (tVar 1) tNil) [some (.ref a), some (.ref t), none, none, none] H [.ref t] from ea_cons (ev_var rfl) ea_nil) H1 e1 _ fun H2 e2 => ⟨t, xs, rfl, ex_t (e1.trans e2) htH, hdeed, hl, fun _ H3 e3 => q1 H3 (e2.trans e3), fun z => by rw [hf] at z; cases z⟩) ?_
      subst hx
      refine go_asg (v := .ref (x.act T)) (ev_ixDK ev_c (ev_op (ev_var rfl) ev_c (rv_ixT (K := K) htH (atI_nat (j := 0) rfl))) T.k_ACTIONS (acts_look T x)) ?_
      show Go _ _ [some (.ref a), some (.ref t), some (.ref (x.act T)), none, none] H
      obtain ⟨⟨dx, pl, h1, h2⟩, ⟨ps, h3, h4⟩, ⟨as, h5, h6⟩, ne, ok, few⟩ := id L
      have evl : Ev (tFld K (tVar 0) "logs") [some (.ref a), some (.ref t), some (.ref (x.act T)), none, none] H (.ref pl) := ev_fld (ev_var rfl) h1 cl na1 rfl
      have slc := etn_from (K := K) (σ := [some (.ref a), some (.ref t), some (.ref (x.act T)), none, none]) (ta := tVar 1) (ev_var rfl) htH (by simp)
      cases hres : actR A.logs x with
      | ok ls' v =>
        refine go_bind (C := fun te => tSeq (tAsg te (gTup K 2 (gCons (gName 3) (gCons (gName 4) gNil)))) _) (T := tabsOf T) (M := []) (Hd := Hd) (P := fun u Hn H2 => ∃ r p', u = .ref r ∧ LogsAt K T.a_Log Hn p' ls' ∧ H2 r = some (.tup [.ref p', v])) (fun H1 e1 Q1 q1 => ?_) ?_
        · refine ⟨x.act T, spA T (fun y => y = x) actR, rfl, ⟨x, fit, rfl, rfl⟩, ?_⟩
          exact evl H1 e1 _ fun H2 e2 => slc H2 (e1.trans e2) _ fun t2 H3 e3 _ ht2 => ⟨pl, t2, x, A.logs, Hd, rfl, rfl, h2, (W.ext ((e1.trans e2).trans e3)).nil, ok, st_of ht2, fun ls'' v'' e r p' H4 Hn g lg hr' => (by
            rw [hres] at e
            cases e
            exact q1 _ _ _ (g.pre (e2.trans e3)) ⟨r, p', rfl, lg, hr'⟩), by rw [hres]; trivial⟩
        · rintro _ H5 Hn5 g5 ⟨r, p', rfl, lg, hr5⟩
          have W5 := W.step g5
          have L5 := L.step g5 (by simp) (by simp) (by simp)
          refine go_unpV (K := K) (t := r) (vs := [.ref p', v]) (n := 2) (js := [3, 4]) ev_val (st_of hr5) rfl rfl rfl ?_
          show Go _ _ [some (.ref a), some (.ref t), some (.ref (x.act T)), some (.ref p'), some v] H5
          have k1 := g5.ex _ _ h1 (by simp) noTb_ins
          have k3 := g5.ex _ _ h3 (by simp) noTb_lst
          have k5 := g5.ex _ _ h5 (by simp) noTb_lst
          obtain ⟨n1, n2, n3⟩ := L.ne3
          refine go_appE (M := []) (T := tabsOf T) (P := fun u Hn H2 => ∃ q, u = .ref q ∧ Hn = upd Hn5 q (.tup [.ref t, .ref pl]) ∧ Hn5 q = none) k3 (by simp) (ev_fld (ev_var rfl) k1 cl na2 rfl) (ew_etnA W5 (etn_tup (ea_cons (ev_var rfl) (ea_cons (ev_fld (ev_var rfl) k1 cl na1 rfl) ea_nil)) (by simp))) (by rw [h4.len]; omega) ?_
          rintro _ H6 Hn6 g6 ⟨q6, rfl, rfl, nq6⟩
          have W6 := W5.step g6
          have L6 := L5.step g6 (by simp) (by simp) (by simp)
          have m1 := g6.ex _ _ k1 (by simp) noTb_ins
          have m3 := g6.ex _ _ k3 (by simp) noTb_lst
          have m5 := g6.ex _ _ k5 (by simp) noTb_lst
          have c1 : (upd H6 pa (.lst (ps ++ [.ref q6]))) a = some (.ins T.a_Atlas dx (atlF pl pa ah)) := by rw [upd_ne n1]; exact m1
          have c5 : (upd H6 pa (.lst (ps ++ [.ref q6]))) ah = some (.lst as) := by rw [upd_ne n3.symm]; exact m5
          refine go_clear c5 (ev_fld (ev_var rfl) c1 cl na3 rfl) ?_
          have c1' : (upd (upd H6 pa (.lst (ps ++ [.ref q6]))) ah (.lst [])) a = some (.ins T.a_Atlas dx (atlF pl pa ah)) := by rw [upd_ne n2]; exact c1
          refine go_fld (K := K) (v := .ref p') (ev_var rfl) (ev_var rfl) c1' cl na1 (by show 3 < 1000; decide) ?_
          refine go_retV (ev_var rfl) fun H9 e9 => ?_
          have u1 : H9 a = some (.ins T.a_Atlas dx (atlF p' pa ah)) := e9 _ _ (by rw [upd_same]; rfl)
          have u3 : H9 pa = some (.lst (ps ++ [.ref q6])) := e9 _ _ (by rw [upd_ne n1.symm, upd_ne n3, upd_same])
          have u5 : H9 ah = some (.lst []) := e9 _ _ (by rw [upd_ne n2.symm, upd_same])
          have g9 : GrW (tabsOf T) [a, pa, ah] (upd Hn5 q6 (.tup [.ref t, .ref pl])) H6 (upd Hn5 q6 (.tup [.ref t, .ref pl])) H9 := by
            refine GrW.chg W6 (fun b hb => hb) (fun b ob hb nb => e9 _ _ ?_) (fun b hb => ?_) L6.nt
            · simp only [List.mem_cons, List.not_mem_nil, or_false, not_or] at nb
              rw [upd_ne nb.1, upd_ne nb.2.2, upd_ne nb.2.1]
              exact hb
            · simp only [List.mem_cons, List.not_mem_nil, or_false] at hb
              rcases hb with rfl | rfl | rfl
              · exact ⟨_, u1, noTb_ins⟩
              · exact ⟨_, u3, noTb_lst⟩
              · exact ⟨_, u5, noTb_lst⟩
          have e56 := g6.dx
          have dx6 := g5.dx.trans e56
          refine good ls' v hres H9 _ (((g5.trans g6).sup (by simp)).trans g9) ⟨⟨dx, p', u1, lg.mono e56⟩, ⟨_, u3, (h4.mono dx6).app (st_of upd_same) (dp_mono dx6 _ hdt) (h2.mono dx6)⟩, ⟨_, u5, .nil⟩, ne, actR_ok ok hres, ?_⟩
          show (A.past ++ [_]).length ≤ 50000
          rw [List.length_append, List.length_singleton]
          omega
      | entry m =>
        refine go_raises (C := fun te => tSeq (tAsg te (gTup K 2 (gCons (gName 3) (gCons (gName 4) gNil)))) _) fun H1 Q1 e1 => ⟨x.act T, spA T (fun y => y = x) actR, rfl, ⟨x, fit, rfl, rfl⟩, ?_⟩
        exact evl H1 e1 _ fun H2 e2 => slc H2 (e1.trans e2) _ fun t2 H3 e3 _ ht2 => ⟨pl, t2, x, A.logs, Hd, rfl, rfl, h2, (W.ext ((e1.trans e2).trans e3)).nil, ok, st_of ht2, fun ls'' v'' e => (by rw [hres] at e; cases e), bad.pre (GrW.ext W ((e1.trans e2).trans e3))⟩
      | no m =>
        refine go_raises (C := fun te => tSeq (tAsg te (gTup K 2 (gCons (gName 3) (gCons (gName 4) gNil)))) _) fun H1 Q1 e1 => ⟨x.act T, spA T (fun y => y = x) actR, rfl, ⟨x, fit, rfl, rfl⟩, ?_⟩
        exact evl H1 e1 _ fun H2 e2 => slc H2 (e1.trans e2) _ fun t2 H3 e3 _ ht2 => ⟨pl, t2, x, A.logs, Hd, rfl, rfl, h2, (W.ext ((e1.trans e2).trans e3)).nil, ok, st_of ht2, fun ls'' v'' e => (by rw [hres] at e; cases e), bad.pre (GrW.ext W ((e1.trans e2).trans e3))⟩
def AtD.ds : AtD → List PyData
  | .begin n c h w => [.str n, .int c, .int h, .int w]
  | .tell n r k o y => [.str n, .int r, .int k, .int o, .int y]
  | .right n m o => [.str n, .int m, .int o]
  | .strike n m => [.str n, .int m]
  | .drop n => [.str n]
  | .lay n o t l y => [.str n, .str o, .int t, .int l, .int y]
def AtD.d (x : AtD) : PyData := .tuple (.str x.word :: x.ds)
def LsGood (ls : LogsM) : Prop := ∀ n l, getL ls n = some l → LogOk l
def wix (z : Str) : Nat := if z = "begin" then 0 else if z = "tell" then 1 else if z = "right" then 2 else if z = "strike" then 3 else if z = "drop" then 4 else 5
theorem wix_of (x : AtD) : wix x.word = x.ix := by
  cases x with
  | begin => exact (show wix "begin" = 0 by decide +kernel)
  | tell => exact (show wix "tell" = 1 by decide +kernel)
  | right => exact (show wix "right" = 2 by decide +kernel)
  | strike => exact (show wix "strike" = 3 by decide +kernel)
  | drop => exact (show wix "drop" = 4 by decide +kernel)
  | lay => exact (show wix "lay" = 5 by decide +kernel)
theorem AtD.inj {x y : AtD} (h : (V.str x.word :: x.vals) = .str y.word :: y.vals) : x = y := by
  have h1 : x.word = y.word := V.str.inj (List.cons.inj h).1
  have h2 := (List.cons.inj h).2
  have h3 : x.ix = y.ix := by rw [← wix_of, ← wix_of, h1]
  cases x <;> cases y <;> first | (simp [AtD.ix] at h3; done) | (simp only [AtD.vals, List.cons.injEq, V.str.injEq, V.int.injEq, and_true] at h2; simp only [h2])
theorem dp_deed {H : Hp} {v : V} {x : AtD} (h : Dp K H v x.d) : ∃ t, v = .ref t ∧ SqT K H t (.str x.word :: x.vals) := by
  unfold AtD.d at h
  generalize hs : x.word = z at h
  cases h with
  | @tup t ys ds hq hall =>
    refine ⟨t, rfl, ?_⟩
    cases hall with
    | cons h1 h2 =>
      cases h1
      have e : ∀ {vs : List V}, DpAll K H vs x.ds → vs = x.vals := by
        intro vs hv
        cases x with
        | begin n c hh wi =>
          cases hv with | cons a1 hv => cases hv with | cons a2 hv => cases hv with | cons a3 hv => cases hv with | cons a4 hv => cases hv; cases a1; cases a2; cases a3; cases a4; rfl
        | tell n r k o y =>
          cases hv with | cons a1 hv => cases hv with | cons a2 hv => cases hv with | cons a3 hv => cases hv with | cons a4 hv => cases hv with | cons a5 hv => cases hv; cases a1; cases a2; cases a3; cases a4; cases a5; rfl
        | right n m o =>
          cases hv with | cons a1 hv => cases hv with | cons a2 hv => cases hv with | cons a3 hv => cases hv; cases a1; cases a2; cases a3; rfl
        | strike n m =>
          cases hv with | cons a1 hv => cases hv with | cons a2 hv => cases hv; cases a1; cases a2; rfl
        | drop n =>
          cases hv with | cons a1 hv => cases hv; cases a1; rfl
        | lay n o t l y =>
          cases hv with | cons a1 hv => cases hv with | cons a2 hv => cases hv with | cons a3 hv => cases hv with | cons a4 hv => cases hv with | cons a5 hv => cases hv; cases a1; cases a2; cases a3; cases a4; cases a5; rfl
      rw [← e h2]
      exact hq
def stepA (A : AtlM) (x : AtD) : AtlM := match actR A.logs x with
  | .ok ls' _ => doA A ls' x.d
  | _ => A
theorem KvL.good {Hd : Hp} {C : Addr} : ∀ {kvs : List (Key × V)} {ls : LogsM}, KvL K C Hd kvs ls → LsGood ls
  | _, _, .nil => fun n l h => by cases h
  | _, _, .cons (n := m) (l := l) (ls := ls) h r => fun n l' h' => by
    by_cases e : m = n
    · unfold getL at h'
      rw [List.find?_cons_of_pos (by simp [e])] at h'
      cases h'
      exact h.ok
    · refine KvL.good r n l' ?_
      unfold getL at h' ⊢
      rwa [List.find?_cons_of_neg (by simp [e])] at h'
theorem AtlAt.good {Hd H : Hp} {CA CL a pa ah : Addr} {A : AtlM} (L : AtlAt K CA CL Hd H a pa ah A) : LsGood A.logs := by
  obtain ⟨⟨dx, pl, h1, o, kvs, h2, h3⟩, _⟩ := L
  exact h3.good
section
variable {σ : L2.St} {Hd H : Hp} {ta : TE} {tr tk : TA} {E : XK} {a pa ah : Addr} {A : AtlM} {Q : VK} {dv us vs zs : List V} {gV : List V → List V → List V} {i j : Nat} {nm : Str} {sp : Sp}
/-- a method of an atlas whose arguments are values -/
theorem tx_methA {CA CL : Addr} (hp : Ev ta σ H (.ref a)) (L : AtlAt K CA CL Hd H a pa ah A) (ha : EvA tr σ H vs) (hn : ∀ x y z : V, List.lookup nm [(("logs" : Str), x), ("past", y), ("ahead", z)] = none) (k : ∀ H2, Ex H H2 → sp (.ref a :: (vs ++ dv)) H2 Q E) : tMeth CA nm sp dv E ta tr σ H Q := by
  obtain ⟨⟨dx, pl, h1, _⟩, _⟩ := id L
  exact hp H (Ex.refl _) _ fun H2 e2 => ⟨a, dx, _, rfl, e2 _ _ h1, hn _ _ _, ha H2 e2 _ fun H3 e3 => k H3 (e2.trans e3)⟩
end
theorem edf_new {σ : L2.St} {H : Hp} : EvDF (tFrzE tDNewK) σ H [] := fun H1 e1 Q q d hd => ⟨d, [], upd_same, fun o => q d o _ (fun b u hb => by
  have bd : b ≠ d := fun z => by rw [z, hd] at hb; cases hb
  rw [upd_ne bd, upd_ne bd]
  exact hb) hd upd_same⟩
theorem go_bindDF {C : TE → TS} {te : TE} {σ : L2.St} {H : Hp} {D : Ends} {kvs : List (Key × V)} (h : EvDF te σ H kvs) (k : ∀ p o H2, Ex H H2 → H p = none → H2 p = some (.frz o (.dK kvs)) → Go (C (tVal (.ref p))) D σ H2) (hC : ∀ te D σ H, C te D σ H = te σ H fun v H1 => C (tVal v) D σ H1 := by intros; rfl) : Go (C te) D σ H := fun H1 e1 => by
  rw [hC]
  exact h H1 e1 _ fun p o H2 e2 f h2 => k p o H2 (e1.trans e2) (fresh_back e1 f) h2 H2 (Ex.refl _)
theorem go_bindNil {C : TE → TS} {σ : L2.St} {H : Hp} {D : Ends} (k : ∀ p H2, Ex H H2 → H p = none → H2 p = some (.lst []) → Go (C (tVal (.ref p))) D σ H2) (hC : ∀ te D σ H, C te D σ H = te σ H fun v H1 => C (tVal v) D σ H1 := by intros; rfl) : Go (C (tLst tNil)) D σ H := fun H1 e1 => by
  rw [hC]
  exact ⟨by show 0 ≤ sizeLine; omega, fun p hp => k p _ (e1.trans (Ex.new hp)) (fresh_back e1 hp) upd_same _ (Ex.refl _)⟩
def sp_Atlas_init (T : Tx w K mg base) : Sp := fun vs H Q _ => ∃ (p dx : Addr) (Hd : Hp), vs = [.ref p] ∧ H p = some (.ins T.a_Atlas dx []) ∧ Wld (tabsOf T) [p] Hd H ∧
  ∀ pa ah H2 Hn, H pa = none → H ah = none → Hn pa = none → Hn ah = none → GrW (tabsOf T) [p] Hd H Hn H2 → AtlAt K T.a_Atlas T.a_Log Hn H2 p pa ah ⟨[], [], []⟩ → Q .non H2
theorem okX_Atlas_init (T : Tx w K mg base) : FnOk P w K mg base (L2N.CX P w) 1 T.a_Atlas_init T.d_Atlas_init ["self"] (sp_Atlas_init T) := by
  refine okN T.F_Atlas_init sc_Atlas_init (fun vs H Q E h => ?_) (fun cdv A outer s H vs Q E hr h => ?_)
  · obtain ⟨p, dx, Hd, rfl, _⟩ := h
    rfl
  · obtain ⟨p, dx, Hd, rfl, hp, W, q⟩ := h
    have cl := T.Q_Atlas
    refine ⟨_, (pss_cons (ps_fld (pv 0) (pe_frz pe_dnewK) rfl)
      (pss_cons (ps_fld (pv 0) (pe_lst pa_nil) rfl)
      (pss_cons (ps_fld (pv 0) (pe_lst pa_nil) rfl)
      pss_nil))), Go.go ?_⟩
    show Go _ _ [some (.ref p)] H
    refine go_bindDF (C := fun te => tSeq (sFld K (tVar 0) te "logs") _) edf_new fun pl o H1 e1 f1 h1 => ?_
    refine go_fld (K := K) (v := .ref pl) ev_val (ev_var rfl) (e1 _ _ hp) cl T.na_Atlas_logs (by decide) ?_
    refine go_bindNil (C := fun te => tSeq (sFld K (tVar 0) te "past") _) fun pa H2 e2 f2 h2 => ?_
    have npl : pl ≠ p := fun z => by rw [z, hp] at f1; cases f1
    have i1 := e2 _ _ (upd_same (a := p))
    refine go_fld (K := K) (v := .ref pa) ev_val (ev_var rfl) i1 cl T.na_Atlas_past (by show 1 < 1000; decide) ?_
    refine go_bindNil (C := fun te => tSeq (sFld K (tVar 0) te "ahead") _) fun ah H3 e3 f3 h3 => ?_
    have i2 := e3 _ _ (upd_same (a := p))
    refine go_fld (K := K) (v := .ref ah) ev_val (ev_var rfl) i2 cl T.na_Atlas_ahead (by show 2 < 1000; decide) ?_
    refine go_next fun H4 e4 => ?_
    have npa : pa ≠ p := fun z => by rw [z, upd_same] at f2; cases f2
    have nah : ah ≠ p := fun z => by rw [z, upd_same] at f3; cases f3
    have f2' : H1 pa = none := by rw [upd_ne npa] at f2; exact f2
    have f3' : H2 ah = none := by rw [upd_ne nah] at f3; exact f3
    have j2 : H3 pa = some (.lst []) := e3 _ _ (by rw [upd_ne npa]; exact h2)
    have old1 : ∀ b u, b ≠ p → H1 b = some u → H2 b = some u := fun b u nb hb => e2 _ _ (by rw [upd_ne nb]; exact hb)
    have old2 : ∀ b u, b ≠ p → H2 b = some u → H3 b = some u := fun b u nb hb => e3 _ _ (by rw [upd_ne nb]; exact hb)
    have old : ∀ b u, b ≠ p → H b = some u → H4 b = some u := fun b u nb hb => e4 _ _ (by rw [upd_ne nb]; exact old2 _ _ nb (old1 _ _ nb (e1 _ _ hb)))
    have u1 : H4 p = some (.ins T.a_Atlas dx (atlF pl pa ah)) := e4 _ _ (by rw [upd_same]; rfl)
    have u2 : H4 pl = some (.frz o (.dK [])) := e4 _ _ (by rw [upd_ne npl]; exact old2 _ _ npl (old1 _ _ npl h1))
    have u3 : H4 pa = some (.lst []) := e4 _ _ (by rw [upd_ne npa]; exact j2)
    have u4 : H4 ah = some (.lst []) := e4 _ _ (by rw [upd_ne nah]; exact h3)
    have npaH : H pa = none := fresh_back e1 f2'
    have nahH : H ah = none := by
      cases hq : H ah with
      | none => rfl
      | some u =>
        have := old1 _ _ nah (e1 _ _ hq)
        rw [f3'] at this
        cases this
    have plN : Hd pl = none := fresh_back W.sub f1
    have g4 : GrW (tabsOf T) [p] Hd H Hd H4 := by
      refine GrW.chg W (fun b hb => hb) (fun b u hb nb => old b u (fun z => nb (by rw [z]; exact List.mem_cons_self)) hb) (fun b hb => ?_) (fun b hb => ?_)
      · rw [List.mem_singleton.mp hb]
        exact ⟨_, u1, noTb_ins⟩
      · rw [List.mem_singleton.mp hb]
        exact ntb_ins hp
    have g5 := g4.keep (newAt_none f1) plN u2 noTb_frz
    have pap : pa ≠ pl := fun z => by rw [z, h1] at f2'; cases f2'
    have ahp : ah ≠ pl := fun z => by
      have := old1 _ _ npl h1
      rw [z, this] at f3'
      cases f3'
    have paah : pa ≠ ah := fun z => by rw [z, f3'] at h2; cases h2
    refine q pa ah H4 _ npaH nahH (by rw [upd_ne pap]; exact fresh_back W.sub npaH) (by rw [upd_ne ahp]; exact fresh_back W.sub nahH) g5 ⟨⟨dx, pl, u1, o, [], upd_same, .nil⟩, ⟨_, u3, .nil⟩, ⟨_, u4, .nil⟩, paah, ⟨by simp, by simp⟩, by simp⟩
def sp_Atlas_log (T : Tx w K mg base) : Sp := fun vs H Q E => ∃ (a pa ah : Addr) (n : Str) (A : AtlM) (Hd : Hp), vs = [.ref a, .str n] ∧ AtlAt K T.a_Atlas T.a_Log Hd H a pa ah A ∧ Wld (tabsOf T) [] Hd H ∧
  (∀ l p2 d2 H2, getL A.logs n = some l → NewAt H p2 → NewAt H d2 → GrW (tabsOf T) [] Hd H Hd H2 → LogAt K T.a_Log Hd H2 p2 d2 l → Q (.ref p2) H2) ∧ (getL A.logs n = none → ∀ H2, Ex H H2 → E (.ref T.a_NoChart) none H2)
theorem okX_Atlas_log (T : Tx w K mg base) : FnOk P w K mg base (L2N.CX P w) 8 T.a_Atlas_log T.d_Atlas_log ["self", "name"] (sp_Atlas_log T) := by
  refine okN T.F_Atlas_log sc_Atlas_log (fun vs H Q E h => ?_) (fun cdv A outer s H vs Q E hr h => ?_)
  · obtain ⟨a, pa, ah, n, A, Hd, rfl, _⟩ := h
    rfl
  · obtain ⟨a, pa, ah, n, A, Hd, rfl, L, W, good, bad⟩ := h
    obtain ⟨⟨dx, pl, h1, hls⟩, _⟩ := L
    refine ⟨_, (pss_cons (ps_ret (pe_meth0 (pe_call (okX_log_of T) (hr.mono (by omega)) (by rfl) T.g_log_of T.F_log_of.kp T.b_log_of .nil (L2N.passes_call (L2N.takes_of rfl rfl rfl rfl) (fun _ _ _ _ h => h)) (pa_cons (pe_fld (pv 0) rfl) (pa_cons (pv 1) pa_nil))) T.Q_Log T.m_Log_twin (okX_Log_twin (P := P) (w := w) T) (hr.mono (by omega)) T.b_Log_twin .nil (L2N.passes_call (L2N.takes_of rfl rfl rfl rfl) (fun _ _ _ _ h => h))))
      pss_nil), Go.go ?_⟩
    show Go _ _ [some (.ref a), some (.str n)] H
    have ha : EvA (tCons (tFld K (tVar 0) "logs") (tCons (tVar 1) tNil)) [some (.ref a), some (.str n)] H [.ref pl, .str n] := ea_cons (ev_fld (ev_var rfl) h1 T.Q_Atlas T.na_Atlas_logs rfl) (ea_cons (ev_var rfl) ea_nil)
    cases hg : getL A.logs n with
    | none => exact go_raises (C := fun te => tSeq (tRet (tMeth T.a_Log "twin" (sp_Log_twin T) [] _ te tNil)) _) fun H1 Q1 e1 => tx_log_of T (ha.mono e1) hls (W.sub.trans e1) (fun l q d g => by rw [hg] at g; cases g) fun _ H2 e2 => bad hg H2 (e1.trans e2)
    | some l =>
      refine go_bind (C := fun te => tSeq (tRet (tMeth T.a_Log "twin" (sp_Log_twin T) [] _ te tNil)) _) (ew_log_of T (M := []) W ha hls hg) ?_
      rintro _ H1 Hn1 g1 ⟨e1, q1, d1, rfl, L1⟩
      obtain rfl := e1.symm
      have W1 := W.step g1
      refine go_retE' (ew_twin T W1 ev_val (L1.mono (Ex.refl _) W1.sub)) ?_
      rintro _ H2 Hn2 g2 ⟨e2, p2, d2, rfl, fp2, fd2, L2'⟩ H3 e3
      obtain rfl := e2.symm
      exact good l p2 d2 H3 hg ((newAt_none fp2).back g1) (fd2.back g1) ((g1.trans g2).post e3) (L2'.mono (Ex.refl _) e3)
theorem ok_BadText_init (T : Tx w K mg base) : FnOk P w K mg base CX0 1 T.a_BadText_init T.d_BadText_init ["self", "row"] (spInit T.a_BadText "row") := by
  refine T.F_BadText_init.ok sc_BadText_init (fun vs H Q E h => ?_) (fun cdv A outer s H vs Q E hr h => ?_)
  · obtain ⟨a, n, rfl, _⟩ := h
    rfl
  · obtain ⟨a, n, rfl, h0, h1, ha, q⟩ := h
    refine ⟨_, pss_cons (ps_expr (pe_baseInit (by rfl) T.x_TideError.g T.B_BadText (pa_cons (pv 0) (pa_cons (pe_nfn (pv 1)) pa_nil)))) (pss_cons (ps_ost (pv 0) (pv 1)) pss_nil), ?_⟩
    refine ⟨.ref a, rfl, ?_⟩
    refine nfn_run (i := 1) (n := n) h0 h1 (by decide) (by decide) rfl fun x => ?_
    refine ⟨a, T.a_BadText, [.str x], rfl, by simp, T.O_BadText, ha, ?_⟩
    exact ⟨.int n, rfl, .ref a, rfl, a, T.a_BadText, rfl, T.O_BadText, T.no_BadText, .inl ⟨ha, fun dx hd nd => q dx hd nd⟩⟩
theorem split_neG {y : Str} {s : Nat} (z : Str) (ey : TL.tl y = [s]) (hk : y.cps.all (· < 256) = true) : Txt.split z y ≠ [] := fun e => by
  have h := split_len z ey hk
  rw [e] at h
  simp at h
theorem split_neB (z : Str) : Txt.split z " " ≠ [] := split_neG z (s := 32) (by decide +kernel) (by decide +kernel)
theorem head_at {ls : List Str} (h : ls ≠ []) : atI (ls.map PyData.str) 0 = some (.str (ls.headD "")) := by
  cases ls with
  | nil => exact absurd rfl h
  | cons a l =>
    show atI _ ((0 : Nat) : Int) = _
    exact atI_nat rfl
def deedF : List (Str × List Str) := [("begin", ["name", "number", "number", "number"]), ("tell", ["name", "number", "number", "what", "number"]), ("right", ["name", "number", "what"]), ("strike", ["name", "number"]), ("drop", ["name"]), ("lay", ["name", "name", "number", "number", "number"])]
def lookF (z : Str) : Option (List Str) := (deedF.find? fun e => decide (e.1 = z)).map (·.2)
abbrev deedsKV (T : Tx w K mg base) : List (Str × V) := [("begin", .ref T.o_DEEDS_0), ("tell", .ref T.o_DEEDS_1), ("right", .ref T.o_DEEDS_2), ("strike", .ref T.o_DEEDS_3), ("drop", .ref T.o_DEEDS_4), ("lay", .ref T.o_DEEDS_5)]
theorem deeds_lookF (T : Tx w K mg base) (z : Str) : (∀ ks, lookF z = some ks → ∃ a, lookS z (deedsKV T) = some (.ref a) ∧ ks.length ≤ 5 ∧ ∀ H : Hp, Dp K H (.ref a) (.tuple (ks.map .str))) ∧ (lookF z = none → lookS z (deedsKV T) = none) := by
  unfold lookF lookS deedF
  simp only [List.find?_cons, List.find?_nil]
  cases decide (("begin" : Str) = z) with
  | true => exact ⟨fun ks e => by cases e; exact ⟨_, rfl, by simp, fun H => .tup (T.s_DEEDS_0 H) (Cot.dpa_strs (Hd := H) ["name", "number", "number", "number"])⟩, fun e => nomatch e⟩
  | false =>
  cases decide (("tell" : Str) = z) with
  | true => exact ⟨fun ks e => by cases e; exact ⟨_, rfl, by simp, fun H => .tup (T.s_DEEDS_1 H) (Cot.dpa_strs (Hd := H) ["name", "number", "number", "what", "number"])⟩, fun e => nomatch e⟩
  | false =>
  cases decide (("right" : Str) = z) with
  | true => exact ⟨fun ks e => by cases e; exact ⟨_, rfl, by simp, fun H => .tup (T.s_DEEDS_2 H) (Cot.dpa_strs (Hd := H) ["name", "number", "what"])⟩, fun e => nomatch e⟩
  | false =>
  cases decide (("strike" : Str) = z) with
  | true => exact ⟨fun ks e => by cases e; exact ⟨_, rfl, by simp, fun H => .tup (T.s_DEEDS_3 H) (Cot.dpa_strs (Hd := H) ["name", "number"])⟩, fun e => nomatch e⟩
  | false =>
  cases decide (("drop" : Str) = z) with
  | true => exact ⟨fun ks e => by cases e; exact ⟨_, rfl, by simp, fun H => .tup (T.s_DEEDS_4 H) (Cot.dpa_strs (Hd := H) ["name"])⟩, fun e => nomatch e⟩
  | false =>
  cases decide (("lay" : Str) = z) with
  | true => exact ⟨fun ks e => by cases e; exact ⟨_, rfl, by simp, fun H => .tup (T.s_DEEDS_5 H) (Cot.dpa_strs (Hd := H) ["name", "name", "number", "number", "number"])⟩, fun e => nomatch e⟩
  | false => exact ⟨(fun ks e => by cases e), fun _ => rfl⟩
theorem form_short {z : Str} {ks : List Str} (h : lookF z = some ks) : z.length ≤ 10 ∧ 1 ≤ ks.length ∧ ks.length ≤ 5 ∧ ks.head? = some ("name" : Str) := by
  unfold lookF at h
  obtain ⟨e, he, rfl⟩ := Option.map_eq_some_iff.mp h
  have hm := List.mem_of_find?_eq_some he
  have hz : e.1 = z := by simpa using List.find?_some he
  subst hz
  have all : ∀ e ∈ deedF, e.1.length ≤ 10 ∧ 1 ≤ e.2.length ∧ e.2.length ≤ 5 ∧ e.2.head? = some ("name" : Str) := by decide +kernel
  exact all e hm
def wordsT (w0 : Str) (ds : List PyData) : List Str := w0 :: List.zipWith thingT ((lookF w0).getD []) ds
def deedT (w0 : Str) (ds : List PyData) : Str := Txt.join " " (wordsT w0 ds)
theorem toString_short {n : Int} (h0 : 0 ≤ n) (h : n < 10 ^ 40) : (Str.ofString (toString n)).length ≤ 40 := toString_length_le h0 (k := 40) (by decide) h
theorem sum_le (l : List Str) (m : Nat) (h : ∀ z ∈ l, z.length ≤ m) : (l.map (·.length)).sum ≤ l.length * m := by
  induction l with
  | nil => simp
  | cons a l ih =>
    have h1 := h a List.mem_cons_self
    have h2 := ih fun z hz => h z (List.mem_cons_of_mem _ hz)
    rw [List.map_cons, List.sum_cons, List.length_cons, Nat.add_mul, Nat.one_mul]
    omega
def goodT (k : Str) (d : PyData) : Prop := (k = "name" ∧ ∃ z : Str, d = .str z ∧ isNameS z = true) ∨ (k = "number" ∧ ∃ n : Int, d = .int n ∧ 0 ≤ n ∧ n < 1000000) ∨ (k = "what" ∧ ∃ n : Int, d = .int n ∧ -2 ≤ n ∧ n < 1000000)
def goodTs : List Str → List PyData → Prop
  | [], [] => True
  | k :: ks, d :: ds => goodT k d ∧ goodTs ks ds
  | _, _ => False
def GoodDeed (w0 : Str) (es : List PyData) : Prop := ∃ ks, lookF w0 = some ks ∧ goodTs ks es
theorem goodTs_len : ∀ {ks : List Str} {ds : List PyData}, goodTs ks ds → ds.length = ks.length
  | [], [], _ => rfl
  | k :: ks, d :: ds, h => by rw [List.length_cons, List.length_cons, goodTs_len h.2]
theorem goodTs_get : ∀ {ks : List Str} {ds : List PyData} {i : Nat} {k : Str} {d : PyData}, goodTs ks ds → ks[i]? = some k → ds[i]? = some d → goodT k d
  | k0 :: ks, d0 :: ds, 0, k, d, h, h1, h2 => by
    cases h1
    cases h2
    exact h.1
  | k0 :: ks, d0 :: ds, i + 1, k, d, h, h1, h2 => goodTs_get (i := i) h.2 (by simpa using h1) (by simpa using h2)
def readDeed (z : Str) : Option (Str × List PyData) := match lookF ((Txt.split z " ").headD "") with
  | none => none
  | some ks => match readTs ks (Txt.split z " ").tail with
    | .list es => some ((Txt.split z " ").headD "", es)
    | _ => none
def spRDeed (K : PySem.W.Frag) (C : Addr) : Sp := fun vs H Q E => ∃ (Hd : Hp) (z : Str), vs = [.str z] ∧ Ex Hd H ∧ z.length ≤ 20000 ∧
  match readDeed z with
  | none => ∀ H2 d, Ex H H2 → H2 d = none → E (.ref C) (some d) (upd H2 d (.xd [("row", .int 0)]))
  | some (w0, es) => ∀ v H2 Hn, Gr Hd H Hn H2 → Dp K Hn v (.tuple (.str w0 :: es)) → Q v H2
theorem readTs_none {ks ws : List Str} : readTs ks ws = .none ∨ ∃ es, readTs ks ws = .list es := by
  unfold readTs
  split
  · split
    · exact .inl rfl
    · exact .inr ⟨_, rfl⟩
  · exact .inl rfl
theorem numL_head : ∀ n : Nat, 10 ≤ n → (TL.numL n).head? ≠ some 48 := by
  intro n
  induction n using Nat.strongRecOn with
  | _ n ih =>
    intro h
    rw [TL.numL_step h]
    by_cases h2 : n / 10 < 10
    · rw [TL.numL_lt h2]
      simp only [List.singleton_append, List.head?_cons, ne_eq, Option.some.injEq]
      omega
    · have := ih (n / 10) (by omega) (by omega)
      rw [List.head?_append]
      cases hh : (TL.numL (n / 10)).head? with
      | none => exact absurd (List.head?_eq_none_iff.mp hh) (TL.numL_ne _)
      | some c =>
        rw [hh] at this
        exact this
theorem figs_in : ∀ k, 48 ≤ k → k ≤ 57 → decide (k ∈ figuresS.cps.toList) = true := by
  intro k h1 h2
  have : ∀ j : Fin 10, decide (48 + j.val ∈ figuresS.cps.toList) = true := by decide +kernel
  have h := this ⟨k - 48, by omega⟩
  have e : 48 + (k - 48) = k := by omega
  simpa only [e] using h
theorem num_tl (n : Nat) : (Str.ofString (toString ((n : Nat) : Int))).cps.toList = TL.numL n := TL.tl_num n
theorem readNum_num {n : Int} (h0 : 0 ≤ n) (h1 : n < 1000000) : readNum (Str.ofString (toString n)) = some n := by
  obtain ⟨m, rfl⟩ : ∃ m : Nat, n = (m : Int) := ⟨n.toNat, by omega⟩
  have hl : (Str.ofString (toString ((m : Nat) : Int))).length = (TL.numL m).length := by rw [← num_tl]; simp [Str.length]
  have l6 : (TL.numL m).length ≤ 6 := TL.numL_len (by decide) (by omega)
  have l1 : 1 ≤ (TL.numL m).length := List.length_pos_iff.mpr (TL.numL_ne m)
  have hf : figsB (Str.ofString (toString ((m : Nat) : Int))) = true := by
    unfold figsB
    rw [hl, num_tl, decide_eq_true l1, decide_eq_true l6, List.all_eq_true.mpr fun c hc => ?_]
    · rfl
    · have := TL.numL_digits m c hc
      exact figs_in c this.1 this.2
  unfold readNum
  rw [if_pos hf, hl, num_tl, TL.numL_val]
  rw [if_neg]
  intro hh
  rw [Bool.and_eq_true, decide_eq_true_eq, decide_eq_true_eq] at hh
  by_cases h10 : m < 10
  · rw [TL.numL_lt h10] at hh
    simp at hh
  · exact numL_head m (by omega) hh.2
theorem land_free : (32 : Nat) ∉ TL.tl "land" ∧ (32 : Nat) ∉ TL.tl "sea" := by decide +kernel
theorem num_not {n : Int} (h0 : 0 ≤ n) : Str.ofString (toString n) ≠ "land" ∧ Str.ofString (toString n) ≠ "sea" := by
  obtain ⟨m, rfl⟩ : ∃ m : Nat, n = (m : Int) := ⟨n.toNat, by omega⟩
  have hd := TL.numL_digits m
  constructor
  · intro e
    have := congrArg TL.tl e
    rw [TL.tl_num] at this
    have h := hd 108 (by rw [this]; decide +kernel)
    omega
  · intro e
    have := congrArg TL.tl e
    rw [TL.tl_num] at this
    have h := hd 115 (by rw [this]; decide +kernel)
    omega
theorem num_free {n : Int} (h0 : 0 ≤ n) : (32 : Nat) ∉ TL.tl (Str.ofString (toString n)) := by
  obtain ⟨m, rfl⟩ : ∃ m : Nat, n = (m : Int) := ⟨n.toNat, by omega⟩
  rw [TL.tl_num]
  exact TL.numL_free (.inl (by omega))
theorem name_free {z : Str} (h : isNameS z = true) : (32 : Nat) ∉ TL.tl z := fun hm => by
  unfold isNameS at h
  rw [Bool.and_eq_true] at h
  have := letters_all 32 (of_decide_eq_true (List.all_eq_true.mp h.2 32 hm))
  omega
/-- a thing that is written is read back -/
theorem thing_back {k : Str} {d : PyData} (h : (k = "name" ∧ ∃ z : Str, d = .str z ∧ isNameS z = true) ∨ (k = "number" ∧ ∃ n : Int, d = .int n ∧ 0 ≤ n ∧ n < 1000000) ∨ (k = "what" ∧ ∃ n : Int, d = .int n ∧ -2 ≤ n ∧ n < 1000000)) : readT k (thingT k d) = d ∧ (32 : Nat) ∉ TL.tl (thingT k d) ∧ d ≠ .none := by
  rcases h with ⟨rfl, z, rfl, hz⟩ | ⟨rfl, n, rfl, h0, h1⟩ | ⟨rfl, n, rfl, h0, h1⟩
  · refine ⟨?_, name_free hz, by simp⟩
    unfold readT
    rw [if_pos rfl]
    show (if isNameS z = true then _ else _) = _
    rw [if_pos hz]
    rfl
  · have e : thingT "number" (.int n) = Str.ofString (toString n) := by rw [thingT_int, if_neg (by decide +kernel)]
    rw [e]
    refine ⟨?_, num_free h0, by simp⟩
    unfold readT
    rw [if_neg (by decide +kernel), if_neg (by decide +kernel), readNum_num h0 h1]
    rfl
  · have e : thingT "what" (.int n) = whatT n := by rw [thingT_int, if_pos rfl]
    rw [e]
    have hr : readT "what" (whatT n) = oD (readWhat (whatT n)) := by
      unfold readT
      rw [if_neg (by decide +kernel), if_pos rfl]
    rw [hr]
    refine ⟨?_, ?_, by simp⟩
    · by_cases e1 : n = -1
      · have : readWhat (whatT (-1)) = some (-1) := by decide +kernel
        rw [e1, this]; rfl
      by_cases e2 : n = -2
      · have : readWhat (whatT (-2)) = some (-2) := by decide +kernel
        rw [e2, this]; rfl
      obtain ⟨n1, n2⟩ := num_not (n := n) (by omega)
      unfold whatT readWhat
      rw [if_neg e1, if_neg e2, if_neg n1, if_neg n2, readNum_num (by omega) h1]
      rfl
    · unfold whatT
      by_cases e1 : n = -1
      · rw [if_pos e1]; exact land_free.1
      by_cases e2 : n = -2
      · rw [if_neg e1, if_pos e2]; exact land_free.2
      rw [if_neg e1, if_neg e2]
      exact num_free (by omega)
theorem forms_free : ∀ e ∈ deedF, decide ((32 : Nat) ∈ TL.tl e.1) = false := by decide +kernel
theorem form_free {w0 : Str} {ks : List Str} (h : lookF w0 = some ks) : (32 : Nat) ∉ TL.tl w0 := by
  unfold lookF at h
  obtain ⟨e, he, rfl⟩ := Option.map_eq_some_iff.mp h
  have hm := List.mem_of_find?_eq_some he
  have hz : e.1 = w0 := by simpa using List.find?_some he
  subst hz
  exact of_decide_eq_false (forms_free e hm)
theorem deed_split {w0 : Str} {es : List PyData} (h : GoodDeed w0 es) : Txt.split (deedT w0 es) " " = wordsT w0 es := by
  obtain ⟨ks, hk, ht⟩ := h
  unfold deedT
  refine TL.split_join (y := " ") (s := 32) (S := []) (by decide +kernel) (by decide +kernel) (by unfold wordsT; simp) fun p hp => ?_
  have hW : wordsT w0 es = w0 :: List.zipWith thingT ks es := by unfold wordsT; rw [hk]; rfl
  rw [hW] at hp
  rcases List.mem_cons.mp hp with rfl | hp
  · exact form_free hk
  · obtain ⟨i, hi, rfl⟩ := List.getElem_of_mem hp
    rw [List.getElem_zipWith]
    rw [List.length_zipWith] at hi
    exact (thing_back (goodTs_get ht (List.getElem?_eq_getElem (by omega)) (List.getElem?_eq_getElem (by omega)))).2.1
theorem read_back {w0 : Str} {es : List PyData} (h : GoodDeed w0 es) : readDeed (deedT w0 es) = some (w0, es) := by
  have hs := deed_split h
  obtain ⟨ks, hk, ht⟩ := h
  have hl := goodTs_len ht
  have hW : wordsT w0 es = w0 :: List.zipWith thingT ks es := by unfold wordsT; rw [hk]; rfl
  unfold readDeed
  rw [hs, hW]
  show (match lookF w0 with | none => _ | some ks => _) = _
  rw [hk]
  have hz : List.zipWith readT ks (List.zipWith thingT ks es) = es := by
    apply List.ext_getElem
    · simp [hl]
    · intro i h1 h2
      simp only [List.getElem_zipWith]
      exact (thing_back (goodTs_get ht (List.getElem?_eq_getElem (by omega)) (List.getElem?_eq_getElem h2))).1
  have hn : es.any (fun d => PyData.eqv d .none) = false := by
    rw [List.any_eq_false]
    intro d hd
    obtain ⟨i, hi, rfl⟩ := List.getElem_of_mem hd
    have := goodTs_get ht (List.getElem?_eq_getElem (by omega : i < ks.length)) (List.getElem?_eq_getElem hi)
    rcases this with ⟨_, z, e, _⟩ | ⟨_, n, e, _⟩ | ⟨_, n, e, _⟩ <;> rw [e] <;> exact Bool.false_ne_true
  have hR : readTs ks (List.zipWith thingT ks es) = .list es := by
    unfold readTs
    rw [if_pos (by simp [hl]), hz, if_neg (by rw [hn]; decide)]
  show (match readTs ks (List.zipWith thingT ks es) with | .list es => some (w0, es) | _ => none) = _
  rw [hR]
def lineT (x : AtD) : Str := deedT x.word x.ds
/-- a deed that a page can tell -/
def PlainD (x : AtD) : Prop := GoodDeed x.word x.ds
theorem thing_short {k : Str} {d : PyData} (h : goodT k d) : (thingT k d).length ≤ 8 := by
  have num : ∀ n : Int, 0 ≤ n → n < 1000000 → (Str.ofString (toString n)).length ≤ 8 := fun n h0 h1 => by
    obtain ⟨m, rfl⟩ : ∃ m : Nat, n = (m : Int) := ⟨n.toNat, by omega⟩
    have hl : (Str.ofString (toString ((m : Nat) : Int))).length = (TL.numL m).length := by rw [← num_tl]; simp [Str.length]
    have l6 : (TL.numL m).length ≤ 6 := TL.numL_len (by decide) (by omega)
    omega
  rcases h with ⟨rfl, z, rfl, hz⟩ | ⟨rfl, n, rfl, h0, h1⟩ | ⟨rfl, n, rfl, h0, h1⟩
  · unfold isNameS at hz
    simp only [Bool.and_eq_true, decide_eq_true_eq] at hz
    show z.length ≤ 8
    omega
  · rw [thingT_int, if_neg (by decide +kernel)]
    exact num n h0 h1
  · rw [thingT_int, if_pos rfl]
    unfold whatT
    split
    · decide +kernel
    split
    · decide +kernel
    · exact num n (by omega) h1
theorem line_short {x : AtD} (h : PlainD x) : (lineT x).length ≤ 66 := by
  obtain ⟨ks, hk, ht⟩ := h
  obtain ⟨f1, f2, f3, _⟩ := form_short hk
  have hl := goodTs_len ht
  have hW : wordsT x.word x.ds = x.word :: List.zipWith thingT ks x.ds := by unfold wordsT; rw [hk]; rfl
  have h3 := join_len " " (wordsT x.word x.ds)
  have h4 := sum_le (wordsT x.word x.ds) 10 fun z hz => by
    rw [hW] at hz
    rcases List.mem_cons.mp hz with rfl | hz
    · exact f1
    · obtain ⟨i, hi, rfl⟩ := List.getElem_of_mem hz
      have hi2 := hi
      rw [List.length_zipWith] at hi2
      have ik : i < ks.length := by omega
      have ix : i < x.ds.length := by omega
      rw [List.getElem_zipWith]
      have := thing_short (goodTs_get ht (List.getElem?_eq_getElem ik) (List.getElem?_eq_getElem ix))
      omega
  have h5 : (wordsT x.word x.ds).length ≤ 6 := by
    rw [hW, List.length_cons, List.length_zipWith]
    omega
  rw [show Str.length " " = 1 by decide +kernel] at h3
  have h6 : (wordsT x.word x.ds).length * 10 ≤ 6 * 10 := Nat.mul_le_mul_right _ h5
  unfold lineT deedT
  omega
theorem plain_begin {n : Str} {c h w : Int} (hn : isNameS n = true) (h1 : 0 ≤ c ∧ c < 1000000) (h2 : 0 ≤ h ∧ h < 1000000) (h3 : 0 ≤ w ∧ w < 1000000) : PlainD (.begin n c h w) := ⟨["name", "number", "number", "number"], (show lookF "begin" = some (["name", "number", "number", "number"] : List Str) by decide +kernel), .inl ⟨rfl, n, rfl, hn⟩, .inr (.inl ⟨rfl, c, rfl, h1⟩), .inr (.inl ⟨rfl, h, rfl, h2⟩), .inr (.inl ⟨rfl, w, rfl, h3⟩), trivial⟩
theorem plain_tell {n : Str} {r k o y : Int} (hn : isNameS n = true) (h1 : 0 ≤ r ∧ r < 1000000) (h2 : 0 ≤ k ∧ k < 1000000) (h3 : -2 ≤ o ∧ o < 1000000) (h4 : 0 ≤ y ∧ y < 1000000) : PlainD (.tell n r k o y) := ⟨["name", "number", "number", "what", "number"], (show lookF "tell" = some (["name", "number", "number", "what", "number"] : List Str) by decide +kernel), .inl ⟨rfl, n, rfl, hn⟩, .inr (.inl ⟨rfl, r, rfl, h1⟩), .inr (.inl ⟨rfl, k, rfl, h2⟩), .inr (.inr ⟨rfl, o, rfl, h3⟩), .inr (.inl ⟨rfl, y, rfl, h4⟩), trivial⟩
theorem plain_lay {n m : Str} {t l y : Int} (hn : isNameS n = true) (hm : isNameS m = true) (h1 : 0 ≤ t ∧ t < 1000000) (h2 : 0 ≤ l ∧ l < 1000000) (h4 : 0 ≤ y ∧ y < 1000000) : PlainD (.lay n m t l y) := ⟨["name", "name", "number", "number", "number"], (show lookF "lay" = some (["name", "name", "number", "number", "number"] : List Str) by decide +kernel), .inl ⟨rfl, n, rfl, hn⟩, .inl ⟨rfl, m, rfl, hm⟩, .inr (.inl ⟨rfl, t, rfl, h1⟩), .inr (.inl ⟨rfl, l, rfl, h2⟩), .inr (.inl ⟨rfl, y, rfl, h4⟩), trivial⟩
theorem plain_drop {n : Str} (hn : isNameS n = true) : PlainD (.drop n) := ⟨["name"], (show lookF "drop" = some (["name"] : List Str) by decide +kernel), .inl ⟨rfl, n, rfl, hn⟩, trivial⟩
theorem log2_small {n : Int} (h0 : 0 ≤ n) (h : n < 10 ^ 6) : n.natAbs.log2 < 1920 := log2_40 (by omega) (by omega)
theorem plain_head {x : AtD} (h : PlainD x) : (Txt.split (lineT x) " ").headD "" = x.word := by
  unfold lineT
  rw [deed_split h]
  rfl
/-- a deed that can be written is never refused for its name -/
theorem plain_nn {x : AtD} {ls : LogsM} (h : PlainD x) : actR ls x ≠ .no .name := by
  cases x with
  | begin n c hh wi =>
    have hn : isNameS n = true := by
      obtain ⟨ks, hk, ht⟩ := h
      have hk : lookF "begin" = some ks := hk
      rw [show lookF "begin" = some (["name", "number", "number", "number"] : List Str) by decide +kernel] at hk
      cases hk
      rcases ht.1 with ⟨_, z, e, hz⟩ | ⟨z, _⟩ | ⟨z, _⟩
      · cases e
        exact hz
      · exact absurd z (by decide +kernel)
      · exact absurd z (by decide +kernel)
    show beginR ls (.begin n c hh wi) ≠ _
    unfold beginR
    dsimp only
    rw [hn]
    dsimp only
    repeat (split <;> try (intro z; cases z))
  | tell n r k o y =>
    show tellR ls (.tell n r k o y) ≠ _
    unfold tellR
    dsimp only
    repeat (split <;> try (intro z; cases z))
  | right n m o =>
    show rightR ls (.right n m o) ≠ _
    unfold rightR
    dsimp only
    repeat (split <;> try (intro z; cases z))
  | strike n m =>
    show strikeR ls (.strike n m) ≠ _
    unfold strikeR
    dsimp only
    repeat (split <;> try (intro z; cases z))
  | drop n =>
    show dropR ls (.drop n) ≠ _
    unfold dropR
    dsimp only
    repeat (split <;> try (intro z; cases z))
  | lay n o t l y =>
    show layR ls (.lay n o t l y) ≠ _
    unfold layR
    dsimp only
    repeat (split <;> try (intro z; cases z))
theorem okX_read_deed (T : Tx w K mg base) : FnOk P w K mg base (L2N.CX P w) 5 T.a_read_deed T.d_read_deed ["text"] (spRDeed K T.a_BadText) := by
  refine okN T.F_read_deed sc_read_deed (fun vs H Q E h => ?_) (fun cdv A outer s H vs Q E hr h => ?_)
  · obtain ⟨Hd, z, rfl, _⟩ := h
    rfl
  · obtain ⟨Hd, z, rfl, sx, hz, q⟩ := h
    have hne := split_neB z
    have hsl := split_len z (y := " ") (s := 32) (by decide +kernel) (by decide +kernel)
    unfold readDeed at q
    refine ⟨_, (pss_cons (ps_set (i := 1) sc_read_deed.nd rfl (.inl rfl) (pe_spl (pv 0) pe_str))
      (pss_cons (ps_if (pt_cmpR (r := rInDK K w true) (op_notInDK (by rfl) (by rfl)) (pe_ix (r := rIxL K) ix_list (pv 1) pe_int (fun _ _ => rfl)) (pe_glob (v := .ref T.o_DEEDS) rfl T.c_DEEDS rfl) (by rfl)) (pss_cons (L2N.ps_raise rfl (L2N.takes_of rfl rfl rfl rfl) (pmk_oexN T.O_BadText T.i_BadText T.it_BadText (ok_BadText_init (P := P) (w := w) T) (hr.mono (by omega)) T.b_BadText_init .nil pass0 (by rfl) T.x_BadText.g (pa_cons pe_int pa_nil)))
      pss_nil) pss_nil)
      (pss_cons (ps_set (i := 2) sc_read_deed.nd rfl (.inl rfl) (pe_call (ok_read_things (P := P) (w := w) T) (hr.mono (by omega)) (by rfl) T.g_read_things T.F_read_things.kp T.b_read_things .nil pass0 (pa_cons (pe_ix (r := rIxD K w) (ix_dk (by rfl) (by rfl)) (pe_glob (v := .ref T.o_DEEDS) rfl T.c_DEEDS rfl) (pe_ix (r := rIxL K) ix_list (pv 1) pe_int (fun _ _ => rfl)) (fun _ _ => rfl)) (pa_cons (pe_slice (r := rSlL K) sl_list (pv 1) (po_some pe_int) po_none) pa_nil))))
      (pss_cons (ps_if (pt_cmpR op_isN (pv 2) pe_non (nomark _)) (pss_cons (L2N.ps_raise rfl (L2N.takes_of rfl rfl rfl rfl) (pmk_oexN T.O_BadText T.i_BadText T.it_BadText (ok_BadText_init (P := P) (w := w) T) (hr.mono (by omega)) T.b_BadText_init .nil pass0 (by rfl) T.x_BadText.g (pa_cons pe_int pa_nil)))
      pss_nil) pss_nil)
      (pss_cons (ps_ret (pe_tup (pa_cons (pe_ix (r := rIxL K) ix_list (pv 1) pe_int (fun _ _ => rfl)) (StX.pa_star (pv 2) pa_nil))))
      pss_nil))))), Go.go ?_⟩
    refine go_asgD (K := K) (d := .list ((Txt.split z " ").map .str)) sx (ed_new (en_split (ev_var rfl) ev_c (by decide +kernel) (by omega))) fun v1 H2 D2 g2 h2 => ?_
    generalize Txt.split z " " = ws at hne hsl q h2
    have hh := head_at hne
    have hwl : ∀ x ∈ ws, x.length ≤ 30000 := fun x hx => by have := sum_mem hx; omega
    obtain ⟨look1, look0⟩ := deeds_lookF T (ws.headD "")
    refine go_when (b := !(lookF (ws.headD "")).isSome) (EvT.mono g2.sub (et_is (et_test (ev_inDK (neg := true) (ev_str (K := K) (ed_ixL (ed_var rfl h2) ev_c hh)) ev_c T.k_DEEDS)) ?_)) (fun e => ?_) (fun e => ?_)
    · cases hF : lookF (ws.headD "") with
      | none => rw [look0 hF]; rfl
      | some ks =>
        obtain ⟨a, ha, _⟩ := look1 ks hF
        rw [ha]
        rfl
    · have hF : lookF (ws.headD "") = none := by simpa using e
      rw [hF] at q
      intro H3 e3
      exact mkO_run (n := 0) (by omega) (by omega) (ea_cons ev_c ea_nil) fun H4 d e4 nd => q H4 d ((g2.ex.trans e3).trans e4) nd
    obtain ⟨ks, hF⟩ : ∃ ks, lookF (ws.headD "") = some ks := by
      cases hF : lookF (ws.headD "") with
      | none => rw [hF] at e; simp at e
      | some ks => exact ⟨ks, rfl⟩
    rw [hF] at q
    obtain ⟨a, ha, hkl, hTu⟩ := look1 ks hF
    refine go_asgD (K := K) (d := readTs ks ws.tail) g2.sub (ed_call (eda_cons (ed_ev (ev_ixDK ev_c (ev_str (K := K) (ed_ixL (ed_var rfl h2) ev_c hh)) T.k_DEEDS ha) (hTu D2)) (eda_cons (ed_new (en_from (j := 1) (ed_var rfl h2) ev_c)) eda_nil)) ⟨ks, ws.tail, ?_, by omega, fun x hx => hwl x (List.mem_of_mem_tail hx), rfl⟩) fun v2 H3 D3 g3 h3 => ?_
    · rw [← List.map_drop, List.drop_one]
    have h2' := dp_mono g3.dx _ h2
    rcases readTs_none (ks := ks) (ws := ws.tail) with hR | ⟨es, hR⟩
    · rw [hR] at h3
      cases h3
      refine go_whenT (et_is (et_test (ev_op (ev_var rfl) ev_c rv_isN)) (decide_eq_true rfl)) ?_
      dsimp only at q
      rw [hR] at q
      intro H4 e4
      exact mkO_run (n := 0) (by omega) (by omega) (ea_cons ev_c ea_nil) fun H5 d e5 nd => q H5 d (((g2.trans g3).ex.trans e4).trans e5) nd
    · rw [hR] at h3
      dsimp only at q
      rw [hR] at q
      have hv2 : v2 ≠ .non := fun z => by rw [z] at h3; cases h3
      refine go_whenF (et_is (et_test (ev_op (ev_var rfl) ev_c rv_isN)) (decide_eq_false hv2)) ?_
      have hE : EvD K (tTup (tCons (tOp (rIxL K) (tVar 1) (tC (.int 0))) (StX.tStar K (tVar 2) tNil))) [some (.str z), some v1, some v2] D3 (.tuple (.str (ws.headD "") :: (es ++ []))) := ed_tup (eda_cons (ed_ixL (ed_var rfl h2') ev_c hh) (eda_star (ed_var rfl h3) eda_nil)) (by
        have : (PyData.list es) = readTs ks ws.tail := hR.symm
        unfold readTs at this
        have hlen : es.length ≤ ks.length := by
          split at this
          · split at this
            · cases this
            · cases this
              simp
              omega
          · cases this
        simp
        omega)
      rw [List.append_nil] at hE
      exact go_ret g3.sub hE fun v H4 D4 g4 h4 => q v H4 D4 ((g2.trans g3).trans g4) h4
theorem ev_ifYes {σ : L2.St} {H : Hp} {t : TT} {ta tb : TE} {x : V} (h : EvT t σ H true) (h1 : Ev ta σ H x) : Ev (tIf t ta tb) σ H x := fun H1 e1 Q q => h H1 e1 _ fun H2 e2 => by
  show (if true = true then _ else _)
  rw [if_pos rfl]
  exact h1 H2 (e1.trans e2) Q fun H3 e3 => q H3 (e2.trans e3)
theorem ev_ifNo {σ : L2.St} {H : Hp} {t : TT} {ta tb : TE} {x : V} (h : EvT t σ H false) (h1 : Ev tb σ H x) : Ev (tIf t ta tb) σ H x := fun H1 e1 Q q => h H1 e1 _ fun H2 e2 => by
  show (if false = true then _ else _)
  rw [if_neg (by decide)]
  exact h1 H2 (e1.trans e2) Q fun H3 e3 => q H3 (e2.trans e3)
/-- what a context evaluates first, whatever comes of it -/
theorem go_hoist {C : TE → TS} {te : TE} {σ : L2.St} {H : Hp} {D : Ends} (h : ∀ H1, Ex H H1 → te σ H1 fun v H2 => C (tVal v) D σ H2) (hC : ∀ te D σ H, C te D σ H = te σ H fun v H1 => C (tVal v) D σ H1 := by intros; rfl) : Go (C te) D σ H := fun H1 e1 => by
  rw [hC]
  exact h H1 e1
def toldT : V → Str
  | .int n => Str.ofString (toString n)
  | _ => "done"
/-- what a deed told by a line comes to: nothing is asked but that what is told is short -/
def spAnsD (T : Tx w K mg base) : Sp := fun vs H Q E => ∃ (a pa ah : Addr) (z : Str) (A : AtlM) (Hd : Hp), vs = [.ref a, .str z] ∧ AtlAt K T.a_Atlas T.a_Log Hd H a pa ah A ∧ Wld (tabsOf T) [a, pa, ah] Hd H ∧ A.past.length < 50000 ∧ z.length ≤ 20000 ∧
  match readDeed z with
  | none => ∀ H2 d, Ex H H2 → H2 d = none → E (.ref T.a_BadText) (some d) (upd H2 d (.xd [("row", .int 0)]))
  | some (w0, es) => ∃ x : AtD, x.d = .tuple (.str w0 :: es) ∧ x.fit ∧ (∀ ls' v, actR A.logs x = .ok ls' v → (v = .non ∨ ∃ n : Int, v = .int n ∧ n.natAbs.log2 < 1920) ∧
      ∀ H2 Hn, GrW (tabsOf T) [a, pa, ah] Hd H Hn H2 → AtlAt K T.a_Atlas T.a_Log Hn H2 a pa ah (doA A ls' x.d) → Q (.str (toldT v)) H2) ∧ BadA T E Hd H (actR A.logs x)
theorem okX_answer_deed (T : Tx w K mg base) : FnOk P w K mg base (L2N.CX P w) 10 T.a_answer_deed T.d_answer_deed ["atlas", "line"] (spAnsD T) := by
  refine okN T.F_answer_deed sc_answer_deed (fun vs H Q E h => ?_) (fun cdv A0 outer s H vs Q E hr h => ?_)
  · obtain ⟨a, pa, ah, z, A, Hd, rfl, _⟩ := h
    rfl
  · obtain ⟨a, pa, ah, z, A, Hd, rfl, L, W, hl, hz, h⟩ := h
    refine ⟨_, (pss_cons (ps_set (i := 2) sc_answer_deed.nd rfl (.inl rfl) (pe_meth (pv 0) T.Q_Atlas T.m_Atlas_do (okX_Atlas_do (P := P) (w := w) T) (hr.mono (by omega)) T.b_Atlas_do .nil (L2N.passes_call (L2N.takes_of rfl rfl rfl rfl) (fun _ _ _ _ h => h)) (pa_cons (pe_call (okX_read_deed T) (hr.mono (by omega)) (by rfl) T.g_read_deed T.F_read_deed.kp T.b_read_deed .nil (L2N.passes_call (L2N.takes_of rfl rfl rfl rfl) (fun _ _ _ _ h => h)) (pa_cons (pv 1) pa_nil)) pa_nil)))
      (pss_cons (ps_ret (pe_ifExp (pt_cmpR op_isN (pv 2) pe_non (nomark _)) pe_str (pe_callTy (r := rStr) call_strQ (by rfl) T.n_str (by decide +kernel) (pa_cons (pv 2) pa_nil))))
      pss_nil)), Go.go ?_⟩
    show Go _ _ [some (.ref a), some (.str z), none] H
    obtain ⟨⟨dx, pl, h1, _⟩, _⟩ := id L
    refine go_hoist (C := fun te => tSeq (tAsg te (gName 2)) _) fun H1 e1 => ?_
    refine (ev_var (i := 0) (v := .ref a) (σ := [some (.ref a), some (.str z), none]) rfl) H1 (Ex.refl _) _ fun H2 e2 => ⟨a, dx, _, rfl, (e1.trans e2) _ _ h1, rfl, ?_⟩
    show tCall (spRDeed K T.a_BadText) [] E (tCons (tVar 1) tNil) [some (.ref a), some (.str z), none] H2 _
    refine (show EvA (tCons (tVar 1) tNil) [some (.ref a), some (.str z), none] H2 [.str z] from ea_cons (ev_var rfl) ea_nil) H2 (Ex.refl _) _ fun H3 e3 => ?_
    have e13 := (e1.trans e2).trans e3
    refine ⟨Hd, z, rfl, W.sub.trans e13, hz, ?_⟩
    cases hr : readDeed z with
    | none =>
      rw [hr] at h
      exact fun H4 d e4 nd => h H4 d (e13.trans e4) nd
    | some y =>
      obtain ⟨w0, es⟩ := y
      rw [hr] at h
      obtain ⟨x, hx, fit, good, bad⟩ := h
      dsimp only
      rw [← hx]
      intro v H4 Hn g hd
      have gW : GrW (tabsOf T) [] Hd H (noT Hn) H4 := (GrW.of (W.ext e13) g).pre e13
      have hdx : Dp K (noT Hn) v x.d := dp_noT _ hd
      obtain ⟨t, rfl, hs⟩ := dp_deed hdx
      have hxl : (V.str x.word :: x.vals).length < 1000 := by cases x <;> simp [AtD.vals]
      refine ⟨a, pa, ah, t, A, _, _, noT Hn, rfl, L.step gW (by simp) (by simp) (by simp), W.step gW, hl, hdx, hs, .inr ⟨_, _, rfl⟩, hxl, fun z => ?_, fun y hy => ?_, fun _ => ⟨x, rfl⟩⟩
      · rw [form_word] at z
        cases z
      have hy := AtD.inj hy
      subst hy
      refine ⟨fit, fun ls' v2 hr2 H5 Hm g2 L5 => ?_, bad.pre gW⟩
      obtain ⟨hv, fin⟩ := good ls' v2 hr2
      have gg := (gW.sup (M' := [a, pa, ah]) (by simp)).trans g2
      refine (go_asg ev_val ?_ : Go _ _ _ H5) H5 (Ex.refl _)
      show Go _ _ [some (.ref a), some (.str z), some v2] H5
      rcases hv with rfl | ⟨n, rfl, hn⟩
      · exact go_retV (ev_ifYes (et_is (et_test (ev_op (ev_var rfl) ev_c rv_isN)) (decide_eq_true rfl)) ev_c) fun H6 e6 => fin H6 Hm (gg.post e6) (L5.mono (Ex.refl _) e6)
      · exact go_retV (ev_ifNo (et_is (et_test (ev_op (ev_var rfl) ev_c rv_isN)) (decide_eq_false (by simp))) (ev_strI (ev_var rfl) hn)) fun H6 e6 => fin H6 Hm (gg.post e6) (L5.mono (Ex.refl _) e6)
structure Th where
  pl : List Addr
  R : Hp → Hp → Prop
  step : ∀ {Tt : List (Addr × Str)} {M : List Addr} {Hk H Hn H2 : Hp}, R Hk H → GrW Tt M Hk H Hn H2 → (∀ a ∈ pl, a ∉ M) → R Hn H2
  old : ∀ {Hk H : Hp}, R Hk H → ∀ a ∈ pl, ∃ o, H a = some o ∧ NoTb o
  nd : ∀ {Hk H : Hp}, R Hk H → pl.Nodup
def plT : List Th → List Addr
  | [] => []
  | t :: r => t.pl ++ plT r
theorem plT_mem : ∀ {ts : List Th} {x : Th}, x ∈ ts → ∀ a ∈ x.pl, a ∈ plT ts
  | y :: r, x, h, a, ha => by
    rcases List.mem_cons.mp h with rfl | h
    · exact List.mem_append_left _ ha
    · exact List.mem_append_right _ (plT_mem h a ha)
theorem bx_apart {H : Hp} {b : Bid} (B : Bx H b) : b.b ≠ b.ca := fun z => by
  obtain ⟨cells, xs, h1, ⟨pos, rest, turn, seed, rfl, _⟩, h3, _⟩ := B
  rw [z, h3] at h1
  have := HO.lst.inj (Option.some.inj h1)
  cases cells with
  | nil => cases this
  | cons c cs =>
    rw [List.map_cons] at this
    cases (List.cons.inj this).1
structure Many (Tt : List (Addr × Str)) (b : Bid) (ts : List Th) (Hk H : Hp) : Prop where
  W : Wld Tt (b.b :: plT ts) Hk H
  B : Bx H b
  all : ∀ t ∈ ts, t.R Hk H
  nd : (b.b :: b.ca :: plT ts).Nodup
section
variable {Tt : List (Addr × Str)} {b : Bid} {ts us r : List Th} {x y z : Th} {Hk H Hn H2 : Hp} {M : List Addr}
theorem Many.stepM (t : Many Tt b ts Hk H) (g : GrW Tt M Hk H Hn H2) (h : ∀ a ∈ plT ts, a ∉ M) (B2 : Bx H2 b) : Many Tt b ts Hn H2 := ⟨t.W.step g, B2, fun x hx => x.step (t.all x hx) g fun a ha => h a (plT_mem hx a ha), t.nd⟩
theorem Many.stepN (t : Many Tt b ts Hk H) (g : GrW Tt [] Hk H Hn H2) : Many Tt b ts Hn H2 := t.stepM g (fun a _ z => by cases z) (bx_step t.B g (by simp) (by simp))
theorem Many.ext (t : Many Tt b ts Hk H) (e : Ex H H2) : Many Tt b ts Hk H2 := t.stepN (GrW.ext t.W e)
theorem Many.stepB (t : Many Tt b ts Hk H) (g : GrW Tt [b.b] Hk H Hn H2) (B2 : Bx H2 b) : Many Tt b ts Hn H2 := t.stepM g (fun a ha z => by
  have n := t.nd
  rw [List.nodup_cons] at n
  rw [List.mem_singleton] at z
  subst z
  exact n.1 (List.mem_cons_of_mem _ ha)) B2
theorem Many.one : Wld Tt [b.b] Hk H → Bx H b → Many Tt b [] Hk H := fun W B => ⟨W, B, fun t h => (by cases h), by
  have := bx_apart B
  show ([b.b, b.ca] : List Addr).Nodup
  simp [this]⟩
theorem Many.far (t : Many Tt b (x :: r) Hk H) : (∀ a ∈ x.pl, a ∉ plT r) ∧ b.b ∉ x.pl ∧ b.ca ∉ x.pl := by
  have n := t.nd
  show _ ∧ _
  have e : plT (x :: r) = x.pl ++ plT r := rfl
  rw [e] at n
  simp only [List.nodup_cons, List.mem_cons, List.mem_append, not_or, List.nodup_append] at n
  exact ⟨fun a ha hr => n.2.2.2.2 a ha a hr rfl, n.1.2.1, n.2.1.1⟩
theorem Many.stepH (t : Many Tt b (x :: r) Hk H) (g : GrW Tt M Hk H Hn H2) (hm : ∀ a ∈ M, a ∈ x.pl) (hp : y.pl = x.pl) (hy : y.R Hn H2) : Many Tt b (y :: r) Hn H2 := by
  obtain ⟨n1, n2, n3⟩ := t.far
  have e : plT (y :: r) = plT (x :: r) := by
    show y.pl ++ _ = x.pl ++ _
    rw [hp]
  refine ⟨by rw [e]; exact t.W.step g, bx_step t.B g (fun z => n2 (hm _ z)) (fun z => n3 (hm _ z)), fun u hu => ?_, by rw [e]; exact t.nd⟩
  rcases List.mem_cons.mp hu with rfl | hu
  · exact hy
  · exact u.step (t.all u (List.mem_cons_of_mem _ hu)) g fun a ha z => n1 a (hm a z) (plT_mem hu a ha)
theorem Many.head (t : Many Tt b (x :: r) Hk H) : x.R Hk H := t.all _ List.mem_cons_self
theorem Many.WH (t : Many Tt b (x :: r) Hk H) : Wld Tt x.pl Hk H := t.W.sup fun _ ha => List.mem_cons_of_mem _ (List.mem_append_left _ ha)
theorem Many.WB (t : Many Tt b ts Hk H) : Wld Tt [b.b] Hk H := t.W.sup fun a ha => by
  rw [List.mem_singleton.mp ha]
  exact List.mem_cons_self
theorem Many.drop (t : Many Tt b (x :: r) Hk H) : Many Tt b r Hk H := ⟨t.W.sup fun a ha => by
  rcases List.mem_cons.mp ha with rfl | ha
  · exact List.mem_cons_self
  · exact List.mem_cons_of_mem _ (List.mem_append_right _ ha), t.B, fun u hu => t.all u (List.mem_cons_of_mem _ hu), by
  have n := t.nd
  have e : plT (x :: r) = x.pl ++ plT r := rfl
  rw [e] at n
  exact n.sublist (((List.sublist_append_right x.pl (plT r)).cons_cons b.ca).cons_cons b.b)⟩
theorem Many.fresh (t : Many Tt b ts Hk H) {a : Addr} (n : NewAt H a) : a ∉ b.b :: b.ca :: plT ts := fun z => by
  obtain ⟨cells, xs, hb, _, hc, _⟩ := t.B
  rcases List.mem_cons.mp z with z | z
  · exact n.ne hb noTb_lst z.symm
  rcases List.mem_cons.mp z with z | z
  · exact n.ne hc noTb_lst z.symm
  · obtain ⟨_, o, h, no⟩ := t.W.mn a (List.mem_cons_of_mem _ z)
    exact n o h no
theorem Many.add (t : Many Tt b ts Hk H) (g : GrW Tt [] Hk H Hn H2) (f1 : ∀ a ∈ x.pl, NewAt H a) (f2 : ∀ a ∈ x.pl, Hn a = none) (hx : x.R Hn H2) : Many Tt b (x :: ts) Hn H2 := by
  have t2 := t.stepN g
  refine ⟨⟨t2.W.sub, t2.W.nt, t2.W.tb, fun a ha => ?_⟩, t2.B, fun u hu => ?_, ?_⟩
  · rcases List.mem_cons.mp ha with rfl | ha
    · exact t2.W.mn _ List.mem_cons_self
    rcases List.mem_append.mp ha with ha | ha
    · obtain ⟨o, h1, h2⟩ := x.old hx a ha
      exact ⟨f2 a ha, o, h1, h2⟩
    · exact t2.W.mn _ (List.mem_cons_of_mem _ ha)
  · rcases List.mem_cons.mp hu with rfl | hu
    · exact hx
    · exact t2.all u hu
  · have n := t.nd
    have e : plT (x :: ts) = x.pl ++ plT ts := rfl
    rw [e]
    have k := fun a ha => t.fresh (f1 a ha)
    have nx := x.nd hx
    simp only [List.nodup_cons, List.mem_cons, List.mem_append, not_or, List.nodup_append] at n k ⊢
    refine ⟨⟨n.1.1, fun z => (k _ z).1 rfl, n.1.2⟩, ⟨fun z => (k _ z).2.1 rfl, n.2.1⟩, nx, n.2.2, fun a ha c hc z => ?_⟩
    subst z
    exact (k a ha).2.2 hc
end
theorem ew_newA (T : Tx w K mg base) {σ : L2.St} {Hd H : Hp} {E : XK} {M : List Addr} (W : Wld (tabsOf T) M Hd H) : EvW (tabsOf T) [] (tMake T.a_Atlas (sp_Atlas_init T) [] E tNil) σ Hd H (fun v Hn H2 => ∃ a pa ah, v = .ref a ∧ NewAt H a ∧ NewAt H pa ∧ NewAt H ah ∧ Hn a = none ∧ Hn pa = none ∧ Hn ah = none ∧ AtlAt K T.a_Atlas T.a_Log Hn H2 a pa ah ⟨[], [], []⟩) := fun H1 e1 Q q p dx hp hd hne => by
  have eN : Ex H1 (upd (upd H1 dx (.own p)) p (.ins T.a_Atlas dx [])) := (Ex.new hd).trans (Ex.new (by rw [upd_ne hne.symm]; exact hp))
  have e2 := e1.trans eN
  have W2 := W.nil.ext e2
  have xH : H p = none := fresh_back e1 hp
  have hx0 : Hd p = none := fresh_back W.sub xH
  refine ⟨p, dx, Hd, rfl, upd_same, W2.add hx0 upd_same noTb_ins, fun pa ah H2 Hn f1 f2 n1 n2 g L => ⟨rfl, ?_⟩⟩
  have gg : GrW (tabsOf T) [] Hd H1 Hn H2 := ⟨fun a o ha n z => g.ex a o (eN _ _ ha) (fun hm => by rw [List.mem_singleton.mp hm, hp] at ha; cases ha) z, g.dx, g.sub, fun a o ha => g.fr a o (eN _ _ ha), g.nt, g.tb, fun a o ha => g.al a o (eN _ _ ha)⟩
  exact q _ H2 Hn gg ⟨p, pa, ah, rfl, newAt_none xH, newAt_none (fresh_back e2 f1), newAt_none (fresh_back e2 f2), g.fr p _ upd_same noTb_ins hx0, n1, n2, L⟩
theorem xm_row {A B : List Addr} {M : List (List (Option Bool))} {i : Nat} {x : Addr} {r : List (Option Bool)} (h : A.map (fun x => B.map fun y => PySem.W.exmOne K (.ref x) (.ref y)) = M) (hx : A[i]? = some x) (hm : M[i]? = some r) : (B.map fun y => PySem.W.exmOne K (.ref x) (.ref y)) = r := by
  rw [← h, List.getElem?_map, hx] at hm
  exact Option.some.inj hm
theorem wMix_row {D : Ends} {cls : Value} {d : Option Addr} {σ : L2.St} {H : Hp} {c : Value} {ts : Addr → Value → Option Addr → TS} {o : Option Nat} {rest : List (Option Bool)} (hit : wMix K D [(c, ts, o)] cls d σ H) : ∀ {k : Nat} {B : List Addr} {r : List (Option Bool)} {l : List (Value × (Addr → Value → Option Addr → TS) × Option Nat)},
    (B.map fun y => PySem.W.exmOne K cls (.ref y)) = r → l.map (·.1) = B.map Value.ref → r = List.replicate k (some false) ++ some true :: rest → l[k]? = some (c, ts, o) → wMix K D l cls d σ H
  | 0, B, r, l, hr, hl, hk, hts => by
    cases l with
    | nil => simp at hts
    | cons e l =>
      simp only [List.getElem?_cons_zero, Option.some.injEq] at hts
      subst hts
      cases B with
      | nil => simp at hl
      | cons y B =>
        rw [List.map_cons, List.map_cons] at hl
        have e1 : c = .ref y := (List.cons.inj hl).1
        rw [List.map_cons, hk] at hr
        have e2 : PySem.W.exmOne K cls (.ref y) = some true := (List.cons.inj hr).1
        rw [← e1] at e2
        cases o with
        | none =>
          obtain ⟨b, h1, h2, h3⟩ := hit
          rw [e2] at h1
          cases h1
          exact ⟨true, e2, fun _ => h2 rfl, fun z => nomatch z⟩
        | some i =>
          obtain ⟨b, h1, h2, h3⟩ := hit
          rw [e2] at h1
          cases h1
          exact ⟨true, e2, fun _ => h2 rfl, fun z => nomatch z⟩
  | k + 1, B, r, l, hr, hl, hk, hts => by
    cases l with
    | nil => simp at hts
    | cons e l =>
      rw [List.getElem?_cons_succ] at hts
      cases B with
      | nil => simp at hl
      | cons y B =>
        rw [List.map_cons, List.map_cons] at hl
        obtain ⟨e1, hl2⟩ := List.cons.inj hl
        rw [List.map_cons, hk, List.replicate_succ, List.cons_append] at hr
        obtain ⟨e2, hr2⟩ := List.cons.inj hr
        rw [← e1] at e2
        have ih := wMix_row hit (k := k) hr2 hl2 rfl hts
        obtain ⟨c', ts', o'⟩ := e
        cases o' with
        | none => exact ⟨false, e2, (fun z => nomatch z), fun _ => ih⟩
        | some i => exact ⟨false, e2, (fun z => nomatch z), fun _ => ih⟩
def refT : EA → Str
  | .er .clock => "no clock"
  | .er .square => "no square"
  | .er .hour => "no hour"
  | .er .day => "no day"
  | .er .full => "full"
  | .name => "no line"
  | .taken => "taken"
  | .gone => "no chart"
  | .unlike => "unlike"
def sayT : ActR → Str
  | .ok _ v => toldT v
  | .entry m => catS Str.empty ["no entry of ", Str.ofString (toString m)]
  | .no e => refT e
/-- the questions' words, and what goes with them -/
def lineF : List (Str × List Str) := [("undo", []), ("redo", []), ("names", []), ("page", []), ("log", ["name"]), ("chart", ["name", "number"]), ("knots", ["name", "number"]), ("whole", ["name", "number"]), ("ages", ["name", "number"]), ("weight", ["name", "number"]), ("bar", ["name", "number"]), ("may", ["name", "number", "number", "number"])]
def lineK (z : Str) : Option (List Str) := (lineF.find? fun e => decide (e.1 = z)).map (·.2)
def linesKV (T : Tx w K mg base) : List (Str × V) := [("undo", .ref T.o_LINES_0), ("redo", .ref T.o_LINES_1), ("names", .ref T.o_LINES_2), ("page", .ref T.o_LINES_3), ("log", .ref T.o_LINES_4), ("chart", .ref T.o_LINES_5), ("knots", .ref T.o_LINES_6), ("whole", .ref T.o_LINES_7), ("ages", .ref T.o_LINES_8), ("weight", .ref T.o_LINES_9), ("bar", .ref T.o_LINES_10), ("may", .ref T.o_LINES_11)]
theorem lines_none (T : Tx w K mg base) {z : Str} (h : lineK z = none) : lookS z (linesKV T) = none := by
  unfold lineK at h
  rw [Option.map_eq_none_iff, List.find?_eq_none] at h
  unfold lookS linesKV
  rw [Option.map_eq_none_iff, List.find?_eq_none]
  intro e he
  have : ∃ e' ∈ lineF, e'.1 = e.1 := by
    simp only [List.mem_cons, List.not_mem_nil, or_false] at he
    rcases he with rfl | rfl | rfl | rfl | rfl | rfl | rfl | rfl | rfl | rfl | rfl | rfl <;> simp [lineF]
  obtain ⟨e', h1, h2⟩ := this
  rw [← h2]
  exact h e' h1
/-- what a line's words come to where the first one is no question's -/
def spAns (T : Tx w K mg base) : Sp := fun vs H Q E => ∃ (a pa ah : Addr) (z : Str) (A : AtlM) (Hd : Hp), vs = [.ref a, .str z] ∧ AtlAt K T.a_Atlas T.a_Log Hd H a pa ah A ∧ Wld (tabsOf T) [a, pa, ah] Hd H ∧ A.past.length < 50000 ∧ z.length ≤ 20000 ∧ lineK ((Txt.split z " ").headD "") = none ∧
  match readDeed z with
  | none => ∀ H2 d, Ex H H2 → H2 d = none → E (.ref T.a_BadText) (some d) (upd H2 d (.xd [("row", .int 0)]))
  | some (w0, es) => ∃ x : AtD, x.d = .tuple (.str w0 :: es) ∧ x.fit ∧ (∀ ls' v, actR A.logs x = .ok ls' v → (v = .non ∨ ∃ n : Int, v = .int n ∧ n.natAbs.log2 < 1920) ∧
      ∀ H2 Hn, GrW (tabsOf T) [a, pa, ah] Hd H Hn H2 → AtlAt K T.a_Atlas T.a_Log Hn H2 a pa ah (doA A ls' x.d) → Q (.str (toldT v)) H2) ∧ BadA T E Hd H (actR A.logs x)
theorem okX_answer (T : Tx w K mg base) : FnOk P w K mg base (L2N.CX P w) 11 T.a_answer T.d_answer ["atlas", "line"] (spAns T) := by
  refine okN T.F_answer sc_answer (fun vs H Q E h => ?_) (fun cdv A0 outer s H vs Q E hr h => ?_)
  · obtain ⟨a, pa, ah, z, A, Hd, rfl, _⟩ := h
    rfl
  · obtain ⟨a, pa, ah, z, A, Hd, rfl, L, W, hl, hz, hw, h⟩ := h
    refine ⟨_, (pss_cons (ps_set (i := 2) sc_answer.nd rfl (.inl rfl) (pe_spl (pv 1) pe_str))
      (pss_cons (ps_if (pt_cmpR (r := rInDK K w true) (op_notInDK (by rfl) (by rfl)) (pe_ix (r := rIxL K) ix_list (pv 2) pe_int (fun _ _ => rfl)) (pe_glob (v := .ref T.o_LINES) rfl T.c_LINES rfl) (by rfl)) (pss_cons (ps_ret (pe_call (okX_answer_deed T) (hr.mono (by omega)) (by rfl) T.g_answer_deed T.F_answer_deed.kp T.b_answer_deed .nil (L2N.passes_call (L2N.takes_of rfl rfl rfl rfl) (fun _ _ _ _ h => h)) (pa_cons (pv 0) (pa_cons (pv 1) pa_nil))))
      pss_nil) pss_nil)
      pss_nev)), Go.go ?_⟩
    show Go _ _ [some (.ref a), some (.str z), none, none, none] H
    have hne := split_neB z
    have hsl := split_len z (y := " ") (s := 32) (by decide +kernel) (by decide +kernel)
    refine go_asgD (K := K) (d := .list ((Txt.split z " ").map .str)) W.sub (ed_new (en_split (ev_var rfl) ev_c (by decide +kernel) (by omega))) fun v1 H2 D2 g2 h2 => ?_
    have hh := head_at hne
    show Go _ _ [some (.ref a), some (.str z), some v1, none, none] H2
    refine go_whenT (EvT.mono g2.sub (et_is (et_test (ev_inDK (neg := true) (ev_str (K := K) (ed_ixL (ed_var rfl h2) ev_c hh)) ev_c T.k_LINES)) (by
      show (!(lookS _ (linesKV T)).isSome) = true
      rw [lines_none T hw]
      rfl))) ?_
    refine go_hoist (C := fun te => tSeq (tRet te) _) fun H3 e3 => ?_
    refine (show EvA (tCons (tVar 0) (tCons (tVar 1) tNil)) [some (.ref a), some (.str z), some v1, none, none] H3 [.ref a, .str z] from ea_cons (ev_var rfl) (ea_cons (ev_var rfl) ea_nil)) H3 (Ex.refl _) _ fun H4 e4 => ?_
    have e14 := (g2.ex.trans e3).trans e4
    refine ⟨a, pa, ah, z, A, Hd, rfl, L.mono (Ex.refl _) e14, W.ext e14, hl, hz, ?_⟩
    cases hr : readDeed z with
    | none =>
      rw [hr] at h
      exact fun H5 d e5 nd => h H5 d (e14.trans e5) nd
    | some y =>
      obtain ⟨w0, es⟩ := y
      rw [hr] at h
      obtain ⟨x, hx, fit, good, bad⟩ := h
      refine ⟨x, hx, fit, fun ls' v hr2 => ?_, bad.pre (GrW.ext W e14)⟩
      obtain ⟨hv, fin⟩ := good ls' v hr2
      exact ⟨hv, fun H5 Hn g L5 => (go_retV ev_val fun H6 e6 => fin H6 Hn ((g.pre e14).post e6) (L5.mono (Ex.refl _) e6) : Go _ _ _ H5) H5 (Ex.refl _)⟩
structure DskAt (K : PySem.W.Frag) (CD CA CL : Addr) (Hd H : Hp) (d a pa ah : Addr) (A : AtlM) : Prop where
  ob : ∃ dx, H d = some (.ins CD dx [("held", .ref a)])
  at_ : AtlAt K CA CL Hd H a pa ah A
section
variable {CD CA CL d a pa ah : Addr} {Hd Hn H H2 : Hp} {A : AtlM}
theorem DskAt.mono (dx : Ex Hd Hn) (e : Ex H H2) (h : DskAt K CD CA CL Hd H d a pa ah A) : DskAt K CD CA CL Hn H2 d a pa ah A := by
  obtain ⟨⟨x, h1⟩, h2⟩ := h
  exact ⟨⟨x, e _ _ h1⟩, h2.mono dx e⟩
theorem DskAt.step {Tt : List (Addr × Str)} {M : List Addr} (h : DskAt K CD CA CL Hd H d a pa ah A) (g : GrW Tt M Hd H Hn H2) (n0 : d ∉ M) (n1 : a ∉ M) (n2 : pa ∉ M) (n3 : ah ∉ M) : DskAt K CD CA CL Hn H2 d a pa ah A := by
  obtain ⟨⟨x, h1⟩, h2⟩ := h
  exact ⟨⟨x, g.ex _ _ h1 n0 noTb_ins⟩, h2.step g n1 n2 n3⟩
theorem DskAt.ne (h : DskAt K CD CA CL Hd H d a pa ah A) : d ≠ a ∧ d ≠ pa ∧ d ≠ ah := by
  obtain ⟨⟨x, h1⟩, ⟨_, _, h2, _⟩, ⟨_, h3, _⟩, ⟨_, h5, _⟩, _⟩ := h
  refine ⟨fun z => ?_, fun z => (by rw [z, h3] at h1; cases h1), fun z => (by rw [z, h5] at h1; cases h1)⟩
  rw [z, h2] at h1
  have := (HO.ins.inj (Option.some.inj h1)).2.2
  simp [atlF] at this
/-- the desk's atlas has changed, the desk itself has not -/
theorem DskAt.chg {Tt : List (Addr × Str)} {A2 : AtlM} (h : DskAt K CD CA CL Hd H d a pa ah A) (g : GrW Tt [a, pa, ah] Hd H Hn H2) (L : AtlAt K CA CL Hn H2 a pa ah A2) : DskAt K CD CA CL Hn H2 d a pa ah A2 := by
  obtain ⟨n1, n2, n3⟩ := h.ne
  obtain ⟨⟨x, h1⟩, _⟩ := h
  exact ⟨⟨x, g.ex _ _ h1 (by simp [n1, n2, n3]) noTb_ins⟩, L⟩
end
def dskTh (K : PySem.W.Frag) (CD CA CL d a pa ah : Addr) (A : AtlM) : Th where
  pl := [d, a, pa, ah]
  R Hk H := DskAt K CD CA CL Hk H d a pa ah A
  step h g n := h.step g (n _ (by simp)) (n _ (by simp)) (n _ (by simp)) (n _ (by simp))
  old h x hx := by
    obtain ⟨⟨_, h0⟩, ⟨_, _, h1, _⟩, ⟨_, h3, _⟩, ⟨_, h5, _⟩, _⟩ := h
    simp only [List.mem_cons, List.not_mem_nil, or_false] at hx
    rcases hx with rfl | rfl | rfl | rfl
    · exact ⟨_, h0, noTb_ins⟩
    · exact ⟨_, h1, noTb_ins⟩
    · exact ⟨_, h3, noTb_lst⟩
    · exact ⟨_, h5, noTb_lst⟩
  nd h := by
    obtain ⟨m1, m2, m3⟩ := h.ne
    obtain ⟨n1, n2, n3⟩ := h.at_.ne3
    simp [m1, m2, m3, n1, n2, n3]
def sp_Desk_init (T : Tx w K mg base) : Sp := fun vs H Q _ => ∃ (d dx : Addr) (Hd : Hp), vs = [.ref d] ∧ H d = some (.ins T.a_Desk dx []) ∧ Wld (tabsOf T) [d] Hd H ∧
  ∀ a pa ah H2 Hn, NewAt H a → NewAt H pa → NewAt H ah → Hn a = none → Hn pa = none → Hn ah = none → GrW (tabsOf T) [d] Hd H Hn H2 → DskAt K T.a_Desk T.a_Atlas T.a_Log Hn H2 d a pa ah ⟨[], [], []⟩ → Q .non H2
theorem okX_Desk_init (T : Tx w K mg base) : FnOk P w K mg base (L2N.CX P w) 5 T.a_Desk_init T.d_Desk_init ["self"] (sp_Desk_init T) := by
  refine okN T.F_Desk_init sc_Desk_init (fun vs H Q E h => ?_) (fun cdv A outer s H vs Q E hr h => ?_)
  · obtain ⟨d, dx, Hd, rfl, _⟩ := h
    rfl
  · obtain ⟨d, dx, Hd, rfl, hd, W, q⟩ := h
    refine ⟨_, (pss_cons (ps_fld (pv 0) (pe_make0 T.M_Atlas (okX_Atlas_init (P := P) (w := w) T) (hr.mono (by omega)) (by rfl) T.x_Atlas.g T.b_Atlas_init .nil (L2N.passes_call (L2N.takes_of rfl rfl rfl rfl) (fun _ _ _ _ h => h))) rfl)
      pss_nil), Go.go ?_⟩
    show Go _ _ [some (.ref d)] H
    refine go_bind (M := []) (C := fun te => tSeq (sFld K (tVar 0) te "held") _) (ew_newA T W) ?_
    rintro _ H2 Hn2 g2 ⟨a, pa, ah, rfl, f1, f2, f3, n1, n2, n3, L2'⟩
    have W2 := W.step g2
    have hd2 := g2.ex _ _ hd (by simp) noTb_ins
    refine go_fld (K := K) (v := .ref a) ev_val (ev_var rfl) hd2 T.Q_Desk T.na_Desk_held (by decide) ?_
    refine go_next fun H3 e3 => ?_
    have far : a ≠ d ∧ pa ≠ d ∧ ah ≠ d := ⟨(f1.ne hd noTb_ins).symm, (f2.ne hd noTb_ins).symm, (f3.ne hd noTb_ins).symm⟩
    have g3 : GrW (tabsOf T) [d] Hn2 H2 Hn2 (upd H2 d (.ins T.a_Desk dx (putF "held" (.ref a) []))) := GrW.chg W2 (fun b hb => hb) (fun b u hb nb => by rw [upd_ne (fun z => nb (by rw [z]; exact List.mem_cons_self))]; exact hb) (fun b hb => by
      rw [List.mem_singleton.mp hb]
      exact ⟨_, upd_same, noTb_ins⟩) (fun b hb => by
      rw [List.mem_singleton.mp hb]
      exact ntb_ins hd2)
    have g := ((g2.sup (M' := [d]) (by simp)).trans g3).post e3
    refine q a pa ah H3 Hn2 f1 f2 f3 n1 n2 n3 g ⟨⟨dx, e3 _ _ (by rw [upd_same]; rfl)⟩, (L2'.step g3 ?_ ?_ ?_).mono (Ex.refl _) e3⟩
    · simpa using far.1
    · simpa using far.2.1
    · simpa using far.2.2
theorem ew_newD (T : Tx w K mg base) {σ : L2.St} {Hd H : Hp} {E : XK} {M : List Addr} (W : Wld (tabsOf T) M Hd H) : EvW (tabsOf T) [] (tMake T.a_Desk (sp_Desk_init T) [] E tNil) σ Hd H (fun v Hn H2 => ∃ d a pa ah, v = .ref d ∧ NewAt H d ∧ NewAt H a ∧ NewAt H pa ∧ NewAt H ah ∧ Hn d = none ∧ Hn a = none ∧ Hn pa = none ∧ Hn ah = none ∧ DskAt K T.a_Desk T.a_Atlas T.a_Log Hn H2 d a pa ah ⟨[], [], []⟩) := fun H1 e1 Q q p dx hp hd hne => by
  have eN : Ex H1 (upd (upd H1 dx (.own p)) p (.ins T.a_Desk dx [])) := (Ex.new hd).trans (Ex.new (by rw [upd_ne hne.symm]; exact hp))
  have e2 := e1.trans eN
  have W2 := W.nil.ext e2
  have xH : H p = none := fresh_back e1 hp
  have hx0 : Hd p = none := fresh_back W.sub xH
  refine ⟨p, dx, Hd, rfl, upd_same, W2.add hx0 upd_same noTb_ins, fun a pa ah H2 Hn f1 f2 f3 n1 n2 n3 g L => ⟨rfl, ?_⟩⟩
  have gg : GrW (tabsOf T) [] Hd H1 Hn H2 := ⟨fun a o ha n z => g.ex a o (eN _ _ ha) (fun hm => by rw [List.mem_singleton.mp hm, hp] at ha; cases ha) z, g.dx, g.sub, fun a o ha => g.fr a o (eN _ _ ha), g.nt, g.tb, fun a o ha => g.al a o (eN _ _ ha)⟩
  exact q _ H2 Hn gg ⟨p, a, pa, ah, rfl, newAt_none xH, f1.ext e2, f2.ext e2, f3.ext e2, g.fr p _ upd_same noTb_ins hx0, n1, n2, n3, L⟩
theorem go_bindList {C : TE → TS} {ta : TE} {σ : L2.St} {H : Hp} {D : Ends} {p : Addr} {xs : List V} (h : Ev ta σ H (.ref p)) (hl : H p = some (.lst xs)) (k : ∀ q H2, Ex H H2 → H q = none → H2 q = some (.lst xs) → Go (C (tVal (.ref q))) D σ H2) (hC : ∀ te D σ H, C te D σ H = te σ H fun v H1 => C (tVal v) D σ H1 := by intros; rfl) : Go (C (tCB (rListS K) (tCons ta tNil))) D σ H := fun H1 e1 => by
  rw [hC]
  exact h H1 e1 _ fun H2 e2 => ⟨p, xs, rfl, .inl (sq_of ((e1.trans e2) _ _ hl)), fun q hq => k q _ ((e1.trans e2).trans (Ex.new hq)) (fresh_back (e1.trans e2) hq) upd_same _ (Ex.refl _)⟩
def sp_Atlas_twin (T : Tx w K mg base) : Sp := fun vs H Q _ => ∃ (a pa ah : Addr) (A : AtlM) (Hd : Hp), vs = [.ref a] ∧ AtlAt K T.a_Atlas T.a_Log Hd H a pa ah A ∧ Wld (tabsOf T) [] Hd H ∧
  ∀ a2 p2 h2 H2 Hn, NewAt H a2 → NewAt H p2 → NewAt H h2 → Hn a2 = none → Hn p2 = none → Hn h2 = none → GrW (tabsOf T) [] Hd H Hn H2 → AtlAt K T.a_Atlas T.a_Log Hn H2 a2 p2 h2 A → Q (.ref a2) H2
theorem okX_Atlas_twin (T : Tx w K mg base) : FnOk P w K mg base (L2N.CX P w) 5 T.a_Atlas_twin T.d_Atlas_twin ["self"] (sp_Atlas_twin T) := by
  refine okN T.F_Atlas_twin sc_Atlas_twin (fun vs H Q E h => ?_) (fun cdv A0 outer s H vs Q E hr h => ?_)
  · obtain ⟨a, pa, ah, A, Hd, rfl, _⟩ := h
    rfl
  · obtain ⟨a, pa, ah, A, Hd, rfl, L, W, q⟩ := h
    have cl := T.Q_Atlas
    refine ⟨_, (pss_cons (ps_set (i := 1) sc_Atlas_twin.nd rfl (.inl rfl) (pe_make0 T.M_Atlas (okX_Atlas_init (P := P) (w := w) T) (hr.mono (by omega)) (by rfl) T.x_Atlas.g T.b_Atlas_init .nil (L2N.passes_call (L2N.takes_of rfl rfl rfl rfl) (fun _ _ _ _ h => h))))
      (pss_cons (ps_fld (pv 1) (pe_fld (pv 0) rfl) rfl)
      (pss_cons (ps_fld (pv 1) (pe_callTy (r := rListS K) call_listQ (by rfl) T.n_list (by decide +kernel) (pa_cons (pe_fld (pv 0) rfl) pa_nil)) rfl)
      (pss_cons (ps_fld (pv 1) (pe_callTy (r := rListS K) call_listQ (by rfl) T.n_list (by decide +kernel) (pa_cons (pe_fld (pv 0) rfl) pa_nil)) rfl)
      (pss_cons (ps_ret (pv 1))
      pss_nil))))), Go.go ?_⟩
    show Go _ _ [some (.ref a), none] H
    refine go_asgE (ew_newA T W) ?_
    rintro _ H1 Hn1 g1 ⟨b, pb, bh, rfl, f1, f2, f3, n1, n2, n3, L1⟩
    have W1 := W.step g1
    have La := L.step g1 (by simp) (by simp) (by simp)
    show Go _ _ [some (.ref a), some (.ref b)] H1
    obtain ⟨⟨dx, pl, k1, k2⟩, ⟨xs, k3, k4⟩, ⟨ys, k5, k6⟩, ne, ok, few⟩ := id La
    obtain ⟨⟨dy, pm, j1, _⟩, ⟨xs0, j3, _⟩, ⟨ys0, j5, _⟩, ne0, _, _⟩ := id L1
    have ba : b ≠ a := fun z => by
      obtain ⟨_, _, o1, _⟩ := L.ob
      exact f1.ne o1 noTb_ins z.symm
    have bpa : b ≠ pa := fun z => by
      obtain ⟨_, o1, _⟩ := L.ps
      exact f1.ne o1 noTb_lst z.symm
    have bah : b ≠ ah := fun z => by
      obtain ⟨_, o1, _⟩ := L.as
      exact f1.ne o1 noTb_lst z.symm
    refine go_fld (K := K) (v := .ref pl) (ev_fld (ev_var rfl) k1 cl T.na_Atlas_logs rfl) (ev_var rfl) j1 cl T.na_Atlas_logs (by show 3 < 1000; decide) ?_
    -- what stands beside the new one stays
    have a2 : ∀ {x : Addr} {o o' : HO}, b ≠ x → H1 x = some o → (upd H1 b o') x = some o := fun h z => by rw [upd_ne (Ne.symm h)]; exact z
    refine go_bindList (K := K) (C := fun te => tSeq (sFld K (tVar 1) te "past") _) (ev_fld (ev_var rfl) (a2 ba k1) cl T.na_Atlas_past rfl) (a2 bpa k3) fun p2 H2 e2 fp2 hp2 => ?_
    have p2b : p2 ≠ b := fun z => by rw [z, upd_same] at fp2; cases fp2
    refine go_fld (K := K) (v := .ref p2) ev_val (ev_var rfl) (e2 _ _ upd_same) cl T.na_Atlas_past (by show 3 < 1000; decide) ?_
    have a3 : ∀ {x : Addr} {o o' : HO}, b ≠ x → H1 x = some o → (upd H2 b o') x = some o := fun h z => by rw [upd_ne (Ne.symm h)]; exact e2 _ _ (by rw [upd_ne (Ne.symm h)]; exact z)
    refine go_bindList (K := K) (C := fun te => tSeq (sFld K (tVar 1) te "ahead") _) (ev_fld (ev_var rfl) (a3 ba k1) cl T.na_Atlas_ahead rfl) (a3 bah k5) fun h3 H3 e3 fh3 hh3 => ?_
    have h3b : h3 ≠ b := fun z => by rw [z, upd_same] at fh3; cases fh3
    refine go_fld (K := K) (v := .ref h3) ev_val (ev_var rfl) (e3 _ _ upd_same) cl T.na_Atlas_ahead (by show 3 < 1000; decide) ?_
    refine go_retV (ev_var rfl) fun H4 e4 => ?_
    have fp2' : H1 p2 = none := by rw [upd_ne p2b] at fp2; exact fp2
    have fh3' : H2 h3 = none := by rw [upd_ne h3b] at fh3; exact fh3
    have fh3'' : H1 h3 = none := by
      cases hq : H1 h3 with
      | none => rfl
      | some u =>
        have := e2 _ _ (a2 h3b.symm hq)
        rw [fh3'] at this
        cases this
    have old : ∀ x o, b ≠ x → H1 x = some o → H4 x = some o := fun x o h z => e4 _ _ (by rw [upd_ne (Ne.symm h)]; exact e3 _ _ (a3 h z))
    have u1 : H4 b = some (.ins T.a_Atlas dy (atlF pl p2 h3)) := e4 _ _ (by rw [upd_same]; rfl)
    have u2 : H4 p2 = some (.lst xs) := e4 _ _ (by rw [upd_ne p2b]; exact e3 _ _ (by rw [upd_ne p2b]; exact hp2))
    have u3 : H4 h3 = some (.lst ys) := e4 _ _ (by rw [upd_ne h3b]; exact hh3)
    have W1b : Wld (tabsOf T) [b] Hn1 H1 := W1.add n1 j1 noTb_ins
    have g2 : GrW (tabsOf T) [b] Hn1 H1 Hn1 H4 := GrW.chg W1b (fun x hx => hx) (fun x o hx nx => old x o (fun z => nx (by rw [← z]; exact List.mem_cons_self)) hx) (fun x hx => by
      rw [List.mem_singleton.mp hx]
      exact ⟨_, u1, noTb_ins⟩) (fun x hx => by
      rw [List.mem_singleton.mp hx]
      exact ntb_ins j1)
    have g3 : GrW (tabsOf T) [b] Hd H Hn1 H4 := (g1.sup (M' := [b]) (by simp)).trans g2
    have gg : GrW (tabsOf T) [] Hd H Hn1 H4 := ⟨fun x o hx _ no => g3.ex x o hx (fun hm => by
      rw [List.mem_singleton.mp hm] at hx
      exact f1 o hx no) no, g3.dx, g3.sub, g3.fr, g3.nt, g3.tb, g3.al⟩
    have p2h3 : p2 ≠ h3 := fun z => by
      rw [z, fh3'] at hp2
      cases hp2
    exact q b p2 h3 H4 Hn1 f1 ((newAt_none fp2').back g1) ((newAt_none fh3'').back g1) n1 (fresh_back W1.sub fp2') (fresh_back W1.sub fh3'') gg ⟨⟨dy, pl, u1, k2⟩, ⟨xs, u2, k4⟩, ⟨ys, u3, k6⟩, p2h3, ok, few⟩
theorem ew_twinA (T : Tx w K mg base) {σ : L2.St} {Hd H : Hp} {ta : TE} {E : XK} {M : List Addr} {a pa ah : Addr} {A : AtlM} (W : Wld (tabsOf T) M Hd H) (hp : Ev ta σ H (.ref a)) (L : AtlAt K T.a_Atlas T.a_Log Hd H a pa ah A) :
    EvW (tabsOf T) [] (tMeth T.a_Atlas "twin" (sp_Atlas_twin T) [] E ta tNil) σ Hd H (fun v Hn H2 => ∃ a2 p2 h2, v = .ref a2 ∧ NewAt H a2 ∧ NewAt H p2 ∧ NewAt H h2 ∧ Hn a2 = none ∧ Hn p2 = none ∧ Hn h2 = none ∧ AtlAt K T.a_Atlas T.a_Log Hn H2 a2 p2 h2 A) := fun H1 e1 Q q =>
  tx_methA (hp.mono e1) (L.mono (Ex.refl _) e1) ea_nil (fun _ _ _ => rfl) fun H2 e2 => ⟨a, pa, ah, A, Hd, rfl, L.mono (Ex.refl _) (e1.trans e2), (W.ext (e1.trans e2)).nil, fun a2 p2 h2 H3 Hn f1 f2 f3 n1 n2 n3 g L3 => q _ H3 Hn (g.pre e2) ⟨a2, p2, h2, rfl, f1.ext (e1.trans e2), f2.ext (e1.trans e2), f3.ext (e1.trans e2), n1, n2, n3, L3⟩⟩
def spSay (T : Tx w K mg base) : Sp := fun vs H Q _ => ∃ (d a pa ah : Addr) (z : Str) (A : AtlM) (Hd : Hp), vs = [.ref d, .str z] ∧ DskAt K T.a_Desk T.a_Atlas T.a_Log Hd H d a pa ah A ∧ Wld (tabsOf T) [a, pa, ah] Hd H ∧ A.past.length < 50000 ∧ z.length ≤ 20000 ∧ lineK ((Txt.split z " ").headD "") = none ∧
  match readDeed z with
  | none => ∀ H2 Hn, GrW (tabsOf T) [a, pa, ah] Hd H Hn H2 → DskAt K T.a_Desk T.a_Atlas T.a_Log Hn H2 d a pa ah A → Q (.str "no line") H2
  | some (w0, es) => ∃ x : AtD, x.d = .tuple (.str w0 :: es) ∧ x.fit ∧ (∀ ls' v, actR A.logs x = .ok ls' v → v = .non ∨ ∃ n : Int, v = .int n ∧ n.natAbs.log2 < 1920) ∧ actR A.logs x ≠ .no .name ∧
      ∀ H2 Hn, GrW (tabsOf T) [a, pa, ah] Hd H Hn H2 → DskAt K T.a_Desk T.a_Atlas T.a_Log Hn H2 d a pa ah (stepA A x) → Q (.str (sayT (actR A.logs x))) H2
def hndl (T : Tx w K mg base) : List Addr := [T.a_BadDay, T.a_BadHour, T.a_BadSquare, T.a_Full, T.a_Taken, T.a_Unlike, T.a_NoChart, T.a_BadClock, T.a_NothingLeft, T.a_Knotted, T.a_NoEntry, T.a_BadText]
/-- the clauses of a desk, told where each stands: what is answered -/
theorem wx_un {D : Ends} {cls : Value} {d : Option Addr} {σ : L2.St} {H : Hp} {c : Value} {z : Str} {tz : TS} {b : Bool} (h : PySem.W.exmOne K cls c = some b) (k : b = true → D.rt (.str z) H) (hb : b = true) (hk : ∀ H2, Ex H H2 → D.rt (.str z) H2) : wMix K D [(c, fun _ _ _ => tSeq (tRet (tC (.str z))) tz, none)] cls d σ H := by
  subst hb
  exact ⟨true, h, fun _ a _ => (go_retV ev_c fun H2 e2 => hk H2 e2 : Go _ _ _ _) _ (Ex.refl _), fun z => nomatch z⟩
theorem row_at {rest : List (Option Bool)} {cls : Value} : ∀ {k : Nat} {B : List Addr} {c : Addr}, (B.map fun y => PySem.W.exmOne K cls (.ref y)) = List.replicate k (some false) ++ some true :: rest → B[k]? = some c → PySem.W.exmOne K cls (.ref c) = some true
  | 0, B, c, h, hc => by
    cases B with
    | nil => simp at hc
    | cons y B =>
      cases hc
      rw [List.map_cons] at h
      exact (List.cons.inj h).1
  | k + 1, B, c, h, hc => by
    cases B with
    | nil => simp at hc
    | cons y B =>
      rw [List.map_cons, List.replicate_succ, List.cons_append] at h
      exact row_at (k := k) (List.cons.inj h).2 (by simpa using hc)
theorem entry_small {ls : LogsM} {x : AtD} {m : Int} (g : LsGood ls) (h : actR ls x = .entry m) : 0 ≤ m ∧ m ≤ 200 := by
  cases x with
  | begin n c hh wi =>
    have h : beginR ls (.begin n c hh wi) = .entry m := h
    unfold beginR at h
    dsimp only at h
    repeat (split at h <;> try cases h)
  | tell n r k o y =>
    have h : tellR ls (.tell n r k o y) = .entry m := h
    unfold tellR at h
    dsimp only at h
    repeat (split at h <;> try cases h)
  | right n k o =>
    have h : rightR ls (.right n k o) = .entry m := h
    unfold rightR at h
    dsimp only at h
    split at h
    · cases h
    · rename_i l hl
      have := (g n l hl).few
      split at h <;> cases h
      omega
  | strike n k =>
    have h : strikeR ls (.strike n k) = .entry m := h
    unfold strikeR at h
    dsimp only at h
    split at h
    · cases h
    · rename_i l hl
      have := (g n l hl).few
      split at h <;> cases h
      omega
  | drop n =>
    have h : dropR ls (.drop n) = .entry m := h
    unfold dropR at h
    dsimp only at h
    repeat (split at h <;> try cases h)
  | lay n o t l y =>
    have h : layR ls (.lay n o t l y) = .entry m := h
    unfold layR at h
    dsimp only at h
    repeat (split at h <;> try cases h)
theorem ev_xfV {a C dd : Addr} {f : Str} {σ : L2.St} {H : Hp} {i : Nat} {fs : List (Str × V)} {v : V} (hs : σ[i]? = some (some (.ref a))) (hd : H dd = some (.xd fs)) (hl : fs.lookup f = some v) : Ev (tXf a (.ref C) (some dd) C f (tVar i)) σ H v := fun H1 e1 Q q =>
  (ev_var (v := .ref a) hs) H1 e1 _ fun H2 e2 => ⟨rfl, rfl, dd, fs, v, rfl, (e1.trans e2) _ _ hd, hl, q H2 e2⟩
theorem small_log {m : Int} (h : 0 ≤ m ∧ m ≤ 200) : m.natAbs.log2 < 1920 ∧ (Str.ofString (toString m)).length ≤ 40 := by
  refine ⟨?_, toString_length_le h.1 (k := 40) (by decide) (by omega)⟩
  have : m.natAbs < 2 ^ 8 := by omega
  rcases Nat.eq_zero_or_pos m.natAbs with e | e
  · rw [e]; decide
  · have := (Nat.log2_lt (by omega)).mpr this
    omega
theorem okX_Desk_say (T : Tx w K mg base) : FnOk P w K mg base (L2N.CX P w) 12 T.a_Desk_say T.d_Desk_say ["self", "line"] (spSay T) := by
  refine okN T.F_Desk_say sc_Desk_say (fun vs H Q E h => ?_) (fun cdv A0 outer s H vs Q E hr h => ?_)
  · obtain ⟨d, a, pa, ah, z, A, Hd, rfl, _⟩ := h
    rfl
  · obtain ⟨d, a, pa, ah, z, A, Hd, rfl, DL, W, hl, hz, hw, h⟩ := h
    obtain ⟨⟨dx, hd⟩, L⟩ := id DL
    refine ⟨_, (pss_cons (ps_tryMix rfl rfl sc_Desk_say.nd (fun W pn xe tk _ => (pss_cons (ps_ret (pe_callS (E := WE W) (okX_answer (P := P) (w := w) T) (hr.mono (by omega)) (by rfl) T.g_answer T.F_answer.kp T.b_answer (fun σ => L2N.passAt tk σ) (pa_cons (pb_fld (K := K) (by rfl) (pv 0)) (pa_cons (pv 1) pa_nil))))
      pss_nil)) (.un (c := .ref T.a_BadDay) ⟨rfl, by decide, .inl T.x_BadDay.g⟩ (fun a oe cls d pn hz hf => (pss_cons (ps_ret pe_str)
      pss_nil)) (.un (c := .ref T.a_BadHour) ⟨rfl, by decide, .inl T.x_BadHour.g⟩ (fun a oe cls d pn hz hf => (pss_cons (ps_ret pe_str)
      pss_nil)) (.un (c := .ref T.a_BadSquare) ⟨rfl, by decide, .inl T.x_BadSquare.g⟩ (fun a oe cls d pn hz hf => (pss_cons (ps_ret pe_str)
      pss_nil)) (.un (c := .ref T.a_Full) ⟨rfl, by decide, .inl T.x_Full.g⟩ (fun a oe cls d pn hz hf => (pss_cons (ps_ret pe_str)
      pss_nil)) (.un (c := .ref T.a_Taken) ⟨rfl, by decide, .inl T.x_Taken.g⟩ (fun a oe cls d pn hz hf => (pss_cons (ps_ret pe_str)
      pss_nil)) (.un (c := .ref T.a_Unlike) ⟨rfl, by decide, .inl T.x_Unlike.g⟩ (fun a oe cls d pn hz hf => (pss_cons (ps_ret pe_str)
      pss_nil)) (.un (c := .ref T.a_NoChart) ⟨rfl, by decide, .inl T.x_NoChart.g⟩ (fun a oe cls d pn hz hf => (pss_cons (ps_ret pe_str)
      pss_nil)) (.un (c := .ref T.a_BadClock) ⟨rfl, by decide, .inl T.x_BadClock.g⟩ (fun a oe cls d pn hz hf => (pss_cons (ps_ret pe_str)
      pss_nil)) (.un (c := .ref T.a_NothingLeft) ⟨rfl, by decide, .inl T.x_NothingLeft.g⟩ (fun a oe cls d pn hz hf => (pss_cons (ps_ret pe_str)
      pss_nil)) (.as (i := 2) (c := .ref T.a_Knotted) rfl rfl ⟨rfl, by decide, .inl T.x_Knotted.g⟩ (fun a oe cls d pn hz hf => pss_nev) (.as (i := 3) (c := .ref T.a_NoEntry) rfl rfl ⟨rfl, by decide, .inl T.x_NoEntry.g⟩ (fun a oe cls d pn hz hf => (pss_cons (ps_ret (pe_fs (.cons pe_str (.cons (pe_fmt (pe_xf T.f_NoEntry T.no_NoEntry hz.zc hf (pv 3))) .nil))))
      pss_nil)) (.un (c := .ref T.a_BadText) ⟨rfl, by decide, .inl T.x_BadText.g⟩ (fun a oe cls d pn hz hf => (pss_cons (ps_ret pe_str)
      pss_nil)) .nil)))))))))))))
      pss_nil), Go.go ?_⟩
    show Go _ _ [some (.ref d), some (.str z), none, none] H
    intro H1 e1
    show tCallS (spAns T) _ (tCons (tFld K (tVar 0) "held") (tCons (tVar 1) tNil)) [some (.ref d), some (.str z), none, none] H1 _
    refine (show EvA (tCons (tFld K (tVar 0) "held") (tCons (tVar 1) tNil)) [some (.ref d), some (.str z), none, none] H1 [.ref a, .str z] from ea_cons (ev_fld (ev_var rfl) (e1 _ _ hd) T.Q_Desk T.na_Desk_held rfl) (ea_cons (ev_var rfl) ea_nil)) H1 (Ex.refl _) _ fun H2 e2 => ?_
    have e12 := e1.trans e2
    refine ⟨a, pa, ah, z, A, Hd, rfl, L.mono (Ex.refl _) e12, W.ext e12, hl, hz, hw, ?_⟩
    have same : ∀ {H3 Hn : Hp}, GrW (tabsOf T) [] Hd H2 Hn H3 → GrW (tabsOf T) [a, pa, ah] Hd H Hn H3 ∧ DskAt K T.a_Desk T.a_Atlas T.a_Log Hn H3 d a pa ah A := fun {H3 Hn} g => ⟨(g.sup (by simp)).pre e12, (DL.mono (Ex.refl _) e12).step g (by simp) (by simp) (by simp) (by simp)⟩
    cases hr2 : readDeed z with
    | none =>
      rw [hr2] at h
      intro H3 x e3 nx
      have gx : GrW (tabsOf T) [] Hd H2 Hd (upd H3 x (.xd [("row", .int 0)])) := GrW.ext (W.ext e12) (e3.trans (Ex.new nx))
      obtain ⟨g, D2⟩ := same gx
      have hrow := xm_row (i := 11) (x := T.a_BadText) T.xm rfl rfl
      refine wMix_row (B := hndl T) (k := 11) (wx_un (row_at (k := 11) hrow rfl) (fun _ => h _ Hd g D2) rfl fun H5 e5 => h H5 Hd (g.post e5) (D2.mono (Ex.refl _) e5)) hrow rfl rfl rfl
    | some y =>
      obtain ⟨w0, es⟩ := y
      rw [hr2] at h
      obtain ⟨x, hx, fit, good, nn, fin⟩ := h
      refine ⟨x, hx, fit, fun ls' v hok => ⟨good ls' v hok, fun H3 Hn g L3 => ?_⟩, ?_⟩
      · have e1 : stepA A x = doA A ls' x.d := by unfold stepA; rw [hok]
        have e2 : sayT (actR A.logs x) = toldT v := by rw [hok]; rfl
        rw [e2, e1] at fin
        have D3 := (DL.mono (Ex.refl _) e12).chg g L3
        exact fin H3 Hn (g.pre e12) D3
      · cases hact : actR A.logs x with
        | ok ls' v => trivial
        | entry m =>
          have e1 : stepA A x = A := by unfold stepA; rw [hact]
          rw [hact, e1] at fin
          obtain ⟨lg, ln⟩ := small_log (entry_small L.good hact)
          intro H3 Hn dx g nx
          obtain ⟨gg, D3⟩ := same (g.post (Ex.new (o := .xd [("many", .int m)]) nx))
          have hrow := xm_row (i := 12) (x := T.a_NoEntry) T.xm rfl rfl
          refine wMix_row (B := hndl T) (k := 10) ?_ hrow rfl rfl rfl
          refine ⟨true, row_at (k := 10) hrow rfl, fun _ y hy => ?_, fun z => nomatch z⟩
          refine (go_retV (v := .str (sayT (.entry m))) ?_ (fun H5 e5 => fin H5 Hn (gg.post e5) (D3.mono (Ex.refl _) e5)) : Go _ _ _ _) _ (Ex.refl _)
          exact ev_fs (zs := ["no entry of ", Str.ofString (toString m)]) (.cons ev_c (.cons (ev_fmtI (ev_xfV (i := 3) rfl upd_same rfl) lg) .nil)) (by
            simp only [List.map_cons, List.map_nil, List.sum_cons, List.sum_nil]
            rw [show Str.length "no entry of " = 12 by decide +kernel]
            omega)
        | no e =>
          have e1 : stepA A x = A := by unfold stepA; rw [hact]
          rw [hact, e1] at fin
          intro H3 Hn g
          obtain ⟨gg, D3⟩ := same g
          have fin2 : ∀ H5, Ex H3 H5 → Q (.str (refT e)) H5 := fun H5 e5 => fin H5 Hn (gg.post e5) (D3.mono (Ex.refl _) e5)
          cases e with
          | er e =>
            cases e with
            | clock =>
              have hrow := xm_row (i := 0) (x := T.a_BadClock) T.xm rfl rfl
              exact wMix_row (B := hndl T) (k := 7) (wx_un (row_at (k := 7) hrow rfl) (fun _ => fin2 _ (Ex.refl _)) rfl fin2) hrow rfl rfl rfl
            | square =>
              have hrow := xm_row (i := 3) (x := T.a_BadSquare) T.xm rfl rfl
              exact wMix_row (B := hndl T) (k := 2) (wx_un (row_at (k := 2) hrow rfl) (fun _ => fin2 _ (Ex.refl _)) rfl fin2) hrow rfl rfl rfl
            | hour =>
              have hrow := xm_row (i := 1) (x := T.a_BadHour) T.xm rfl rfl
              exact wMix_row (B := hndl T) (k := 1) (wx_un (row_at (k := 1) hrow rfl) (fun _ => fin2 _ (Ex.refl _)) rfl fin2) hrow rfl rfl rfl
            | day =>
              have hrow := xm_row (i := 9) (x := T.a_BadDay) T.xm rfl rfl
              exact wMix_row (B := hndl T) (k := 0) (wx_un (row_at (k := 0) hrow rfl) (fun _ => fin2 _ (Ex.refl _)) rfl fin2) hrow rfl rfl rfl
            | full =>
              have hrow := xm_row (i := 7) (x := T.a_Full) T.xm rfl rfl
              exact wMix_row (B := hndl T) (k := 3) (wx_un (row_at (k := 3) hrow rfl) (fun _ => fin2 _ (Ex.refl _)) rfl fin2) hrow rfl rfl rfl
          | name => exact absurd hact nn
          | taken =>
            have hrow := xm_row (i := 6) (x := T.a_Taken) T.xm rfl rfl
            exact wMix_row (B := hndl T) (k := 4) (wx_un (row_at (k := 4) hrow rfl) (fun _ => fin2 _ (Ex.refl _)) rfl fin2) hrow rfl rfl rfl
          | gone =>
            have hrow := xm_row (i := 8) (x := T.a_NoChart) T.xm rfl rfl
            exact wMix_row (B := hndl T) (k := 6) (wx_un (row_at (k := 6) hrow rfl) (fun _ => fin2 _ (Ex.refl _)) rfl fin2) hrow rfl rfl rfl
          | unlike =>
            have hrow := xm_row (i := 4) (x := T.a_Unlike) T.xm rfl rfl
            exact wMix_row (B := hndl T) (k := 5) (wx_un (row_at (k := 5) hrow rfl) (fun _ => fin2 _ (Ex.refl _)) rfl fin2) hrow rfl rfl rfl
def sp_Desk_atlas (T : Tx w K mg base) : Sp := fun vs H Q _ => ∃ (d a pa ah : Addr) (A : AtlM) (Hd : Hp), vs = [.ref d] ∧ DskAt K T.a_Desk T.a_Atlas T.a_Log Hd H d a pa ah A ∧ Wld (tabsOf T) [] Hd H ∧
  ∀ a2 p2 h2 H2 Hn, NewAt H a2 → NewAt H p2 → NewAt H h2 → Hn a2 = none → Hn p2 = none → Hn h2 = none → GrW (tabsOf T) [] Hd H Hn H2 → AtlAt K T.a_Atlas T.a_Log Hn H2 a2 p2 h2 A → Q (.ref a2) H2
theorem okX_Desk_atlas (T : Tx w K mg base) : FnOk P w K mg base (L2N.CX P w) 6 T.a_Desk_atlas T.d_Desk_atlas ["self"] (sp_Desk_atlas T) := by
  refine okN T.F_Desk_atlas sc_Desk_atlas (fun vs H Q E h => ?_) (fun cdv A0 outer s H vs Q E hr h => ?_)
  · obtain ⟨d, a, pa, ah, A, Hd, rfl, _⟩ := h
    rfl
  · obtain ⟨d, a, pa, ah, A, Hd, rfl, ⟨⟨dx, hd⟩, L⟩, W, q⟩ := h
    refine ⟨_, (pss_cons (ps_ret (pe_meth0 (pe_fld (pv 0) rfl) T.Q_Atlas T.m_Atlas_twin (okX_Atlas_twin (P := P) (w := w) T) (hr.mono (by omega)) T.b_Atlas_twin .nil (L2N.passes_call (L2N.takes_of rfl rfl rfl rfl) (fun _ _ _ _ h => h))))
      pss_nil), Go.go ?_⟩
    show Go _ _ [some (.ref d)] H
    refine go_retE' (ew_twinA T W (ev_fld (ev_var rfl) hd T.Q_Desk T.na_Desk_held rfl) L) ?_
    rintro _ H2 Hn g ⟨a2, p2, h2, rfl, f1, f2, f3, n1, n2, n3, L2'⟩ H3 e3
    exact q a2 p2 h2 H3 Hn f1 f2 f3 n1 n2 n3 (g.post e3) (L2'.mono (Ex.refl _) e3)
section
variable {σ : L2.St} {Hd H : Hp} {ta te : TE} {tr : TA} {E : XK} {M : List Addr} {d a pa ah : Addr} {A : AtlM} {z w0 : Str} {es : List PyData} {x : AtD}
theorem tx_desk {sp : Sp} {CD CA CL : Addr} {vs : List V} {nm : Str} {Q : VK} (hp : Ev ta σ H (.ref d)) (L : DskAt K CD CA CL Hd H d a pa ah A) (ha : EvA tr σ H vs) (hn : ∀ x : V, List.lookup nm [(("held" : Str), x)] = none) (k : ∀ H2, Ex H H2 → sp (.ref d :: (vs ++ [])) H2 Q E) : tMeth CD nm sp [] E ta tr σ H Q := by
  obtain ⟨⟨dx, h1⟩, _⟩ := L
  exact hp H (Ex.refl _) _ fun H2 e2 => ⟨d, dx, _, rfl, e2 _ _ h1, hn _, ha H2 e2 _ fun H3 e3 => k H3 (e2.trans e3)⟩
/-- a line that tells a deed of known words -/
theorem ew_say (T : Tx w K mg base) (W : Wld (tabsOf T) [a, pa, ah] Hd H) (hp : Ev ta σ H (.ref d)) (ha : EvA tr σ H [.str z]) (L : DskAt K T.a_Desk T.a_Atlas T.a_Log Hd H d a pa ah A) (hl : A.past.length < 50000) (hz : z.length ≤ 20000) (hw : lineK ((Txt.split z " ").headD "") = none) (hr : readDeed z = some (w0, es)) (hx : x.d = .tuple (.str w0 :: es)) (fit : x.fit) (good : ∀ ls' v, actR A.logs x = .ok ls' v → v = .non ∨ ∃ n : Int, v = .int n ∧ n.natAbs.log2 < 1920) (nn : actR A.logs x ≠ .no .name) :
    EvW (tabsOf T) [a, pa, ah] (tMeth T.a_Desk "say" (spSay T) [] E ta tr) σ Hd H (fun v Hn H2 => v = .str (sayT (actR A.logs x)) ∧ DskAt K T.a_Desk T.a_Atlas T.a_Log Hn H2 d a pa ah (stepA A x)) := fun H1 e1 Q q =>
  tx_desk (hp.mono e1) (L.mono (Ex.refl _) e1) (ha.mono e1) (fun _ => rfl) fun H2 e2 => ⟨d, a, pa, ah, z, A, Hd, rfl, L.mono (Ex.refl _) (e1.trans e2), W.ext (e1.trans e2), hl, hz, hw, by
    rw [hr]
    exact ⟨x, hx, fit, good, nn, fun H3 Hn g D3 => q _ H3 Hn (g.pre e2) ⟨rfl, D3⟩⟩⟩
end
theorem ew_atlasD (T : Tx w K mg base) {σ : L2.St} {Hd H : Hp} {ta : TE} {E : XK} {M : List Addr} {d a pa ah : Addr} {A : AtlM} (W : Wld (tabsOf T) M Hd H) (hp : Ev ta σ H (.ref d)) (L : DskAt K T.a_Desk T.a_Atlas T.a_Log Hd H d a pa ah A) :
    EvW (tabsOf T) [] (tMeth T.a_Desk "atlas" (sp_Desk_atlas T) [] E ta tNil) σ Hd H (fun v Hn H2 => ∃ a2 p2 h2, v = .ref a2 ∧ NewAt H a2 ∧ NewAt H p2 ∧ NewAt H h2 ∧ Hn a2 = none ∧ Hn p2 = none ∧ Hn h2 = none ∧ AtlAt K T.a_Atlas T.a_Log Hn H2 a2 p2 h2 A) := fun H1 e1 Q q =>
  tx_desk (hp.mono e1) (L.mono (Ex.refl _) e1) ea_nil (fun _ => rfl) fun H2 e2 => ⟨d, a, pa, ah, A, Hd, rfl, L.mono (Ex.refl _) (e1.trans e2), (W.ext (e1.trans e2)).nil, fun a2 p2 h2 H3 Hn f1 f2 f3 n1 n2 n3 g L3 => q _ H3 Hn (g.pre e2) ⟨a2, p2, h2, rfl, f1.ext (e1.trans e2), f2.ext (e1.trans e2), f3.ext (e1.trans e2), n1, n2, n3, L3⟩⟩
theorem line_word (x : AtD) : lineK x.word = none := by
  cases x with
  | begin => exact (show lineK "begin" = none by decide +kernel)
  | tell => exact (show lineK "tell" = none by decide +kernel)
  | right => exact (show lineK "right" = none by decide +kernel)
  | strike => exact (show lineK "strike" = none by decide +kernel)
  | drop => exact (show lineK "drop" = none by decide +kernel)
  | lay => exact (show lineK "lay" = none by decide +kernel)
section
variable {σ : L2.St} {Hd H : Hp} {ta te : TE} {tr : TA} {E : XK} {M : List Addr} {d a pa ah : Addr} {A : AtlM} {z : Str} {x : AtD} {ls' : LogsM} {v : V} {e : EA}
theorem ew_sayOk (T : Tx w K mg base) (W : Wld (tabsOf T) [a, pa, ah] Hd H) (hp : Ev ta σ H (.ref d)) (ha : EvA tr σ H [.str z]) (L : DskAt K T.a_Desk T.a_Atlas T.a_Log Hd H d a pa ah A) (hl : A.past.length < 50000) (hz : z = lineT x) (p : PlainD x) (fit : x.fit) (hact : actR A.logs x = .ok ls' v) (hv : v = .non ∨ ∃ n : Int, v = .int n ∧ n.natAbs.log2 < 1920) :
    EvW (tabsOf T) [a, pa, ah] (tMeth T.a_Desk "say" (spSay T) [] E ta tr) σ Hd H (fun u Hn H2 => u = .str (toldT v) ∧ DskAt K T.a_Desk T.a_Atlas T.a_Log Hn H2 d a pa ah (doA A ls' x.d)) := by
  subst hz
  refine (ew_say T (x := x) W hp ha L hl (by have := line_short p; omega) (by rw [plain_head p]; exact line_word x) (read_back p) rfl fit (fun l2 v2 h2 => by rw [hact] at h2; cases h2; exact hv) (plain_nn p)).imp fun u Hn H2 g h => ?_
  rw [hact] at h
  have e1 : stepA A x = doA A ls' x.d := by unfold stepA; rw [hact]
  rw [e1] at h
  exact h
theorem ew_sayNo (T : Tx w K mg base) (W : Wld (tabsOf T) [a, pa, ah] Hd H) (hp : Ev ta σ H (.ref d)) (ha : EvA tr σ H [.str z]) (L : DskAt K T.a_Desk T.a_Atlas T.a_Log Hd H d a pa ah A) (hl : A.past.length < 50000) (hz : z = lineT x) (p : PlainD x) (fit : x.fit) (hact : actR A.logs x = .no e) :
    EvW (tabsOf T) [a, pa, ah] (tMeth T.a_Desk "say" (spSay T) [] E ta tr) σ Hd H (fun u Hn H2 => u = .str (refT e) ∧ DskAt K T.a_Desk T.a_Atlas T.a_Log Hn H2 d a pa ah A) := by
  subst hz
  refine (ew_say T (x := x) W hp ha L hl (by have := line_short p; omega) (by rw [plain_head p]; exact line_word x) (read_back p) rfl fit (fun l2 v2 h2 => by rw [hact] at h2; cases h2) (plain_nn p)).imp fun u Hn H2 g h => ?_
  rw [hact] at h
  have e1 : stepA A x = A := by unfold stepA; rw [hact]
  rw [e1] at h
  exact h
end
/-- texts by their signs -/
theorem str_tl {x y : Str} (h : TL.tl x = TL.tl y) : x = y := by
  have := TL.map_tl_inj (l := [x]) (m := [y]) (by simp [h])
  simpa using this
abbrev eightS : Str := "abcdefgh"
def nm (i : Nat) : Str := sg (eightS.cps.toList.getD i 0)
theorem nm_name : ∀ i, i < 8 → isNameS (nm i) = true := by
  have : ∀ j : Fin 8, isNameS (nm j.val) = true := by decide +kernel
  exact fun i hi => this ⟨i, hi⟩
theorem nm_inj : ∀ i j, i < 8 → j < 8 → nm i = nm j → i = j := by
  have : ∀ a b : Fin 8, nm a.val = nm b.val → a = b := by decide +kernel
  exact fun i j hi hj e => congrArg Fin.val (this ⟨i, hi⟩ ⟨j, hj⟩ e)
theorem nm_at : ∀ i : Nat, i < 8 → atI eightS.cps.toList (i : Int) = some (eightS.cps.toList.getD i 0) := by
  intro i hi
  refine atI_nat ?_
  have : ∀ j : Fin 8, eightS.cps.toList[j.val]? = some (eightS.cps.toList.getD j.val 0) := by decide +kernel
  exact this ⟨i, hi⟩
theorem nm_a : nm 0 = "a" := by decide +kernel
theorem nm_b : nm 1 = "b" := by decide +kernel
theorem nm_c : nm 2 = "c" := by decide +kernel
theorem nm_h : nm 7 = "h" := by decide +kernel
theorem nm_out {z : Str} (h : decide (∃ i : Fin 8, nm i.val = z) = false) : ∀ i, i < 8 → nm i ≠ z := fun i hi e => of_decide_eq_false h ⟨⟨i, hi⟩, e⟩
def mkL (n : Nat) (f : Nat → LogM) : LogsM := (List.range n).map fun k => (nm k, f k)
def setN (f : Nat → LogM) (i : Nat) (l : LogM) : Nat → LogM := fun k => if k = i then l else f k
section
variable {n i : Nat} {f : Nat → LogM} {l : LogM} {z : Str}
theorem mkL_succ : mkL (n + 1) f = mkL n f ++ [(nm n, f n)] := by
  unfold mkL
  rw [List.range_succ, List.map_append]
  rfl
theorem mkL_len : (mkL n f).length = n := by unfold mkL; simp
theorem mkL_none (h : ∀ k, k < n → nm k ≠ z) : getL (mkL n f) z = none := by
  unfold getL mkL
  rw [Option.map_eq_none_iff, List.find?_eq_none]
  intro e he
  obtain ⟨k, hk, rfl⟩ := List.mem_map.mp he
  simpa using h k (List.mem_range.mp hk)
theorem mkL_get (hn : n ≤ 8) (hi : i < n) : getL (mkL n f) (nm i) = some (f i) := by
  induction n with
  | zero => omega
  | succ n ih =>
    rw [mkL_succ]
    unfold getL
    rw [List.find?_append]
    by_cases e : i < n
    · have := ih (by omega) e
      unfold getL at this
      cases h : (mkL n f).find? fun e => decide (e.1 = nm i) with
      | none => rw [h] at this; cases this
      | some y =>
        rw [h] at this
        rw [Option.some_or]
        exact this
    · obtain rfl : i = n := by omega
      have h0 : getL (mkL i f) (nm i) = none := mkL_none fun k hk z => by
        have := nm_inj k i (by omega) (by omega) z
        omega
      unfold getL at h0
      rw [Option.map_eq_none_iff] at h0
      rw [h0, Option.none_or, List.find?_cons_of_pos (by simp)]
      rfl
theorem mkL_put (hn : n ≤ 8) (hi : i < n) : putL (mkL n f) (nm i) l = mkL n (setN f i l) := by
  unfold putL
  rw [if_pos (by rw [getL_any, mkL_get hn hi]; rfl)]
  unfold mkL
  rw [List.map_map]
  refine List.map_congr_left fun k hk => ?_
  have hk := List.mem_range.mp hk
  show (if nm k = nm i then (nm k, l) else (nm k, f k)) = (nm k, setN f i l k)
  unfold setN
  by_cases e : k = i
  · rw [if_pos (by rw [e]), if_pos e]
  · rw [if_neg (fun z => e (nm_inj k i (by omega) (by omega) z)), if_neg e]
theorem mkL_new (hn : n < 8) : putL (mkL n f) (nm n) l = mkL (n + 1) (setN f n l) := by
  unfold putL
  rw [if_neg (by
    rw [getL_any, mkL_none fun k hk z => by
      have := nm_inj k n (by omega) hn z
      omega]
    decide), mkL_succ]
  have e1 : setN f n l n = l := if_pos rfl
  rw [e1]
  congr 1
  unfold mkL
  refine List.map_congr_left fun k hk => ?_
  have hk := List.mem_range.mp hk
  unfold setN
  rw [if_neg (by omega)]
theorem mkL_cong {g : Nat → LogM} (h : ∀ k, k < n → f k = g k) : mkL n f = mkL n g := List.map_congr_left fun k hk => by rw [h k (List.mem_range.mp hk)]
theorem mkL_drop (hn : n < 8) : dropL (mkL (n + 1) f) (nm n) = mkL n f := by
  rw [mkL_succ]
  unfold dropL
  rw [List.filter_append, List.filter_cons_of_neg (by simp)]
  show _ ++ [] = _
  rw [List.append_nil, List.filter_eq_self]
  intro e he
  obtain ⟨k, hk, rfl⟩ := List.mem_map.mp he
  have hk := List.mem_range.mp hk
  have : nm k ≠ nm n := fun z => by
    have := nm_inj k n (by omega) hn z
    omega
  simp [this]
end
structure LK (l : LogM) (c h w : Int) (i : Nat) : Prop where
  cl : l.clock = c
  hi : l.high = h
  wi : l.wide = w
  nx : l.next = (i : Int) + 1
  nu : l.kept.map (·.1) = (List.range i).map fun (j : Nat) => (j : Int) + 1
section
variable {l : LogM} {c h w d r k o y : Int} {i : Nat}
theorem LK.new : LK (newL c h w) c h w 0 := ⟨rfl, rfl, rfl, rfl, rfl⟩
theorem LK.ln (g : LK l c h w i) : l.kept.length = i := by
  have := congrArg List.length g.nu
  simpa using this
theorem LK.add (g : LK l c h w i) : LK (addL l r k o y) c h w (i + 1) := ⟨g.cl, g.hi, g.wi, by
  show l.next + 1 = _
  rw [g.nx]
  push_cast
  rfl, by
  show (l.kept ++ [_]).map _ = _
  rw [List.map_append, g.nu, List.range_succ, List.map_append]
  show _ ++ [l.next] = _
  rw [g.nx]
  rfl⟩
theorem LK.can (g : LK l c h w i) (hr : 0 ≤ r ∧ r < h) (hk : 0 ≤ k ∧ k < w) (ho : -2 ≤ o ∧ o < c) (hd : 0 ≤ y ∧ y ≤ 999) (hi : i < 200) : addE l r k o y = none := by
  unfold addE
  rw [g.cl, g.hi, g.wi, g.ln, if_pos ⟨hr, hk⟩, if_pos ho, if_pos hd, if_pos hi]
theorem lk_row {g0 : LogM} {t l' : Int} {f : Nat → Nat → Int} {i0 s : Nat} (g : LK g0 c h w i) : ∀ {j : Nat}, (∀ k, k < j → f i0 k ≠ -2) → LK (layRow t l' y f i0 j (g0, s)).1 c h w (i + j) ∧ (layRow t l' y f i0 j (g0, s)).2 = s + j
  | 0, _ => ⟨g, rfl⟩
  | j + 1, hf => by
    obtain ⟨h1, h2⟩ := lk_row (t := t) (l' := l') (s := s) g (j := j) fun k hk => hf k (by omega)
    show LK (if f i0 j = -2 then _ else _ : LogM × Nat).1 _ _ _ _ ∧ (if f i0 j = -2 then _ else _ : LogM × Nat).2 = _
    rw [if_neg (hf j (by omega))]
    refine ⟨?_, ?_⟩
    · show LK (addL _ _ _ _ _) c h w (i + j + 1)
      exact h1.add
    · show (layRow t l' y f i0 j (g0, s)).2 + 1 = _
      rw [h2]
      omega
theorem lk_rows {g0 : LogM} {t l' : Int} {f : Nat → Nat → Int} {m s : Nat} (g : LK g0 c h w i) : ∀ {n : Nat}, (∀ a b, a < n → b < m → f a b ≠ -2) → LK (layRows t l' y f m n (g0, s)).1 c h w (i + n * m) ∧ (layRows t l' y f m n (g0, s)).2 = s + n * m
  | 0, _ => by
    rw [Nat.zero_mul]
    exact ⟨g, rfl⟩
  | n + 1, hf => by
    obtain ⟨h1, h2⟩ := lk_rows (t := t) (l' := l') (s := s) g (n := n) fun a b ha hb => hf a b (by omega) hb
    obtain ⟨h3, h4⟩ := lk_row (t := t) (l' := l') (y := y) (f := f) (i0 := n) (s := (layRows t l' y f m n (g0, s)).2) h1 (j := m) fun k hk => hf n k (by omega) hk
    have e : (n + 1) * m = n * m + m := by rw [Nat.succ_mul]
    rw [e]
    refine ⟨?_, ?_⟩
    · rw [← Nat.add_assoc]
      exact h3
    · show (layRow t l' y f n m (layRows t l' y f m n (g0, s))).2 = _
      rw [show layRow t l' y f n m (layRows t l' y f m n (g0, s)) = layRow t l' y f n m ((layRows t l' y f m n (g0, s)).1, (layRows t l' y f m n (g0, s)).2) from rfl, h4, h2]
      omega
/-- every square is told by then, nothing is sea that is not told -/
theorem lastF_told {r k : Nat} : ∀ {es : List (List Int)}, (∀ e ∈ es, 0 ≤ e.getD 4 0) → (∃ e ∈ es, e.getD 1 0 ≤ y ∧ (e.getD 2 0).toNat = r ∧ (e.getD 3 0).toNat = k) → 0 ≤ lastF y es r k := by
  intro es
  unfold lastF
  suffices H : ∀ (es : List (List Int)) (f : Nat → Nat → Int), (∀ e ∈ es, 0 ≤ e.getD 4 0) → (0 ≤ f r k ∨ ∃ e ∈ es, e.getD 1 0 ≤ y ∧ (e.getD 2 0).toNat = r ∧ (e.getD 3 0).toNat = k) → 0 ≤ (es.foldl (fun f e => if e.getD 1 0 ≤ y then withF (e.getD 2 0).toNat (e.getD 3 0).toNat (e.getD 4 0) f else f) f) r k from fun h1 h2 => H es _ h1 (.inr h2)
  intro es
  induction es with
  | nil =>
    rintro f _ (h | ⟨e, he, _⟩)
    · exact h
    · cases he
  | cons e es ih =>
    intro f h0 h
    rw [List.foldl_cons]
    refine ih _ (fun e' he' => h0 e' (List.mem_cons_of_mem _ he')) ?_
    have hk : 0 ≤ f r k → 0 ≤ (if e.getD 1 0 ≤ y then withF (e.getD 2 0).toNat (e.getD 3 0).toNat (e.getD 4 0) f else f) r k := fun hf => by
      split
      · unfold withF
        split
        · exact h0 e List.mem_cons_self
        · exact hf
      · exact hf
    rcases h with h | ⟨e', he', h1, h2, h3⟩
    · exact .inl (hk h)
    · rcases List.mem_cons.mp he' with rfl | he'
      · refine .inl ?_
        rw [if_pos h1]
        unfold withF
        rw [if_pos ⟨h2.symm, h3.symm⟩]
        exact h0 _ List.mem_cons_self
      · exact .inr ⟨e', he', h1, h2, h3⟩
/-- a chart of nine by nine that is told square by square -/
structure LB (l : LogM) (c : Int) (i : Nat) : Prop where
  k : LK l c 9 9 i
  o : ∀ e ∈ l.kept, ∃ d r j o, e.2 = [d, r, j, o] ∧ 0 ≤ d ∧ d ≤ 4 ∧ 0 ≤ o
  at_ : ∀ q, q < i → ∃ e ∈ l.kept, ∃ d o, e.2 = [d, ((q / 9 : Nat) : Int), ((q % 9 : Nat) : Int), o]
theorem LB.new {c : Int} : LB (newL c 9 9) c 0 := ⟨LK.new, fun e he => (by cases he), fun q hq => (by omega)⟩
theorem LB.add {l : LogM} {c o d : Int} {i : Nat} (g : LB l c i) (ho : 0 ≤ o) (hd : 0 ≤ d ∧ d ≤ 4) : LB (addL l ((i / 9 : Nat) : Int) ((i % 9 : Nat) : Int) o d) c (i + 1) := ⟨g.k.add, fun e he => by
  rcases List.mem_append.mp he with he | he
  · exact g.o e he
  · rw [List.mem_singleton.mp he]
    exact ⟨d, _, _, o, rfl, hd.1, hd.2, ho⟩, fun q hq => by
  by_cases e : q < i
  · obtain ⟨x, hx, h⟩ := g.at_ q e
    exact ⟨x, List.mem_append_left _ hx, h⟩
  · obtain rfl : q = i := by omega
    exact ⟨_, List.mem_append_right _ (List.mem_singleton.mpr rfl), d, o, rfl⟩⟩
theorem LB.told {l : LogM} {c : Int} (g : LB l c 81) (hy : 4 ≤ y) (a b : Nat) (ha : a < 9) (hb : b < 9) : lastF y (entL l) a b ≠ -2 := by
  have h : 0 ≤ lastF y (entL l) a b := lastF_told (fun e he => by
    obtain ⟨x, hx, rfl⟩ := List.mem_map.mp ((entL_perm l).mem_iff.mp he)
    obtain ⟨d, r, j, o, e2, _, _, h0⟩ := g.o x hx
    rw [e2]
    exact h0) (by
    obtain ⟨x, hx, d, o, e2⟩ := g.at_ (a * 9 + b) (by omega)
    refine ⟨x.1 :: x.2, (entL_perm l).mem_iff.mpr (List.mem_map.mpr ⟨x, hx, rfl⟩), ?_⟩
    obtain ⟨d', r', j', o', e3, h1, h2, h3⟩ := g.o x hx
    rw [e2] at e3 ⊢
    cases e3
    refine ⟨by show d ≤ y; omega, ?_, ?_⟩
    · show (((a * 9 + b) / 9 : Nat) : Int).toNat = a
      rw [Int.toNat_natCast]
      omega
    · show (((a * 9 + b) % 9 : Nat) : Int).toNat = b
      rw [Int.toNat_natCast]
      omega)
  omega
theorem LB.lay {l g0 : LogM} {c : Int} {i : Nat} (g : LB l c 81) (g1 : LK g0 c 9 9 i) (hy : 4 ≤ y) : LK (layAll g0 l 0 0 y).1 c 9 9 (i + 81) ∧ (layAll g0 l 0 0 y).2 = 81 := by
  unfold layAll
  rw [g.k.wi, g.k.hi]
  have := lk_rows (t := 0) (l' := 0) (y := y) (f := lastF y (entL l)) (m := 9) (s := 0) g1 (n := 9) fun a b ha hb => g.told hy a b ha hb
  exact ⟨this.1, this.2.trans rfl⟩
end
theorem grW_putM {Tt : List (Addr × Str)} {M : List Addr} {Hd H Hn H2 : Hp} {p : Addr} {xs ys : List V} (g : GrW Tt M Hd H Hn H2) (hp : H2 p = some (.lst xs)) (n1 : NewAt H p) (n2 : Hn p = none) : GrW Tt M Hd H Hn (upd H2 p (.lst ys)) := ⟨fun a o h n z => by
    rw [upd_ne (n1.ne h z)]
    exact g.ex a o h n z, g.dx, Ex.mut g.sub n2, g.fr, g.nt, tabs_but hp (fun a o z h => by rw [upd_ne z]; exact h) g.tb, fun a o h z => by
    rw [upd_ne (n1.ne h z)]
    exact g.al a o h z⟩
theorem AtlAt.put {CA CL a pa ah p : Addr} {Hd H : Hp} {A : AtlM} {o : HO} (L : AtlAt K CA CL Hd H a pa ah A) (n1 : a ≠ p) (n2 : pa ≠ p) (n3 : ah ≠ p) : AtlAt K CA CL Hd (upd H p o) a pa ah A := by
  obtain ⟨⟨x, pl, h1, h2⟩, ⟨xs, h3, h4⟩, ⟨ys, h5, h6⟩, ne, ok, few⟩ := L
  exact ⟨⟨x, pl, by rw [upd_ne n1]; exact h1, h2⟩, ⟨xs, by rw [upd_ne n2]; exact h3, h4⟩, ⟨ys, by rw [upd_ne n3]; exact h5, h6⟩, ne, ok, few⟩
section
variable {σ : L2.St} {Hd H : Hp} {ta : TE} {tr : TA} {E : XK} {M : List Addr} {a pa ah p d : Addr} {A : AtlM} {n : Str} {l : LogM}
theorem ew_logV (T : Tx w K mg base) (W : Wld (tabsOf T) M Hd H) (hp : Ev ta σ H (.ref a)) (L : AtlAt K T.a_Atlas T.a_Log Hd H a pa ah A) (ha : EvA tr σ H [.str n]) (hg : getL A.logs n = some l) :
    EvW (tabsOf T) [] (tMeth T.a_Atlas "log" (sp_Atlas_log T) [] E ta tr) σ Hd H (fun v Hn H2 => Hn = Hd ∧ ∃ p2 d2, v = .ref p2 ∧ NewAt H p2 ∧ NewAt H d2 ∧ LogAt K T.a_Log Hd H2 p2 d2 l) := fun H1 e1 Q q =>
  tx_methA (hp.mono e1) (L.mono (Ex.refl _) e1) (ha.mono e1) (fun _ _ _ => rfl) fun H2 e2 => by
    refine ⟨a, pa, ah, n, A, Hd, rfl, L.mono (Ex.refl _) (e1.trans e2), (W.ext (e1.trans e2)).nil, fun l' p2 d2 H4 hg' f1 f2 g L4 => ?_, fun z => by rw [hg] at z; cases z⟩
    rw [hg] at hg'
    cases hg'
    exact q _ H4 Hd (g.pre e2) ⟨rfl, p2, d2, rfl, f1.ext (e1.trans e2), f2.ext (e1.trans e2), L4⟩
theorem ev_lenLogV (T : Tx w K mg base) (ha : Ev ta σ H (.ref p)) (L : LogAt K T.a_Log Hd H p d l) : Ev (tCB (rLenO T.a_Log (sp_Log_len T) E) (tCons ta tNil)) σ H (.int (l.kept.length : Int)) := fun H1 e1 Q q =>
  ha H1 e1 _ fun H2 e2 => by
    obtain ⟨dx, h1⟩ := L.ob
    have := L.ok.few
    exact ⟨p, dx, _, rfl, (e1.trans e2) _ _ h1, p, d, l, Hd, rfl, L.mono (Ex.refl _) (e1.trans e2), fun H3 e3 => ⟨_, rfl, by omega, q H3 (e2.trans e3)⟩⟩
end
theorem DskAt.put {CD CA CL d a pa ah p : Addr} {Hd H : Hp} {A : AtlM} {o : HO} (L : DskAt K CD CA CL Hd H d a pa ah A) (n0 : d ≠ p) (n1 : a ≠ p) (n2 : pa ≠ p) (n3 : ah ≠ p) : DskAt K CD CA CL Hd (upd H p o) d a pa ah A := by
  obtain ⟨⟨x, h1⟩, h2⟩ := L
  exact ⟨⟨x, by rw [upd_ne n0]; exact h1⟩, h2.put n1 n2 n3⟩
theorem DskAt.far {CD CA CL d a pa ah p : Addr} {Hd H : Hp} {A : AtlM} (L : DskAt K CD CA CL Hd H d a pa ah A) (hp : H p = none) : d ≠ p ∧ a ≠ p ∧ pa ≠ p ∧ ah ≠ p := by
  obtain ⟨⟨_, h0⟩, ⟨_, _, h1, _⟩, ⟨_, h3, _⟩, ⟨_, h5, _⟩, _⟩ := L
  exact ⟨fun z => (by rw [z, hp] at h0; cases h0), fun z => (by rw [z, hp] at h1; cases h1), fun z => (by rw [z, hp] at h3; cases h3), fun z => (by rw [z, hp] at h5; cases h5)⟩
theorem yes_runD {A B : Hp → Prop} {σ : L2.St} {H : Hp} (h : A H) : tYes σ H fun b H3 => if b = true then A H3 else B H3 := by
  show if (true : Bool) = true then A H else B H
  rw [if_pos rfl]
  exact h
theorem ew_lcD (T : Tx w K mg base) {Hd H : Hp} {σ : L2.St} {d a pa ah : Addr} {A : AtlM} {S : Nat → AtlM → Prop} {v0 : V} {ds : List PyData} {us : List V} {j : Nat} {vs : List Nat} {te tl : TE} (W : Wld (tabsOf T) [a, pa, ah] Hd H) (L : DskAt K T.a_Desk T.a_Atlas T.a_Log Hd H d a pa ah A) (hv : Ev tl σ H v0) (hq : Dp K Hd v0 (.list ds)) (hn : ds.length ≤ 1000) (hl : us.length = ds.length) (h0 : S 0 A) (hw : ∀ v : V, wipe ((wipe σ vs).set j (some v)) vs = wipe σ vs)
    (he : ∀ (i : Nat) (y : PyData) (x u : V) (A1 : AtlM) (Hk H' : Hp), ds[i]? = some y → us[i]? = some u → Dp K Hk x y → S i A1 → DskAt K T.a_Desk T.a_Atlas T.a_Log Hk H' d a pa ah A1 → Wld (tabsOf T) [a, pa, ah] Hk H' → EvW (tabsOf T) [a, pa, ah] te ((wipe σ vs).set j (some x)) Hk H' (fun v Hn H2 => v = u ∧ ∃ A2, S (i + 1) A2 ∧ DskAt K T.a_Desk T.a_Atlas T.a_Log Hn H2 d a pa ah A2)) :
    EvW (tabsOf T) [a, pa, ah] (tLc (iList K tl) (gName j) tYes te vs) σ Hd H (fun v Hn H2 => ∃ D A2, v = .ref D ∧ NewAt H D ∧ Hn D = none ∧ H2 D = some (.lst us) ∧ S ds.length A2 ∧ DskAt K T.a_Desk T.a_Atlas T.a_Log Hn H2 d a pa ah A2) := fun H0 e0 Q q => hv H0 e0 _ fun H1 e01 => by
  have e1 := e0.trans e01
  cases hq with
  | @lst p xs ds hp hall =>
  have hlx : xs.length = ds.length := dpa_len hall
  refine ⟨p, rfl, ⟨xs, ex_l (W.sub.trans e1) hp⟩, fun D hD => ?_⟩
  have hDd : Hd D = none := fresh_back (W.sub.trans e1) hD
  have L1 := L.mono (Ex.refl _) e1
  have far := L1.far hD
  refine lc_list (K := K) (a := p) (xs := xs) (fun i H' => ∃ Hn A1, GrW (tabsOf T) [a, pa, ah] Hd H1 Hn H' ∧ Hn D = none ∧ H' D = some (.lst (us.take i)) ∧ S i A1 ∧ DskAt K T.a_Desk T.a_Atlas T.a_Log Hn H' d a pa ah A1) ?_ ?_ ?_ ?_
  · exact ⟨Hd, A, GrW.ext (W.ext e1) (Ex.new hD), hDd, upd_same, h0, L1.mono (Ex.refl _) (Ex.new hD)⟩
  · rintro i H' _ ⟨Hn, A1, g, _⟩
    exact ex_l (g.dx.trans g.sub) hp
  · rintro i x H' hx ⟨Hn, A1, g, n1, h1, hS, L2'⟩
    obtain ⟨y, k1, k2⟩ := dpa_get2 hall hx
    have hi : i < xs.length := (List.getElem?_eq_some_iff.mp hx).1
    have hu : us[i]? = some us[i] := List.getElem?_eq_getElem (by omega)
    refine ⟨hw x, yes_runD ?_⟩
    refine he i y x _ A1 Hn H' k1 hu (dp_mono g.dx _ k2) hS L2' ((W.ext e1).step g) H' (Ex.refl _) _ fun v H3 Hm g3 e => ?_
    obtain ⟨rfl, A2, hS2, L3⟩ := e
    have hDM : D ∉ [a, pa, ah] := by
      simp only [List.mem_cons, List.not_mem_nil, or_false, not_or]
      exact ⟨far.2.1.symm, far.2.2.1.symm, far.2.2.2.symm⟩
    have h3 := g3.ex _ _ h1 hDM noTb_lst
    have n3 := g3.fr _ _ h1 noTb_lst n1
    have e : us.take (i + 1) = us.take i ++ [us[i]] := by
      rw [List.take_succ, hu]
      rfl
    refine ⟨_, h3, sz_lt (by rw [List.length_take]; omega), Hm, A2, grW_putM (g.trans g3) h3 (newAt_none hD) n3, n3, ?_, hS2, L3.put far.1 far.2.1 far.2.2.1 far.2.2.2⟩
    rw [e]
    exact upd_same
  · rintro H' ⟨Hn, A1, g, n1, h1, hS, L2'⟩
    rw [hlx, ← hl, List.take_length] at h1
    rw [hlx] at hS
    exact q _ H' Hn (g.pre e01) ⟨D, A1, rfl, newAt_none (fresh_back e1 hD), n1, h1, hS, L2'⟩
theorem ew_lcDT (T : Tx w K mg base) {Hd H : Hp} {σ : L2.St} {p d a pa ah : Addr} {A : AtlM} {S : Nat → AtlM → Prop} {xs us : List V} {j : Nat} {vs : List Nat} {te : TE} (W : Wld (tabsOf T) [a, pa, ah] Hd H) (L : DskAt K T.a_Desk T.a_Atlas T.a_Log Hd H d a pa ah A) (hq : SqT K Hd p xs) (hn : xs.length ≤ 1000) (hl : us.length = xs.length) (h0 : S 0 A) (hw : ∀ v : V, wipe ((wipe σ vs).set j (some v)) vs = wipe σ vs)
    (he : ∀ (i : Nat) (x u : V) (A1 : AtlM) (Hk H' : Hp), xs[i]? = some x → us[i]? = some u → S i A1 → DskAt K T.a_Desk T.a_Atlas T.a_Log Hk H' d a pa ah A1 → Wld (tabsOf T) [a, pa, ah] Hk H' → EvW (tabsOf T) [a, pa, ah] te ((wipe σ vs).set j (some x)) Hk H' (fun v Hn H2 => v = u ∧ ∃ A2, S (i + 1) A2 ∧ DskAt K T.a_Desk T.a_Atlas T.a_Log Hn H2 d a pa ah A2)) :
    EvW (tabsOf T) [a, pa, ah] (tLc (iTup K (tVal (.ref p))) (gName j) tYes te vs) σ Hd H (fun v Hn H2 => ∃ D A2, v = .ref D ∧ NewAt H D ∧ Hn D = none ∧ H2 D = some (.lst us) ∧ S xs.length A2 ∧ DskAt K T.a_Desk T.a_Atlas T.a_Log Hn H2 d a pa ah A2) := fun H1 e1 Q q => by
  refine ⟨p, rfl, ⟨xs, ex_t (W.sub.trans e1) hq⟩, fun D hD => ?_⟩
  have hDd : Hd D = none := fresh_back (W.sub.trans e1) hD
  have L1 := L.mono (Ex.refl _) e1
  have far := L1.far hD
  refine lc_tup (K := K) (a := p) (xs := xs) (fun i H' => ∃ Hn A1, GrW (tabsOf T) [a, pa, ah] Hd H1 Hn H' ∧ Hn D = none ∧ H' D = some (.lst (us.take i)) ∧ S i A1 ∧ DskAt K T.a_Desk T.a_Atlas T.a_Log Hn H' d a pa ah A1) ?_ ?_ ?_ ?_
  · exact ⟨Hd, A, GrW.ext (W.ext e1) (Ex.new hD), hDd, upd_same, h0, L1.mono (Ex.refl _) (Ex.new hD)⟩
  · rintro i H' _ ⟨Hn, A1, g, _⟩
    exact ex_t (g.dx.trans g.sub) hq
  · rintro i x H' hx ⟨Hn, A1, g, n1, h1, hS, L2'⟩
    have hi : i < xs.length := (List.getElem?_eq_some_iff.mp hx).1
    have hu : us[i]? = some us[i] := List.getElem?_eq_getElem (by omega)
    refine ⟨hw x, yes_runD ?_⟩
    refine he i x _ A1 Hn H' hx hu hS L2' ((W.ext e1).step g) H' (Ex.refl _) _ fun v H3 Hm g3 e => ?_
    obtain ⟨rfl, A2, hS2, L3⟩ := e
    have hDM : D ∉ [a, pa, ah] := by
      simp only [List.mem_cons, List.not_mem_nil, or_false, not_or]
      exact ⟨far.2.1.symm, far.2.2.1.symm, far.2.2.2.symm⟩
    have h3 := g3.ex _ _ h1 hDM noTb_lst
    have n3 := g3.fr _ _ h1 noTb_lst n1
    have e : us.take (i + 1) = us.take i ++ [us[i]] := by
      rw [List.take_succ, hu]
      rfl
    refine ⟨_, h3, sz_lt (by rw [List.length_take]; omega), Hm, A2, grW_putM (g.trans g3) h3 (newAt_none hD) n3, n3, ?_, hS2, L3.put far.1 far.2.1 far.2.2.1 far.2.2.2⟩
    rw [e]
    exact upd_same
  · rintro H' ⟨Hn, A1, g, n1, h1, hS, L2'⟩
    rw [← hl, List.take_length] at h1
    exact q _ H' Hn g ⟨D, A1, rfl, newAt_none (fresh_back e1 hD), n1, h1, hS, L2'⟩
theorem eb_strI {σ : L2.St} {Hd : Hp} {b : Bid} {ta : TE} {p : Int → Prop} (h : EvB K b ta σ Hd (isI p)) (hp : ∀ i, p i → i.natAbs.log2 < 1920) : EvB K b (tCB rStr (tCons ta tNil)) σ Hd (isS fun z => ∃ i, p i ∧ z = Str.ofString (toString i)) := fun hb H s B Q q =>
  h hb H s B _ fun v H2 Hn d g hd hp2 => by
    obtain ⟨i, rfl, pi⟩ := hp2
    cases hd
    exact .inl ⟨i, rfl, hp i pi, q _ H2 Hn (.str (Str.ofString (toString i))) g (.str _) ⟨_, rfl, i, pi, rfl⟩⟩
theorem go_forN2 {σ : L2.St} {H : Hp} {tr : TA} {D : Ends} {tu tz : TS} {j : Nat} {lo m : Int} (h : EvA tr σ H [.int lo, .int m]) (hl : -100000 ≤ lo ∧ lo ≤ 100000) (hm : -100000 ≤ m ∧ m ≤ 100000) (Pv : Nat → L2.St → Hp → Prop) (h0 : ∀ H', Ex H H' → Pv 0 σ H') (hs : ∀ i σ' H', i < (m - lo).toNat → Pv i σ' H' → Go tu { D with nx := Pv (i + 1), ct := Pv (i + 1), bk := tz D } (σ'.set j (some (.int (lo + (i : Int))))) H')
    (hd : ∀ σ' H', Pv (m - lo).toNat σ' H' → Go tz D σ' H') : Go (tSeq (tFor (iRng2 tr) (gName j) tu) tz) D σ H := fun H1 e1 =>
  h H1 e1 _ fun H2 e2 => by
    refine ⟨lo, m, rfl, ⟨by omega, by omega, by omega, by omega⟩, for_it (walk_range (lo := lo) (n := (m - lo).toNat)) Pv (h0 H2 (e1.trans e2)) (fun _ _ _ _ _ => trivial) (fun i x σ' H' H'' hi q y => ?_) (fun σ' H' q => hd σ' H' q H' (Ex.refl _))⟩
    obtain ⟨rfl, rfl⟩ := y
    exact hs i σ' _ hi q _ (Ex.refl _)
abbrev numS (n : Int) : Str := Str.ofString (toString n)
theorem lineT_begin (n : Str) (c h w : Int) : lineT (.begin n c h w) = Txt.join " " ["begin", n, numS c, numS h, numS w] := by
  unfold lineT deedT wordsT
  rw [show lookF (AtD.word (.begin n c h w)) = some (["name", "number", "number", "number"] : List Str) from (show lookF "begin" = some (["name", "number", "number", "number"] : List Str) by decide +kernel)]
  rfl
theorem lineT_tell (n : Str) (r k o y : Int) : lineT (.tell n r k o y) = Txt.join " " ["tell", n, numS r, numS k, whatT o, numS y] := by
  unfold lineT deedT wordsT
  rw [show lookF (AtD.word (.tell n r k o y)) = some (["name", "number", "number", "what", "number"] : List Str) from (show lookF "tell" = some (["name", "number", "number", "what", "number"] : List Str) by decide +kernel)]
  rfl
theorem lineT_strike (n : Str) (k : Int) : lineT (.strike n k) = Txt.join " " ["strike", n, numS k] := by
  unfold lineT deedT wordsT
  rw [show lookF (AtD.word (.strike n k)) = some (["name", "number"] : List Str) from (show lookF "strike" = some (["name", "number"] : List Str) by decide +kernel)]
  rfl
theorem plain_strike {n : Str} {k : Int} (hn : isNameS n = true) (h1 : 0 ≤ k ∧ k < 1000000) : PlainD (.strike n k) := ⟨["name", "number"], (show lookF "strike" = some (["name", "number"] : List Str) by decide +kernel), .inl ⟨rfl, n, rfl, hn⟩, .inr (.inl ⟨rfl, k, rfl, h1⟩), trivial⟩
theorem Many.WD {Tt : List (Addr × Str)} {b : Bid} {CD CA CL d a pa ah : Addr} {A : AtlM} {r : List Th} {Hk H : Hp} (t : Many Tt b (dskTh K CD CA CL d a pa ah A :: r) Hk H) : Wld Tt [a, pa, ah] Hk H := t.WH.sup fun x hx => List.mem_cons_of_mem _ hx
theorem Many.stepD {Tt : List (Addr × Str)} {b : Bid} {CD CA CL d a pa ah : Addr} {A A2 : AtlM} {r : List Th} {Hk H Hn H2 : Hp} (t : Many Tt b (dskTh K CD CA CL d a pa ah A :: r) Hk H) (g : GrW Tt [a, pa, ah] Hk H Hn H2) (L : DskAt K CD CA CL Hn H2 d a pa ah A2) : Many Tt b (dskTh K CD CA CL d a pa ah A2 :: r) Hn H2 := t.stepH (y := dskTh K CD CA CL d a pa ah A2) g (fun x hx => List.mem_cons_of_mem _ hx) rfl L
theorem ew_enN {Tt : List (Addr × Str)} {M : List Addr} {σ : L2.St} {Hd H : Hp} {te : TE} {ds : List PyData} (W : Wld Tt M Hd H) (h : EvN K te σ Hd ds) : EvW Tt [] te σ Hd H (fun u Hn H2 => ∃ p xs, u = .ref p ∧ Hn p = some (.lst xs) ∧ DpAll K Hn xs ds) := fun H1 e1 Q q =>
  h H1 (W.sub.trans e1) Q fun p xs H2 Hn g f1 f2 h2 hd => q _ H2 _ ((GrW.of (W.ext e1) g).keep (newAt_none f1) (noT_none f2) h2 noTb_lst) ⟨p, xs, rfl, upd_same, dpa_mono (Ex.new (noT_none f2)) _ (dpa_noT _ hd)⟩
/-- a list of short texts joined -/
theorem jo_small {ys : List Str} (h : ∀ z ∈ ys, z.length ≤ 1000) (hn : ys.length ≤ 100) : (ys.map (·.length)).sum + ys.length * Str.length " " ≤ 16777216 := by
  have h1 := sum_le ys 1000 h
  rw [show Str.length " " = 1 by decide +kernel]
  have : ys.length * 1000 ≤ 100 * 1000 := Nat.mul_le_mul_right _ hn
  omega
theorem numS_short {n : Int} (h0 : 0 ≤ n) (h : n < 10 ^ 40) : (numS n).length ≤ 1000 := by
  have := toString_short h0 h
  show (Str.ofString _).length ≤ _
  omega
theorem tl_begin {c : Int} : "begin z " ++ numS c ++ " 1 1" = lineT (.begin "z" c 1 1) := by
  rw [lineT_begin, TL.join_eq]
  refine str_tl ?_
  rw [TL.tl_join, TL.tl_append, TL.tl_append]
  show _ = TL.tl "begin" ++ (TL.tl " " ++ (TL.tl "z" ++ (TL.tl " " ++ (TL.tl (numS c) ++ (TL.tl " " ++ (TL.tl (numS 1) ++ (TL.tl " " ++ TL.tl (numS 1))))))))
  rw [show TL.tl "begin z " = TL.tl "begin" ++ (TL.tl " " ++ (TL.tl "z" ++ TL.tl " ")) by decide +kernel, show TL.tl " 1 1" = TL.tl " " ++ (TL.tl (numS 1) ++ (TL.tl " " ++ TL.tl (numS 1))) by decide +kernel]
  simp only [List.append_assoc]
theorem tl_hour {c : Int} (hc : 0 ≤ c) : "tell a 0 0 " ++ numS c ++ " 1000" = lineT (.tell "a" 0 0 c 1000) := by
  rw [lineT_tell, TL.join_eq]
  refine str_tl ?_
  have e : whatT c = numS c := by
    unfold whatT
    rw [if_neg (by omega), if_neg (by omega)]
  rw [TL.tl_join, TL.tl_append, TL.tl_append, e]
  show _ = TL.tl "tell" ++ (TL.tl " " ++ (TL.tl "a" ++ (TL.tl " " ++ (TL.tl (numS 0) ++ (TL.tl " " ++ (TL.tl (numS 0) ++ (TL.tl " " ++ (TL.tl (numS c) ++ (TL.tl " " ++ TL.tl (numS 1000))))))))))
  rw [show TL.tl "tell a 0 0 " = TL.tl "tell" ++ (TL.tl " " ++ (TL.tl "a" ++ (TL.tl " " ++ (TL.tl (numS 0) ++ (TL.tl " " ++ (TL.tl (numS 0) ++ TL.tl " ")))))) by decide +kernel, show TL.tl " 1000" = TL.tl " " ++ TL.tl (numS 1000) by decide +kernel]
  simp only [List.append_assoc]
theorem tl_strike {c : Int} : "strike a " ++ numS c = lineT (.strike "a" c) := by
  rw [lineT_strike, TL.join_eq]
  refine str_tl ?_
  rw [TL.tl_join, TL.tl_append]
  show _ = TL.tl "strike" ++ (TL.tl " " ++ (TL.tl "a" ++ (TL.tl " " ++ TL.tl (numS c))))
  rw [show TL.tl "strike a " = TL.tl "strike" ++ (TL.tl " " ++ (TL.tl "a" ++ TL.tl " ")) by decide +kernel]
  simp only [List.append_assoc]
theorem tl_tellb {r k o y : Int} (ho : 0 ≤ o) : Txt.join " " ["tell b", numS r, numS k, numS o, numS y] = lineT (.tell "b" r k o y) := by
  have e : whatT o = numS o := by
    unfold whatT
    rw [if_neg (by omega), if_neg (by omega)]
  rw [lineT_tell, TL.join_eq, TL.join_eq, e]
  refine str_tl ?_
  rw [TL.tl_join, TL.tl_join]
  show TL.tl "tell b" ++ (TL.tl " " ++ (TL.tl (numS r) ++ (TL.tl " " ++ (TL.tl (numS k) ++ (TL.tl " " ++ (TL.tl (numS o) ++ (TL.tl " " ++ TL.tl (numS y)))))))) = TL.tl "tell" ++ (TL.tl " " ++ (TL.tl "b" ++ (TL.tl " " ++ (TL.tl (numS r) ++ (TL.tl " " ++ (TL.tl (numS k) ++ (TL.tl " " ++ (TL.tl (numS o) ++ (TL.tl " " ++ TL.tl (numS y))))))))))
  rw [show TL.tl "tell b" = TL.tl "tell" ++ (TL.tl " " ++ TL.tl "b") by decide +kernel]
  simp only [List.append_assoc]
theorem LK.hasN {l : LogM} {c h w n : Int} {i : Nat} (g : LK l c h w i) (h1 : 1 ≤ n) (h2 : n ≤ i) : hasL l n = true := by
  unfold hasL
  have : n ∈ l.kept.map (·.1) := by
    rw [g.nu]
    exact List.mem_map.mpr ⟨(n - 1).toNat, List.mem_range.mpr (by omega), by omega⟩
  obtain ⟨e, he, e1⟩ := List.mem_map.mp this
  exact List.any_eq_true.mpr ⟨e, he, by simpa using e1⟩
theorem LK.strike {l : LogM} {c h w n : Int} {i : Nat} (g : LK l c h w i) (h1 : 1 ≤ n) (h2 : n ≤ i) : (strikeL l n).kept.length < i := by
  have := g.hasN h1 h2
  unfold hasL at this
  obtain ⟨e, he, e1⟩ := List.any_eq_true.mp this
  have hl := g.ln
  show (l.kept.filter _).length < i
  rw [← hl]
  refine List.length_filter_lt_length_iff_exists.mpr ⟨e, he, ?_⟩
  simpa using e1
def lnA (c : Int) : List AtD := [.begin "z" c 1 1, .begin "z" 4 1 1, .begin "a" 5 1 1, .begin "z" 5 0 1]
def lnAe : List EA := [.er .full, .er .clock, .taken, .er .square]
def lnB (c : Int) : List AtD := [.tell "a" 9 0 0 1000, .tell "a" 0 0 c 1000, .tell "a" 0 0 0 1000, .lay "a" "b" 0 0 1000, .lay "a" "c" 0 9 9, .lay "a" "b" 1 0 9]
def lnBe : List EA := [.er .square, .er .hour, .er .day, .er .day, .unlike, .er .square]
theorem out_z : ∀ i, i < 8 → nm i ≠ "z" := nm_out (by decide +kernel)
theorem nz : isNameS "z" = true := by decide +kernel
theorem na : isNameS "a" = true := by decide +kernel
theorem nb : isNameS "b" = true := by decide +kernel
theorem nc : isNameS "c" = true := by decide +kernel
theorem lnA_ok {c : Int} {f : Nat → LogM} (hc : isClock c = true) {i : Nat} {x : AtD} {e : EA} (h1 : (lnA c)[i]? = some x) (h2 : lnAe[i]? = some e) : actR (mkL 8 f) x = .no e ∧ PlainD x ∧ x.fit := by
  have gz : getL (mkL 8 f) "z" = none := mkL_none out_z
  have ga : getL (mkL 8 f) "a" = some (f 0) := by rw [← nm_a]; exact mkL_get (by omega) (by omega)
  have hc0 := isClock_iff.mp hc
  rcases i with _ | _ | _ | _ | i
  · cases h1; cases h2
    exact ⟨beginR_full nz gz (by unfold newE; rw [if_pos hc, if_pos (by omega)]) (by rw [mkL_len]; rfl), plain_begin nz (by omega) (by omega) (by omega), by show Str.length _ ≤ 30000; decide +kernel⟩
  · cases h1; cases h2
    refine ⟨?_, plain_begin nz (by omega) (by omega) (by omega), by show Str.length _ ≤ 30000; decide +kernel⟩
    show beginR (mkL 8 f) (.begin "z" 4 1 1) = .no (.er .clock)
    exact beginR_no nz gz (by unfold newE; rw [if_neg (by decide)])
  · cases h1; cases h2
    refine ⟨?_, plain_begin na (by omega) (by omega) (by omega), by show Str.length _ ≤ 30000; decide +kernel⟩
    show beginR (mkL 8 f) (.begin "a" 5 1 1) = .no .taken
    exact beginR_taken na ga
  · cases h1; cases h2
    refine ⟨?_, plain_begin nz (by omega) (by omega) (by omega), by show Str.length _ ≤ 30000; decide +kernel⟩
    show beginR (mkL 8 f) (.begin "z" 5 0 1) = .no (.er .square)
    exact beginR_no nz gz (by unfold newE; rw [if_pos (by decide), if_neg (by omega)])
  · simp [lnA] at h1
theorem lnB_ok {c od : Int} {f : Nat → LogM} (hc : isClock c = true) (ho : od ≠ c) (ka : LK (f 0) c 9 9 200) (kb : LK (f 1) c 9 9 81) (kc : (f 2).clock = od) {i : Nat} {x : AtD} {e : EA} (h1 : (lnB c)[i]? = some x) (h2 : lnBe[i]? = some e) : actR (mkL 8 f) x = .no e ∧ PlainD x ∧ x.fit := by
  have ga : getL (mkL 8 f) "a" = some (f 0) := by rw [← nm_a]; exact mkL_get (by omega) (by omega)
  have gb : getL (mkL 8 f) "b" = some (f 1) := by rw [← nm_b]; exact mkL_get (by omega) (by omega)
  have gc : getL (mkL 8 f) "c" = some (f 2) := by rw [← nm_c]; exact mkL_get (by omega) (by omega)
  have hc0 := isClock_iff.mp hc
  rcases i with _ | _ | _ | _ | _ | _ | i
  · cases h1; cases h2
    exact ⟨tellR_no ga (by unfold addE; rw [ka.cl, ka.hi, ka.wi, ka.ln, if_neg (by omega)]), plain_tell na (by omega) (by omega) (by omega) (by omega), trivial⟩
  · cases h1; cases h2
    exact ⟨tellR_no ga (by unfold addE; rw [ka.cl, ka.hi, ka.wi, ka.ln, if_pos (by omega), if_neg (by omega)]), plain_tell na (by omega) (by omega) (by omega) (by omega), trivial⟩
  · cases h1; cases h2
    exact ⟨tellR_no ga (by unfold addE; rw [ka.cl, ka.hi, ka.wi, ka.ln, if_pos (by omega), if_pos (by omega), if_neg (by omega)]), plain_tell na (by omega) (by omega) (by omega) (by omega), trivial⟩
  · cases h1; cases h2
    refine ⟨?_, plain_lay na nb (by omega) (by omega) (by omega), trivial⟩
    show layR (mkL 8 f) (.lay "a" "b" 0 0 1000) = .no (.er .day)
    exact layR_day ga gb (by omega)
  · cases h1; cases h2
    refine ⟨?_, plain_lay na nc (by omega) (by omega) (by omega), trivial⟩
    show layR (mkL 8 f) (.lay "a" "c" 0 9 9) = .no .unlike
    exact layR_un ga gc (by omega) (by rw [ka.cl, kc]; exact ho.symm)
  · cases h1; cases h2
    refine ⟨?_, plain_lay na nb (by omega) (by omega) (by omega), trivial⟩
    show layR (mkL 8 f) (.lay "a" "b" 1 0 9) = .no (.er .square)
    exact layR_sq ga gb (by omega) (by rw [ka.cl, kb.cl]) (by rw [ka.hi, ka.wi, kb.hi, kb.wi]; decide)
  · simp [lnB] at h1
theorem ok_law (T : Tx w K mg base) : FnOk P w K mg base CX0 13 T.a_law T.d_law ["_law_script"] (spLawT K ((tabsOf T).map (·.1))) := by
  refine T.F_law.ok sc_law (fun vs H Q E h => ?_) (fun cdv A0 outer s H vs Q E hroom h => ?_)
  · obtain ⟨a, ns, rfl, _⟩ := h
    rfl
  · obtain ⟨a, ns, rfl, hL, hn, hP, q⟩ := h
    have hr := hroom
    refine ⟨_, (pss_cons (ps_set (i := 1) sc_law.nd rfl (.inl rfl) (pe_call (ok_law_box (P := P) (w := w) T) (hr.mono (by omega)) (by rfl) T.g_law_box T.F_law_box.kp T.b_law_box .nil pass0 (pa_cons (pv 0) pa_nil)))
      (pss_cons (ps_set (i := 2) sc_law.nd rfl (.inr rfl) (pe_make0 T.M_Desk (okX_Desk_init (P := P) (w := w) T) (hr.mono (by omega)) (by rfl) T.x_Desk.g T.b_Desk_init .nil passN))
      (pss_cons (ps_set (i := 3) sc_law.nd rfl (.inl rfl) (pe_call (ok_law_clock (P := P) (w := w) T) (hr.mono (by omega)) (by rfl) T.g_law_clock T.F_law_clock.kp T.b_law_clock .nil pass0 (pa_cons (pv 1) pa_nil)))
      (pss_cons (ps_set (i := 4) sc_law.nd rfl (.inl rfl) (pe_ifExp (pt_cmpR op_ne (pv 3) pe_int (nomark _)) pe_int pe_int))
      (pss_cons (ps_for PassesOwn.never rfl (pi_range1 (by rfl) T.n_range (pa_cons pe_int pa_nil)) (pg_name (i := 5) sc_law.nd rfl (.inl rfl)) (pss_cons (ps_set (i := 6) sc_law.nd rfl (.inl rfl) (pe_ifExp (pt_cmpR op_lt (pv 5) pe_int (nomark _)) pe_int (pe_op op_add pe_int (pe_call (ok_law_take (P := P) (w := w) T) (hr.mono (by omega)) (by rfl) T.g_law_take T.F_law_take.kp T.b_law_take .nil pass0 (pa_cons (pv 1) (pa_cons pe_int pa_nil))))))
      (pss_cons (ps_set (i := 7) sc_law.nd rfl (.inl rfl) (pe_lst (pa_cons pe_str (pa_cons (pe_ix (r := rIxS) ix_str pe_str (pv 5) (fun _ _ => rfl)) (pa_cons (pe_callTy (r := rStr) call_strQ (by rfl) T.n_str (by decide +kernel) (pa_cons (pe_ifExp (pt_cmpR op_eq (pv 5) pe_int (nomark _)) (pv 4) (pv 3)) pa_nil)) (pa_cons pe_str (pa_cons (pe_callTy (r := rStr) call_strQ (by rfl) T.n_str (by decide +kernel) (pa_cons (pv 6) pa_nil)) pa_nil)))))))
      (pss_cons (ps_if (pt_cmpR op_ne (pe_meth (pv 2) T.Q_Desk T.m_Desk_say (okX_Desk_say (P := P) (w := w) T) (hr.mono (by omega)) T.b_Desk_say .nil passN (pa_cons (pe_jo pe_str (pv 7)) pa_nil)) pe_str (nomark _)) (pss_cons (ps_ret pe_bl)
      pss_nil) pss_nil)
      pss_nil))))
      (pss_cons (ps_set (i := 8) sc_law.nd rfl (.inl rfl) (pe_lst (pa_cons (pe_op (r := rAddS) op_addS (pe_op (r := rAddS) op_addS pe_str (pe_callTy (r := rStr) call_strQ (by rfl) T.n_str (by decide +kernel) (pa_cons (pv 3) pa_nil))) pe_str) (pa_cons pe_str (pa_cons pe_str (pa_cons pe_str pa_nil))))))
      (pss_cons (ps_if (pt_cmpR (r := rNeD K) (op_neD hr.units) (pe_lc (own := [("_law_line", 11)]) (g := (gName 11)) (by rfl) sc_law.nd (pi_list (pv 8)) (blkOk_by (own := [("_law_line", 11)]) (N := N_law) (sc := defScope s_law) (by decide +kernel)) (fun _ _ _ _ _ => (pg_name (i := 11) sc_law.nd rfl (.inl rfl) (hf := .inr rfl))) (fun _ _ _ _ _ => pts_nil) (fun _ _ _ _ _ => (pe_meth (pv 2) T.Q_Desk T.m_Desk_say (okX_Desk_say (P := P) (w := w) T) (hr.mono (by omega)) T.b_Desk_say .nil passN (pa_cons (pv 11) pa_nil)))) (pe_lst (pa_cons pe_str (pa_cons pe_str (pa_cons pe_str (pa_cons pe_str pa_nil))))) (nomark _)) (pss_cons (ps_ret pe_bl)
      pss_nil) pss_nil)
      (pss_cons (ps_for PassesOwn.never rfl (pi_range1 (by rfl) T.n_range (pa_cons pe_int pa_nil)) (pg_name (i := 5) sc_law.nd rfl (.inl rfl)) (pss_cons (ps_set (i := 7) sc_law.nd rfl (.inl rfl) (pe_lst (pa_cons pe_str (pa_cons (pe_callTy (r := rStr) call_strQ (by rfl) T.n_str (by decide +kernel) (pa_cons (pe_op op_fdiv (pv 5) pe_int) pa_nil)) (pa_cons (pe_callTy (r := rStr) call_strQ (by rfl) T.n_str (by decide +kernel) (pa_cons (pe_op op_mod (pv 5) pe_int) pa_nil)) (pa_cons (pe_callTy (r := rStr) call_strQ (by rfl) T.n_str (by decide +kernel) (pa_cons (pe_call (ok_law_take (P := P) (w := w) T) (hr.mono (by omega)) (by rfl) T.g_law_take T.F_law_take.kp T.b_law_take .nil pass0 (pa_cons (pv 1) (pa_cons (pv 3) pa_nil))) pa_nil)) (pa_cons (pe_callTy (r := rStr) call_strQ (by rfl) T.n_str (by decide +kernel) (pa_cons (pe_call (ok_law_take (P := P) (w := w) T) (hr.mono (by omega)) (by rfl) T.g_law_take T.F_law_take.kp T.b_law_take .nil pass0 (pa_cons (pv 1) (pa_cons pe_int pa_nil))) pa_nil)) pa_nil)))))))
      (pss_cons (ps_if (pt_cmpR op_ne (pe_meth (pv 2) T.Q_Desk T.m_Desk_say (okX_Desk_say (P := P) (w := w) T) (hr.mono (by omega)) T.b_Desk_say .nil passN (pa_cons (pe_jo pe_str (pv 7)) pa_nil)) (pe_callTy (r := rStr) call_strQ (by rfl) T.n_str (by decide +kernel) (pa_cons (pe_op op_add (pv 5) pe_int) pa_nil)) (nomark _)) (pss_cons (ps_ret pe_bl)
      pss_nil) pss_nil)
      pss_nil)))
      (pss_cons (ps_if (pt_cmpR (r := rNeD K) (op_neD hr.units) (pe_lst (pa_cons (pe_meth (pv 2) T.Q_Desk T.m_Desk_say (okX_Desk_say (P := P) (w := w) T) (hr.mono (by omega)) T.b_Desk_say .nil passN (pa_cons pe_str pa_nil)) (pa_cons (pe_meth (pv 2) T.Q_Desk T.m_Desk_say (okX_Desk_say (P := P) (w := w) T) (hr.mono (by omega)) T.b_Desk_say .nil passN (pa_cons pe_str pa_nil)) pa_nil))) (pe_lst (pa_cons pe_str (pa_cons pe_str pa_nil))) (nomark _)) (pss_cons (ps_ret pe_bl)
      pss_nil) pss_nil)
      (pss_cons (ps_for PassesOwn.never rfl (pi_range2 (by rfl) T.n_range (pa_cons pe_int (pa_cons pe_int pa_nil))) (pg_name (i := 5) sc_law.nd rfl (.inl rfl)) (pss_cons (ps_if (pt_cmpR op_ne (pe_meth (pv 2) T.Q_Desk T.m_Desk_say (okX_Desk_say (P := P) (w := w) T) (hr.mono (by omega)) T.b_Desk_say .nil passN (pa_cons pe_str pa_nil)) (pe_callTy (r := rStr) call_strQ (by rfl) T.n_str (by decide +kernel) (pa_cons (pe_op op_add (pv 5) pe_int) pa_nil)) (nomark _)) (pss_cons (ps_ret pe_bl)
      pss_nil) pss_nil)
      pss_nil))
      (pss_cons (ps_setLc (i := 9) (own := [("_law_line", 11)]) (g := (gName 11)) (by rfl) sc_law.nd rfl rfl (sw_true rfl rfl rfl (by decide +kernel)) (pi_tup (pe_tup (pa_cons pe_str (pa_cons pe_str (pa_cons pe_str pa_nil))))) (blkOk_by (own := [("_law_line", 11)]) (N := N_law) (sc := defScope s_law) (by decide +kernel)) (fun _ _ _ _ _ => (pg_name (i := 11) sc_law.nd rfl (.inl rfl) (hf := .inr rfl))) (fun _ _ _ _ _ => pts_nil) (fun _ _ _ _ _ => (pe_meth (pv 2) T.Q_Desk T.m_Desk_say (okX_Desk_say (P := P) (w := w) T) (hr.mono (by omega)) T.b_Desk_say .nil passN (pa_cons (pv 11) pa_nil))))
      (pss_cons (ps_if (pt_cmpR (r := rNeD K) (op_neD hr.units) (pv 9) (pe_lst (pa_cons pe_str (pa_cons pe_str (pa_cons pe_str pa_nil)))) (nomark _)) (pss_cons (ps_ret pe_bl)
      pss_nil) pss_nil)
      (pss_cons (ps_set (i := 8) sc_law.nd rfl (.inl rfl) (pe_lst (pa_cons pe_str (pa_cons (pe_op (r := rAddS) op_addS (pe_op (r := rAddS) op_addS pe_str (pe_callTy (r := rStr) call_strQ (by rfl) T.n_str (by decide +kernel) (pa_cons (pv 3) pa_nil))) pe_str) (pa_cons pe_str pa_nil)))))
      (pss_cons (ps_set (i := 8) sc_law.nd rfl (.inl rfl) (pe_op op_cat (pv 8) (pe_lst (pa_cons pe_str (pa_cons pe_str (pa_cons pe_str pa_nil))))))
      (pss_cons (ps_if (pt_cmpR (r := rNeD K) (op_neD hr.units) (pe_lc (own := [("_law_line", 11)]) (g := (gName 11)) (by rfl) sc_law.nd (pi_list (pv 8)) (blkOk_by (own := [("_law_line", 11)]) (N := N_law) (sc := defScope s_law) (by decide +kernel)) (fun _ _ _ _ _ => (pg_name (i := 11) sc_law.nd rfl (.inl rfl) (hf := .inr rfl))) (fun _ _ _ _ _ => pts_nil) (fun _ _ _ _ _ => (pe_meth (pv 2) T.Q_Desk T.m_Desk_say (okX_Desk_say (P := P) (w := w) T) (hr.mono (by omega)) T.b_Desk_say .nil passN (pa_cons (pv 11) pa_nil)))) (pe_lst (pa_cons pe_str (pa_cons pe_str (pa_cons pe_str (pa_cons pe_str (pa_cons pe_str (pa_cons pe_str pa_nil))))))) (nomark _)) (pss_cons (ps_ret pe_bl)
      pss_nil) pss_nil)
      (pss_cons (ps_set (i := 10) sc_law.nd rfl (.inl rfl) (pe_op op_add pe_int (pe_call (ok_law_take (P := P) (w := w) T) (hr.mono (by omega)) (by rfl) T.g_law_take T.F_law_take.kp T.b_law_take .nil pass0 (pa_cons (pv 1) (pa_cons pe_int pa_nil)))))
      (pss_cons (ps_if (PW.pt (pw_or (pt_cmpR op_ne (pe_callB (r := rLenO T.a_Log (sp_Log_len T) (fun _ _ _ => False)) (call_lenO T.m_Log_len (okX_Log_len (P := P) (w := w) T) (hr.mono (by omega)) T.b_Log_len passN) (by rfl) T.n_len PySem.boot_len (pa_cons (pe_meth (pe_meth0 (pv 2) T.Q_Desk T.m_Desk_atlas (okX_Desk_atlas (P := P) (w := w) T) (hr.mono (by omega)) T.b_Desk_atlas .nil passN) T.Q_Atlas T.m_Atlas_log (okX_Atlas_log (P := P) (w := w) T) (hr.mono (by omega)) T.b_Atlas_log .nil passN (pa_cons pe_str pa_nil)) pa_nil)) pe_int (nomark _)) (pw_or1 (pt_cmpR op_ne (pe_meth (pv 2) T.Q_Desk T.m_Desk_say (okX_Desk_say (P := P) (w := w) T) (hr.mono (by omega)) T.b_Desk_say .nil passN (pa_cons (pe_op (r := rAddS) op_addS pe_str (pe_callTy (r := rStr) call_strQ (by rfl) T.n_str (by decide +kernel) (pa_cons (pv 10) pa_nil))) pa_nil)) pe_str (nomark _))))) (pss_cons (ps_ret pe_bl)
      pss_nil) pss_nil)
      (pss_cons (ps_ret (pe_and (pe_cmpR op_eq (pe_meth (pv 2) T.Q_Desk T.m_Desk_say (okX_Desk_say (P := P) (w := w) T) (hr.mono (by omega)) T.b_Desk_say .nil passN (pa_cons pe_str pa_nil)) pe_str (nomark _)) (pe_and (pe_cmpR op_eq (pe_meth (pv 2) T.Q_Desk T.m_Desk_say (okX_Desk_say (P := P) (w := w) T) (hr.mono (by omega)) T.b_Desk_say .nil passN (pa_cons pe_str pa_nil)) pe_str (nomark _)) (pe_one (pe_cmpR op_eq (pe_meth (pv 2) T.Q_Desk T.m_Desk_say (okX_Desk_say (P := P) (w := w) T) (hr.mono (by omega)) T.b_Desk_say .nil passN (pa_cons pe_str pa_nil)) pe_str (nomark _))))))
      pss_nil)))))))))))))))))), Go.go ?_⟩
    have t0 : LamX.Tabs (tabsOf T) H := tabs_start hP
    show Go _ _ [some (V.ref a), none, none, none, none, none, none, none, none, none, none, none] H
    refine go_box hL hn (ev_var rfl) fun b H1 hb hca e1 B => ?_
    have W1 : Wld (tabsOf T) [b.b] hp0 H1 := ⟨ex0, fun a ps z => (by cases z), t0.ext e1, fun a ha => by
      obtain ⟨cells, xs, hb1, _⟩ := B
      rw [List.mem_singleton.mp ha]
      exact ⟨rfl, _, hb1, noTb_lst⟩⟩
    have t1 : Many (tabsOf T) b [] hp0 H1 := Many.one W1 B
    refine go_asgE (ew_newD T W1) ?_
    rintro _ H2 Hn2 g2 ⟨d, aa, pa, ah, rfl, f0, f1, f2, f3, n0, n1, n2, n3, L2'⟩
    have t2 : Many (tabsOf T) b [dskTh K T.a_Desk T.a_Atlas T.a_Log d aa pa ah ⟨[], [], []⟩] Hn2 H2 := t1.add (x := dskTh K T.a_Desk T.a_Atlas T.a_Log d aa pa ah ⟨[], [], []⟩) g2 (fun c hc => by
      rcases List.mem_cons.mp hc with rfl | hc
      · exact f0
      rcases List.mem_cons.mp hc with rfl | hc
      · exact f1
      rcases List.mem_cons.mp hc with rfl | hc
      · exact f2
      · rw [List.mem_singleton.mp hc]
        exact f3) (fun c hc => by
      rcases List.mem_cons.mp hc with rfl | hc
      · exact n0
      rcases List.mem_cons.mp hc with rfl | hc
      · exact n1
      rcases List.mem_cons.mp hc with rfl | hc
      · exact n2
      · rw [List.mem_singleton.mp hc]
        exact n3) L2'
    show Go _ _ [some (V.ref a), some (.ref b.b), some (.ref d), none, none, none, none, none, none, none, none, none] H2
    -- the clock, another one
    refine go_asgE (ew_eb (K := K) t2.WB (by simp) t2.B (eb_clock (ev_var rfl))) ?_
    rintro v3 H3 Hn3 g3 ⟨B3, d3, hd3, c, rfl, hc⟩
    cases hd3
    have t3 := t2.stepB g3 B3
    have hc0 := isClock_iff.mp hc
    show Go _ _ [some (V.ref a), some (.ref b.b), some (.ref d), some (.int c), none, none, none, none, none, none, none, none] H3
    obtain ⟨od, hod, ho, hoc⟩ : ∃ od : Int, (if (!decide (V.int c = V.int 3)) = true then V.int 3 else V.int 5) = V.int od ∧ od ≠ c ∧ isClock od = true := by
      by_cases h : c = 3
      · exact ⟨5, by rw [h]; rfl, by omega, by decide⟩
      · refine ⟨3, ?_, fun z => h z.symm, by decide⟩
        have : decide (V.int c = V.int 3) = false := decide_eq_false fun z => h (V.int.inj z)
        rw [this]
        rfl
    have ho0 := isClock_iff.mp hoc
    refine go_asgE (M := []) (ew_ev t3.W (ev_is (ev_ifB (et_test (ev_op (ev_var rfl) ev_c (rv_ne rfl))) ev_c ev_c) hod)) ?_
    rintro _ H4 Hn4 g4 ⟨rfl, rfl, _⟩
    have t4 := t3.stepN g4
    show Go _ _ [some (V.ref a), some (.ref b.b), some (.ref d), some (.int c), some (.int od), none, none, none, none, none, none, none] H4
    -- eight charts begun
    refine go_forN (m := 8) (ea_cons ev_c ea_nil) (by omega) (fun i σ' H' => ∃ (Hk : Hp) (A : AtlM) (wd : Nat → Int), Many (tabsOf T) b [dskTh K T.a_Desk T.a_Atlas T.a_Log d aa pa ah A] Hk H' ∧ A.logs = mkL i (fun k => newL (if k = 2 then od else c) 9 (wd k)) ∧ (∀ k, 1 ≤ wd k ∧ wd k ≤ 9) ∧ wd 0 = 9 ∧ wd 1 = 9 ∧ A.past.length = i ∧ ∃ x5 x6 x7, σ' = [some (.ref a), some (.ref b.b), some (.ref d), some (.int c), some (.int od), x5, x6, x7, none, none, none, none]) ?_ ?_ ?_
    · intro H' e
      exact ⟨_, _, fun _ => 9, t4.ext e, rfl, fun _ => ⟨(by decide : (1 : Int) ≤ 9), (by decide : (9 : Int) ≤ 9)⟩, rfl, rfl, rfl, _, _, _, rfl⟩
    · rintro i σ' H9 hi9 ⟨Hk, A, wd, t9, hA, hw, w0, w1, hpl, x5, x6, x7, rfl⟩
      have hi : i < 8 := by omega
      show Go _ _ [some (.ref a), some (.ref b.b), some (.ref d), some (.int c), some (.int od), some (.int (i : Int)), x6, x7, none, none, none, none] H9
      refine go_asgE (ew_eb (K := K) (p := isI fun w => (1 ≤ w ∧ w ≤ 9) ∧ (i < 2 → w = 9)) t9.WB (by simp) t9.B (by
        by_cases h2 : i < 2
        · exact eb_ifT (et_is (et_test (ev_op (ev_var rfl) ev_c (by walk_at "rv"))) (by simp; omega)) (eb_int ev_c ⟨by omega, fun _ => rfl⟩)
        · exact eb_ifF (et_is (et_test (ev_op (ev_var rfl) ev_c (by walk_at "rv"))) (by simp; omega)) ((eb_opI0 (f := fun i j => i + j) (fun _ _ => rfl) (eb_ev ev_c) (eb_take (ev_var rfl) ev_c (m := 9) (by decide) (by decide))).imp fun d ⟨k, e, x, y, e1, h, e2⟩ => ⟨k, e, by subst e1 e2; exact ⟨by omega, fun z => absurd z h2⟩⟩))) ?_
      rintro v6 H10 Hn10 g10 ⟨B10, d6, hd6, wi, rfl, hwi, hwi2⟩
      cases hd6
      have t10 := t9.stepB g10 B10
      show Go _ _ [some (.ref a), some (.ref b.b), some (.ref d), some (.int c), some (.int od), some (.int (i : Int)), some (.int wi), x7, none, none, none, none] H10
      obtain ⟨cl, hcl0⟩ : ∃ cl : Int, cl = if i = 2 then od else c := ⟨_, rfl⟩
      have hcl : isClock cl = true := by rw [hcl0]; split <;> assumption
      have hc9 := isClock_iff.mp hcl
      have hact : actR A.logs (.begin (nm i) cl 9 wi) = .ok (mkL (i + 1) (setN (fun k => newL (if k = 2 then od else c) 9 (wd k)) i (newL cl 9 wi))) .non := by
        rw [hA, ← mkL_new hi]
        exact beginR_ok (nm_name i hi) (mkL_none fun k hk z => by
          have := nm_inj k i (by omega) hi z
          omega) (by unfold newE; rw [if_pos hcl, if_pos (by omega)]) (by rw [mkL_len]; exact decide_eq_false (by omega))
      have h8 : (nm i).length ≤ 8 := by
        have := nm_name i hi
        unfold isNameS at this
        simp only [Bool.and_eq_true, decide_eq_true_eq] at this
        omega
      refine go_asgE (M := []) (ew_ed (K := K) (d := .list ((["begin", nm i, numS cl, "9", numS wi] : List Str).map .str)) t10.W (ed_new (en_lst (eda_cons (ed_str ev_c) (eda_cons (ed_str (ev_ixS ev_c (ev_var rfl) (by decide +kernel) (nm_at i hi))) (eda_cons (ed_str (ev_strI (ev_is (ev_ifB (et_test (ev_op (ev_var rfl) ev_c (by walk_at "rv"))) (ev_var rfl) (ev_var rfl)) (by
        rw [hcl0]
        by_cases h : i = 2
        · rw [if_pos h, h]
          rfl
        · rw [if_neg h, if_neg (by simpa using (by omega : ¬ (i : Int) = 2))])) (log2_small (by omega) (by omega)))) (eda_cons (ed_str ev_c) (eda_cons (ed_str (ev_strI (ev_var rfl) (log2_small (by omega) (by omega)))) eda_nil))))) (by simp)))) ?_
      rintro v7 H11 Hn11 g11 ⟨hd7, _⟩
      have t11 := t10.stepN g11
      show Go _ _ [some (.ref a), some (.ref b.b), some (.ref d), some (.int c), some (.int od), some (.int (i : Int)), some (.int wi), some v7, none, none, none, none] H11
      have hjo := jo_small (ys := ["begin", nm i, numS cl, "9", numS wi]) (fun z hz => by
        simp only [List.mem_cons, List.not_mem_nil, or_false] at hz
        rcases hz with rfl | rfl | rfl | rfl | rfl
        · decide +kernel
        · omega
        · exact numS_short (by omega) (by omega)
        · decide +kernel
        · exact numS_short (by omega) (by omega)) (by simp)
      refine go_bind (C := fun te => tSeq (tIfS (tTest (tOp _ te _)) _ tNext) _) (ew_sayOk T (x := .begin (nm i) cl 9 wi) t11.WD (ev_var rfl) (ea_cons ((ev_jo ev_c (ed_var (K := K) rfl hd7) hjo).mono t11.W.sub) ea_nil) t11.head (by omega) (lineT_begin (nm i) cl 9 wi).symm (plain_begin (nm_name i hi) (by omega) (by omega) (by omega)) (by show (nm i).length ≤ 30000; omega) hact (.inl rfl)) ?_
      rintro _ H12 Hn12 g12 ⟨rfl, L12⟩
      have t12 := t11.stepD g12 L12
      refine go_whenF (et_is (et_test (ev_op ev_val ev_c (rv_ne rfl))) (by simp [toldT])) ?_
      refine go_next fun H13 e13 => ⟨Hn12, _, fun k => if k = i then wi else wd k, t12.ext e13, mkL_cong fun k hk => ?_, fun k => ?_, ?_, ?_, by show (A.past ++ [_]).length = _; rw [List.length_append, hpl]; rfl, _, _, _, rfl⟩
      · unfold setN
        dsimp only
        by_cases e : k = i
        · rw [if_pos e, if_pos e, e, hcl0]
        · rw [if_neg e, if_neg e]
      · dsimp only
        split
        · exact hwi
        · exact hw k
      · dsimp only
        split
        · exact hwi2 (by omega)
        · exact w0
      · dsimp only
        split
        · exact hwi2 (by omega)
        · exact w1
    · rintro σ' H9 ⟨Hk, A, wd, t9, hA, hw, w0, w1, hpl, x5, x6, x7, rfl⟩
      have hA : A.logs = mkL 8 (fun k => newL (if k = 2 then od else c) 9 (wd k)) := hA
      have hpl : A.past.length = 8 := hpl
      -- refused lines
      refine go_asgE (M := []) (ew_ed (K := K) (d := .list (((lnA c).map lineT).map .str)) t9.W (ed_new (en_lst (eda_cons (ed_str (ev_is (ev_addS (ev_addS ev_c (ev_strI (ev_var rfl) (log2_small (by omega) (by omega))) ?_) ev_c ?_) (congrArg V.str tl_begin))) (eda_cons (ed_str (ev_is ev_c (congrArg V.str (show _ = lineT (.begin "z" 4 1 1) by decide +kernel)))) (eda_cons (ed_str (ev_is ev_c (congrArg V.str (show _ = lineT (.begin "a" 5 1 1) by decide +kernel)))) (eda_cons (ed_str (ev_is ev_c (congrArg V.str (show _ = lineT (.begin "z" 5 0 1) by decide +kernel)))) eda_nil)))) (by simp [lnA])))) ?_
      · have := toString_short (n := c) (by omega) (by omega)
        rw [show Str.length "begin z " = 8 by decide +kernel]
        omega
      · have := toString_short (n := c) (by omega) (by omega)
        rw [Str.length_append, show Str.length "begin z " = 8 by decide +kernel, show Str.length " 1 1" = 4 by decide +kernel]
        omega
      rintro v8 H10 Hn10 g10 ⟨hd8, _⟩
      have t10 := t9.stepN g10
      show Go _ _ [some (.ref a), some (.ref b.b), some (.ref d), some (.int c), some (.int od), x5, x6, x7, some v8, none, none, none] H10
      have L10 : DskAt K T.a_Desk T.a_Atlas T.a_Log Hn10 H10 d aa pa ah A := t10.head
      refine go_bind (C := fun te => tSeq (tIfS (tTest (tOp (rNeD K) te _)) _ tNext) _) (ew_lcD T (S := fun _ A' => A' = A) (us := (lnAe.map refT).map V.str) (j := 11) t10.WD L10 (ev_var rfl) hd8 (by simp [lnA]) (by simp [lnA, lnAe]) rfl (fun v => rfl) ?_) ?_
      · rintro i y x u A1 Hk1 H' h1 h2 hx rfl L1 W1
        rw [List.getElem?_map, List.getElem?_map, Option.map_map] at h1 h2
        obtain ⟨m, hm, rfl⟩ := Option.map_eq_some_iff.mp h1
        obtain ⟨e, he, rfl⟩ := Option.map_eq_some_iff.mp h2
        obtain ⟨k1, k2, k3⟩ := lnA_ok (f := fun k => newL (if k = 2 then od else c) 9 (wd k)) hc hm he
        rw [← hA] at k1
        have hx' : x = .str (lineT m) := by cases hx; rfl
        subst hx'
        exact (ew_sayNo T (x := m) W1 (ev_var rfl) (ea_cons (ev_var rfl) ea_nil) L1 (by omega) rfl k2 k3 k1).imp fun v Hn H2 g ⟨e, L2⟩ => ⟨e, _, rfl, L2⟩
      rintro _ H12 Hn12 g12 ⟨D12, _, rfl, nD, n12, h12, rfl, L12⟩
      have gk := g12.keep nD n12 h12 noTb_lst
      have t12 := t10.stepD gk (L12.mono (Ex.new n12) (Ex.refl _))
      have hd12 : Dp K (upd Hn12 D12 (.lst ((lnAe.map refT).map V.str))) (.ref D12) (.list ((lnAe.map refT).map PyData.str)) := .lst (sq_of upd_same) (Cot.dpa_strs (Hd := _) _)
      have sh : SeqAt.shaped (.list ((lnAe.map refT).map PyData.str)) = true := by decide +kernel
      refine go_whenF (EvT.mono t12.W.sub (et_is (et_test (ev_neD (K := K) (ed_val hd12) (ed_new (en_lst (ds := (lnAe.map refT).map PyData.str) (eda_cons (ed_str ev_c) (eda_cons (ed_str ev_c) (eda_cons (ed_str ev_c) (eda_cons (ed_str ev_c) eda_nil)))) (by simp [lnAe]))) sh sh)) (by decide +kernel))) ?_
      -- b is told square by square
      refine go_forN (m := 81) (ea_cons ev_c ea_nil) (by omega) (fun i σ' H' => ∃ (Hk : Hp) (A : AtlM) (f : Nat → LogM), Many (tabsOf T) b [dskTh K T.a_Desk T.a_Atlas T.a_Log d aa pa ah A] Hk H' ∧ A.logs = mkL 8 f ∧ f 0 = newL c 9 9 ∧ LB (f 1) c i ∧ (f 2).clock = od ∧ A.past.length = 8 + i ∧ ∃ x5 x7, σ' = [some (.ref a), some (.ref b.b), some (.ref d), some (.int c), some (.int od), x5, x6, x7, some v8, none, none, none]) ?_ ?_ ?_
      · intro H' e
        refine ⟨_, _, _, t12.ext e, hA, ?_, ?_, rfl, hpl, _, _, rfl⟩
        · show newL c 9 (wd 0) = _
          rw [w0]
        · show LB (newL c 9 (wd 1)) c 0
          rw [w1]
          exact LB.new
      · rintro i σ' H13 hi9 ⟨Hk, A, f, t13, hA, f0, kb, f2, hpl, x5, x7, rfl⟩
        have hi : i < 81 := by omega
        show Go _ _ [some (.ref a), some (.ref b.b), some (.ref d), some (.int c), some (.int od), some (.int (i : Int)), x6, x7, some v8, none, none, none] H13
        have gb : getL A.logs "b" = some (f 1) := by rw [hA, ← nm_b]; exact mkL_get (by omega) (by omega)
        have hdiv : (i : Int) / 9 = ((i / 9 : Nat) : Int) ∧ (i : Int) % 9 = ((i % 9 : Nat) : Int) := ⟨by omega, by omega⟩
        refine go_asgE (ew_eb (K := K) t13.WB (by simp) t13.B (eb_bn (bn_lst (eba_cons (eb_ed (ed_str ev_c)) (eba_cons (eb_ed (ed_str (ev_strI (k := ((i / 9 : Nat) : Int)) (ev_is (ev_op (ev_var rfl) ev_c (by walk_at "rv")) (congrArg V.int hdiv.1)) (log2_small (by omega) (by omega))))) (eba_cons (eb_ed (ed_str (ev_strI (k := ((i % 9 : Nat) : Int)) (ev_is (ev_op (ev_var rfl) ev_c (by walk_at "rv")) (congrArg V.int hdiv.2)) (log2_small (by omega) (by omega))))) (eba_cons (eb_strI (eb_take (ev_var rfl) (ev_var rfl) (m := c) (by omega) (by omega)) fun o h => log2_small (by omega) (by omega)) (eba_cons (eb_strI (eb_take (ev_var rfl) ev_c (m := 5) (by decide) (by decide)) fun o h => log2_small (by omega) (by omega)) eba_nil))))) ?_))) ?_
        · rintro ds ⟨_, _, rfl, rfl, _, _, rfl, rfl, _, _, rfl, rfl, _, _, rfl, _, _, _, rfl, _, rfl⟩
          simp
        rintro v7 H14 Hn14 g14 ⟨B14, _, hd7, _, rfl, _, _, rfl, rfl, _, _, rfl, rfl, _, _, rfl, rfl, _, _, rfl, ⟨_, rfl, o, ho1, rfl⟩, _, _, rfl, ⟨_, rfl, y, hy1, rfl⟩, rfl⟩
        have t14 := t13.stepB g14 B14
        show Go _ _ [some (.ref a), some (.ref b.b), some (.ref d), some (.int c), some (.int od), some (.int (i : Int)), x6, some v7, some v8, none, none, none] H14
        have hd7 : Dp K Hn14 v7 (.list ((["tell b", numS ((i / 9 : Nat) : Int), numS ((i % 9 : Nat) : Int), numS o, numS y] : List Str).map .str)) := hd7
        have hjo := jo_small (ys := ["tell b", numS ((i / 9 : Nat) : Int), numS ((i % 9 : Nat) : Int), numS o, numS y]) (fun z hz => by
          simp only [List.mem_cons, List.not_mem_nil, or_false] at hz
          rcases hz with rfl | rfl | rfl | rfl | rfl
          · decide +kernel
          · exact numS_short (by omega) (by omega)
          · exact numS_short (by omega) (by omega)
          · exact numS_short (by omega) (by omega)
          · exact numS_short (by omega) (by omega)) (by simp)
        have hact : actR A.logs (.tell "b" ((i / 9 : Nat) : Int) ((i % 9 : Nat) : Int) o y) = .ok (putL A.logs "b" (addL (f 1) ((i / 9 : Nat) : Int) ((i % 9 : Nat) : Int) o y)) (.int (f 1).next) := tellR_ok gb (kb.k.can (by omega) (by omega) (by omega) (by omega) (by omega))
        have hnx := kb.k.nx
        refine go_bind (C := fun te => tSeq (tIfS (tTest (tOp _ te _)) _ tNext) _) (ew_sayOk T (x := .tell "b" ((i / 9 : Nat) : Int) ((i % 9 : Nat) : Int) o y) t14.WD (ev_var rfl) (ea_cons ((ev_jo ev_c (ed_var (K := K) rfl hd7) hjo).mono t14.W.sub) ea_nil) t14.head (by omega) (tl_tellb ho1.1) (plain_tell nb (by omega) (by omega) (by omega) (by omega)) trivial hact (.inr ⟨_, rfl, log2_small (by omega) (by omega)⟩)) ?_
        rintro _ H15 Hn15 g15 ⟨rfl, L15⟩
        have t15 := t14.stepD g15 L15
        refine go_whenF (et_is (et_test (ev_op ev_val (ev_strI (ev_op (ev_var rfl) ev_c (by walk_at "rv")) (log2_small (by omega) (by omega))) (rv_ne rfl))) (by rw [hnx]; simp [toldT])) ?_
        refine go_next fun H16 e16 => ⟨Hn15, _, setN f 1 (addL (f 1) ((i / 9 : Nat) : Int) ((i % 9 : Nat) : Int) o y), t15.ext e16, ?_, f0, ?_, f2, by show (A.past ++ [_]).length = _; rw [List.length_append, hpl]; rfl, _, _, rfl⟩
        · show putL A.logs "b" _ = _
          rw [hA, ← nm_b]
          exact mkL_put (by omega) (by omega)
        · show LB (addL (f 1) _ _ _ _) c (i + 1)
          exact kb.add (by omega) (by omega)
      · rintro σ' H13 ⟨Hk, A, f, t13, hA, f0, kb, f2, hpl, x5, x7, rfl⟩
        have kb : LB (f 1) c 81 := kb
        have hpl : A.past.length = 89 := hpl
        -- a is laid twice
        have lay : ∀ (A : AtlM) (f : Nat → LogM) (n : Nat) (y : Int), A.logs = mkL 8 f → LK (f 0) c 9 9 n → LB (f 1) c 81 → (f 2).clock = od → n ≤ 81 → 4 ≤ y ∧ y ≤ 9 → ∃ f2 : Nat → LogM, actR A.logs (.lay "a" "b" 0 0 y) = .ok (mkL 8 f2) (.int 81) ∧ LK (f2 0) c 9 9 (n + 81) ∧ LB (f2 1) c 81 ∧ (f2 2).clock = od := by
          intro A f n y hA k0 k1 k2 hn hy
          obtain ⟨l1, l2⟩ := k1.lay k0 (y := y) hy.1
          have ga : getL A.logs "a" = some (f 0) := by rw [hA, ← nm_a]; exact mkL_get (by omega) (by omega)
          have gb : getL A.logs "b" = some (f 1) := by rw [hA, ← nm_b]; exact mkL_get (by omega) (by omega)
          refine ⟨setN f 0 (layAll (f 0) (f 1) 0 0 y).1, ?_, l1, k1, k2⟩
          show layR A.logs (.lay "a" "b" 0 0 y) = _
          rw [layR_ok ga gb (by omega) (by rw [k0.cl, k1.k.cl]) (by rw [k0.hi, k0.wi, k1.k.hi, k1.k.wi]; decide) (by rw [k0.ln, l2]; omega), l2, hA, ← nm_a, mkL_put (by omega) (by omega)]
          rfl
        have pl : ∀ y : Int, 4 ≤ y ∧ y ≤ 9 → PlainD (.lay "a" "b" 0 0 y) := fun y hy => plain_lay na nb (by omega) (by omega) (by omega)
        obtain ⟨f14, hact14, k0, k1, k2⟩ := lay A f 0 4 hA (by rw [f0]; exact LK.new) kb f2 (by omega) (by omega)
        refine go_bind (C := fun te => tSeq (tIfS (tTest (tOp (rNeD K) (tLst (tCons te (tCons _ tNil))) _)) _ tNext) _) (ew_sayOk T (x := .lay "a" "b" 0 0 4) t13.WD (ev_var rfl) (ea_cons ev_c ea_nil) t13.head (by omega) (show _ = lineT (.lay "a" "b" 0 0 4) by decide +kernel) (pl 4 (by omega)) trivial hact14 (.inr ⟨81, rfl, by decide⟩)) ?_
        rintro _ H14 Hn14 g14 ⟨rfl, L14⟩
        have t14 := t13.stepD g14 L14
        have hA14 : (doA A (mkL 8 f14) (AtD.lay "a" "b" 0 0 4).d).logs = mkL 8 f14 := rfl
        have hpl14 : (doA A (mkL 8 f14) (AtD.lay "a" "b" 0 0 4).d).past.length = 90 := by show (A.past ++ [_]).length = _; rw [List.length_append, hpl]; rfl
        generalize doA A (mkL 8 f14) (AtD.lay "a" "b" 0 0 4).d = A14 at t14 hA14 hpl14
        obtain ⟨f15, hact15, k0, k1, k2⟩ := lay A14 f14 _ 9 hA14 k0 k1 k2 (by omega) (by omega)
        refine go_bind (C := fun te => tSeq (tIfS (tTest (tOp (rNeD K) (tLst (tCons (tVal _) (tCons te tNil))) _)) _ tNext) _) (ew_sayOk T (x := .lay "a" "b" 0 0 9) t14.WD (ev_var rfl) (ea_cons ev_c ea_nil) t14.head (by omega) (show _ = lineT (.lay "a" "b" 0 0 9) by decide +kernel) (pl 9 (by omega)) trivial hact15 (.inr ⟨81, rfl, by decide⟩)) ?_
        rintro _ H15 Hn15 g15 ⟨rfl, L15⟩
        have t15 := t14.stepD g15 L15
        have hA15 : (doA A14 (mkL 8 f15) (AtD.lay "a" "b" 0 0 9).d).logs = mkL 8 f15 := rfl
        have hpl15 : (doA A14 (mkL 8 f15) (AtD.lay "a" "b" 0 0 9).d).past.length = 91 := by show (A14.past ++ [_]).length = _; rw [List.length_append, hpl14]; rfl
        generalize doA A14 (mkL 8 f15) (AtD.lay "a" "b" 0 0 9).d = A15 at t15 hA15 hpl15
        have sh81 : SeqAt.shaped (.list [.str (toldT (.int 81)), .str (toldT (.int 81))]) = true := by decide +kernel
        refine go_whenF (EvT.mono t15.W.sub (et_is (et_test (ev_neD (K := K) (d := .list [.str (toldT (.int 81)), .str (toldT (.int 81))]) (e := .list [.str (toldT (.int 81)), .str (toldT (.int 81))]) (ed_new (en_lst (eda_cons (ed_str ev_val) (eda_cons (ed_str ev_val) eda_nil)) (by simp))) (ed_new (en_lst (eda_cons (ed_str (ev_is ev_c (congrArg V.str (show _ = toldT (.int 81) by decide +kernel)))) (eda_cons (ed_str (ev_is ev_c (congrArg V.str (show _ = toldT (.int 81) by decide +kernel)))) eda_nil)) (by simp))) sh81 sh81)) (by decide +kernel))) ?_
        -- up to one hundred and ninety-nine
        refine go_forN2 (lo := 162) (m := 199) (ea_cons ev_c (ea_cons ev_c ea_nil)) (by omega) (by omega) (fun i σ' H' => ∃ (Hk : Hp) (A : AtlM) (f : Nat → LogM), Many (tabsOf T) b [dskTh K T.a_Desk T.a_Atlas T.a_Log d aa pa ah A] Hk H' ∧ A.logs = mkL 8 f ∧ LK (f 0) c 9 9 (162 + i) ∧ LB (f 1) c 81 ∧ (f 2).clock = od ∧ A.past.length = 91 + i ∧ ∃ x5, σ' = [some (.ref a), some (.ref b.b), some (.ref d), some (.int c), some (.int od), x5, x6, x7, some v8, none, none, none]) ?_ ?_ ?_
        · intro H' e
          exact ⟨_, _, f15, t15.ext e, hA15, k0, k1, k2, hpl15, _, rfl⟩
        · rintro i σ' H18 hi9 ⟨Hk, A, f, t18, hA, k0, k1, k2, hpl, x5, rfl⟩
          have hi : i < 37 := by omega
          show Go _ _ [some (.ref a), some (.ref b.b), some (.ref d), some (.int c), some (.int od), some (.int (162 + (i : Int))), x6, x7, some v8, none, none, none] H18
          have ga : getL A.logs "a" = some (f 0) := by rw [hA, ← nm_a]; exact mkL_get (by omega) (by omega)
          have hact : actR A.logs (.tell "a" 0 0 (-1) 3) = .ok (putL A.logs "a" (addL (f 0) 0 0 (-1) 3)) (.int (f 0).next) := tellR_ok ga (k0.can (by omega) (by omega) (by omega) (by omega) (by omega))
          have hnx := k0.nx
          refine go_bind (C := fun te => tSeq (tIfS (tTest (tOp _ te _)) _ tNext) _) (ew_sayOk T (x := .tell "a" 0 0 (-1) 3) t18.WD (ev_var rfl) (ea_cons ev_c ea_nil) t18.head (by omega) (show _ = lineT (.tell "a" 0 0 (-1) 3) by decide +kernel) (plain_tell na (by omega) (by omega) (by omega) (by omega)) trivial hact (.inr ⟨_, rfl, log2_small (by omega) (by omega)⟩)) ?_
          rintro _ H19 Hn19 g19 ⟨rfl, L19⟩
          have t19 := t18.stepD g19 L19
          refine go_whenF (et_is (et_test (ev_op ev_val (ev_strI (ev_op (ev_var rfl) ev_c (by walk_at "rv")) (log2_small (by omega) (by omega))) (rv_ne rfl))) (by rw [hnx]; simp [toldT])) ?_
          refine go_next fun H20 e20 => ⟨Hn19, _, setN f 0 (addL (f 0) 0 0 (-1) 3), t19.ext e20, ?_, ?_, k1, k2, by show (A.past ++ [_]).length = _; rw [List.length_append, hpl]; rfl, _, rfl⟩
          · show putL A.logs "a" _ = _
            rw [hA, ← nm_a]
            exact mkL_put (by omega) (by omega)
          · show LK (addL (f 0) _ _ _ _) c 9 9 (162 + i + 1)
            exact k0.add
        · rintro σ' H18 ⟨Hk, A, f, t18, hA, k0, k1, k2, hpl, x5, rfl⟩
          have k0 : LK (f 0) c 9 9 199 := k0
          have hpl : A.past.length = 128 := hpl
          -- three more lines
          refine go_bind (M := []) (C := fun te => tSeq (tAsg (tLc (iTup K te) (gName 11) tYes _ [11]) (gName 9)) _) (ew_ed (K := K) t18.W (d := .tuple ([.str "lay a b 0 0 9", .str "tell a 8 8 sea 999", .str "tell a 0 0 0 0"] : List PyData)) (ed_tup (eda_cons (ed_str ev_c) (eda_cons (ed_str ev_c) (eda_cons (ed_str ev_c) eda_nil))) (by simp))) ?_
          rintro v19 H19 Hn19 g19 ⟨hd19, _⟩
          have t19 := t18.stepN g19
          obtain ⟨p19, rfl, hs19⟩ : ∃ p, v19 = .ref p ∧ SqT K Hn19 p [.str "lay a b 0 0 9", .str "tell a 8 8 sea 999", .str "tell a 0 0 0 0"] := by
            cases hd19 with
            | tup hs hall =>
              cases hall with | cons a1 hall => cases hall with | cons a2 hall => cases hall with | cons a3 hall => cases hall; cases a1; cases a2; cases a3; exact ⟨_, rfl, hs⟩
          refine go_asgE (ew_lcDT T (S := fun i A' => ∃ f, A'.logs = mkL 8 f ∧ LK (f 0) c 9 9 (if i < 2 then 199 else 200) ∧ LB (f 1) c 81 ∧ (f 2).clock = od ∧ A'.past.length ≤ 128 + i) (us := [.str "full", .str "200", .str "full"]) (j := 11) t19.WD t19.head hs19 (by simp) rfl ⟨f, hA, k0, k1, k2, by omega⟩ (fun v => rfl) ?_) ?_
          · rintro i x u A1 Hk1 H' hx hu ⟨f1, hA1, k0, k1, k2, hpl⟩ L1 W1
            have ga : getL A1.logs "a" = some (f1 0) := by rw [hA1, ← nm_a]; exact mkL_get (by omega) (by omega)
            have gb : getL A1.logs "b" = some (f1 1) := by rw [hA1, ← nm_b]; exact mkL_get (by omega) (by omega)
            rcases i with _ | _ | _ | i
            · cases hx; cases hu
              have k0 : LK (f1 0) c 9 9 199 := k0
              have hfull : actR A1.logs (.lay "a" "b" 0 0 9) = .no (.er .full) := by
                show layR A1.logs (.lay "a" "b" 0 0 9) = _
                exact layR_full ga gb (by omega) (by rw [k0.cl, k1.k.cl]) (by rw [k0.hi, k0.wi, k1.k.hi, k1.k.wi]; decide) (by rw [k0.ln, (k1.lay k0 (y := 9) (by omega)).2]; omega)
              exact (ew_sayNo T (x := .lay "a" "b" 0 0 9) W1 (ev_var rfl) (ea_cons (ev_var rfl) ea_nil) L1 (by omega) (by decide +kernel) (plain_lay na nb (by omega) (by omega) (by omega)) trivial hfull).imp fun v Hn H2 g ⟨e, L2⟩ => ⟨e, _, ⟨f1, hA1, k0, k1, k2, by omega⟩, L2⟩
            · cases hx; cases hu
              have k0 : LK (f1 0) c 9 9 199 := k0
              have hnx := k0.nx
              have hact : actR A1.logs (.tell "a" 8 8 (-2) 999) = .ok (putL A1.logs "a" (addL (f1 0) 8 8 (-2) 999)) (.int (f1 0).next) := tellR_ok ga (k0.can (by omega) (by omega) (by omega) (by omega) (by omega))
              refine (ew_sayOk T (x := .tell "a" 8 8 (-2) 999) W1 (ev_var rfl) (ea_cons (ev_var rfl) ea_nil) L1 (by omega) (by decide +kernel) (plain_tell na (by omega) (by omega) (by omega) (by omega)) trivial hact (.inr ⟨_, rfl, log2_small (by omega) (by omega)⟩)).imp fun v Hn H2 g ⟨e, L2⟩ => ⟨?_, _, ⟨setN f1 0 (addL (f1 0) 8 8 (-2) 999), ?_, ?_, k1, k2, ?_⟩, L2⟩
              · rw [e, hnx]
                exact congrArg V.str (by decide +kernel)
              · show putL A1.logs "a" _ = _
                rw [hA1, ← nm_a]
                exact mkL_put (by omega) (by omega)
              · show LK (addL (f1 0) _ _ _ _) c 9 9 200
                exact k0.add
              · show (A1.past ++ [_]).length ≤ _
                rw [List.length_append]
                show _ + 1 ≤ _
                omega
            · cases hx; cases hu
              have k0 : LK (f1 0) c 9 9 200 := k0
              have hfull : actR A1.logs (.tell "a" 0 0 0 0) = .no (.er .full) := tellR_no ga (by unfold addE; rw [k0.cl, k0.hi, k0.wi, k0.ln, if_pos (by omega), if_pos (by omega), if_pos (by omega), if_neg (by omega)])
              exact (ew_sayNo T (x := .tell "a" 0 0 0 0) W1 (ev_var rfl) (ea_cons (ev_var rfl) ea_nil) L1 (by omega) (by decide +kernel) (plain_tell na (by omega) (by omega) (by omega) (by omega)) trivial hfull).imp fun v Hn H2 g ⟨e, L2⟩ => ⟨e, _, ⟨f1, hA1, k0, k1, k2, by omega⟩, L2⟩
            · simp at hx
          rintro _ H20 Hn20 g20 ⟨D20, A20, rfl, nD, n20, h20, ⟨f20, hA20, k0, k1, k2, hpl20⟩, L20⟩
          have k0 : LK (f20 0) c 9 9 200 := k0
          have hpl20 : A20.past.length ≤ 131 := hpl20
          have gk := g20.keep nD n20 h20 noTb_lst
          have t20 := t19.stepD gk (L20.mono (Ex.new n20) (Ex.refl _))
          have hd20 : Dp K (upd Hn20 D20 (.lst [.str "full", .str "200", .str "full"])) (.ref D20) (.list ((["full", "200", "full"] : List Str).map PyData.str)) := .lst (sq_of upd_same) (Cot.dpa_strs (Hd := _) ["full", "200", "full"])
          generalize upd Hn20 D20 (.lst [.str "full", .str "200", .str "full"]) = Hd20 at t20 hd20
          show Go _ _ [some (.ref a), some (.ref b.b), some (.ref d), some (.int c), some (.int od), x5, x6, x7, some v8, some (.ref D20), none, none] H20
          have sh20 : SeqAt.shaped (.list ((["full", "200", "full"] : List Str).map PyData.str)) = true := by decide +kernel
          refine go_whenF (EvT.mono t20.W.sub (et_is (et_test (ev_neD (K := K) (ed_var rfl hd20) (ed_new (en_lst (ds := (["full", "200", "full"] : List Str).map PyData.str) (eda_cons (ed_str ev_c) (eda_cons (ed_str ev_c) (eda_cons (ed_str ev_c) eda_nil))) (by simp))) sh20 sh20)) (by decide +kernel))) ?_
          -- what is looked at first
          refine go_asgE (M := []) (ew_enN (K := K) (ds := (["tell a 9 0 0 1000", lineT (.tell "a" 0 0 c 1000), "tell a 0 0 0 1000"] : List Str).map .str) t20.W (en_lst (eda_cons (ed_str ev_c) (eda_cons (ed_str (ev_is (ev_addS (ev_addS ev_c (ev_strI (ev_var rfl) (log2_small (by omega) (by omega))) ?_) ev_c ?_) (congrArg V.str (tl_hour (by omega))))) (eda_cons (ed_str ev_c) eda_nil))) (by simp))) ?_
          · have := toString_short (n := c) (by omega) (by omega)
            rw [show Str.length "tell a 0 0 " = 11 by decide +kernel]
            omega
          · have := toString_short (n := c) (by omega) (by omega)
            rw [Str.length_append, show Str.length "tell a 0 0 " = 11 by decide +kernel, show Str.length " 1000" = 5 by decide +kernel]
            omega
          rintro _ H21 Hn21 g21 ⟨p21, xs21, rfl, h21, hx21⟩
          have t21 := t20.stepN g21
          show Go _ _ [some (.ref a), some (.ref b.b), some (.ref d), some (.int c), some (.int od), x5, x6, x7, some (.ref p21), some (.ref D20), none, none] H21
          refine go_asgE (M := []) (ew_ed (K := K) (d := .list ((["tell a 9 0 0 1000", lineT (.tell "a" 0 0 c 1000), "tell a 0 0 0 1000"] : List Str).map .str ++ (["lay a b 0 0 1000", "lay a c 0 9 9", "lay a b 1 0 9"] : List Str).map .str)) t21.W (ed_new (en_cat (em_ref (ev_var rfl) h21 hx21) (em_new (en_lst (eda_cons (ed_str ev_c) (eda_cons (ed_str ev_c) (eda_cons (ed_str ev_c) eda_nil))) (by simp))) (by simp)))) ?_
          rintro v22 H22 Hn22 g22 ⟨hd22, _⟩
          have t22 := t21.stepN g22
          have hd22 : Dp K Hn22 v22 (.list (((lnB c).map lineT).map .str)) := by
            have e : (["tell a 9 0 0 1000", lineT (.tell "a" 0 0 c 1000), "tell a 0 0 0 1000"] : List Str).map PyData.str ++ (["lay a b 0 0 1000", "lay a c 0 9 9", "lay a b 1 0 9"] : List Str).map .str = ((lnB c).map lineT).map .str := by
              rw [show (lnB c).map lineT = [lineT (.tell "a" 9 0 0 1000), lineT (.tell "a" 0 0 c 1000), lineT (.tell "a" 0 0 0 1000), lineT (.lay "a" "b" 0 0 1000), lineT (.lay "a" "c" 0 9 9), lineT (.lay "a" "b" 1 0 9)] from rfl, show lineT (.tell "a" 9 0 0 1000) = "tell a 9 0 0 1000" by decide +kernel, show lineT (.tell "a" 0 0 0 1000) = "tell a 0 0 0 1000" by decide +kernel, show lineT (.lay "a" "b" 0 0 1000) = "lay a b 0 0 1000" by decide +kernel, show lineT (.lay "a" "c" 0 9 9) = "lay a c 0 9 9" by decide +kernel, show lineT (.lay "a" "b" 1 0 9) = "lay a b 1 0 9" by decide +kernel]
              rfl
            rw [← e]
            exact hd22
          show Go _ _ [some (.ref a), some (.ref b.b), some (.ref d), some (.int c), some (.int od), x5, x6, x7, some v22, some (.ref D20), none, none] H22
          have L22 : DskAt K T.a_Desk T.a_Atlas T.a_Log Hn22 H22 d aa pa ah A20 := t22.head
          refine go_bind (C := fun te => tSeq (tIfS (tTest (tOp (rNeD K) te _)) _ tNext) _) (ew_lcD T (S := fun _ A' => A' = A20) (us := (lnBe.map refT).map V.str) (j := 11) t22.WD L22 (ev_var rfl) hd22 (by simp [lnB]) (by simp [lnB, lnBe]) rfl (fun v => rfl) ?_) ?_
          · rintro i y x u A1 Hk1 H' h1 h2 hx rfl L1 W1
            rw [List.getElem?_map, List.getElem?_map, Option.map_map] at h1 h2
            obtain ⟨m, hm, rfl⟩ := Option.map_eq_some_iff.mp h1
            obtain ⟨e, he, rfl⟩ := Option.map_eq_some_iff.mp h2
            obtain ⟨j1, j2, j3⟩ := lnB_ok hc ho k0 k1.k k2 hm he
            rw [← hA20] at j1
            have hx' : x = .str (lineT m) := by cases hx; rfl
            subst hx'
            exact (ew_sayNo T (x := m) W1 (ev_var rfl) (ea_cons (ev_var rfl) ea_nil) L1 (by omega) rfl j2 j3 j1).imp fun v Hn H2 g ⟨e, L2⟩ => ⟨e, _, rfl, L2⟩
          rintro _ H23 Hn23 g23 ⟨D23, A23, rfl, nD, n23, h23, eA, L23⟩
          obtain rfl := eA.symm
          have gk := g23.keep nD n23 h23 noTb_lst
          have t23 := t22.stepD gk (L23.mono (Ex.new n23) (Ex.refl _))
          have hd23 : Dp K (upd Hn23 D23 (.lst ((lnBe.map refT).map V.str))) (.ref D23) (.list ((lnBe.map refT).map PyData.str)) := .lst (sq_of upd_same) (Cot.dpa_strs (Hd := _) _)
          have sh : SeqAt.shaped (.list ((lnBe.map refT).map PyData.str)) = true := by decide +kernel
          refine go_whenF (EvT.mono t23.W.sub (et_is (et_test (ev_neD (K := K) (ed_val hd23) (ed_new (en_lst (ds := (lnBe.map refT).map PyData.str) (eda_cons (ed_str ev_c) (eda_cons (ed_str ev_c) (eda_cons (ed_str ev_c) (eda_cons (ed_str ev_c) (eda_cons (ed_str ev_c) (eda_cons (ed_str ev_c) eda_nil)))))) (by simp [lnBe]))) sh sh)) (by decide +kernel))) ?_
          generalize upd Hn23 D23 (.lst ((lnBe.map refT).map V.str)) = Hd23 at t23
          clear hd23
          -- a number
          refine go_asgE (ew_eb (K := K) (p := isI fun n => 1 ≤ n ∧ n ≤ 200) t23.WB (by simp) t23.B ((eb_opI0 (f := fun i j => i + j) (fun _ _ => rfl) (eb_ev ev_c) (eb_take (ev_var rfl) ev_c (m := 200) (by decide) (by decide))).imp fun d ⟨k, e, x, y, e1, h, e2⟩ => ⟨k, e, by subst e1 e2; omega⟩)) ?_
          rintro v24 H24 Hn24 g24 ⟨B24, d24, hd24, n, rfl, hn1, hn2⟩
          cases hd24
          have t24 := t23.stepB g24 B24
          show Go _ _ [some (.ref a), some (.ref b.b), some (.ref d), some (.int c), some (.int od), x5, x6, x7, some v22, some (.ref D20), some (.int n), none] H24
          have ga : getL A20.logs "a" = some (f20 0) := by rw [hA20, ← nm_a]; exact mkL_get (by omega) (by omega)
          refine go_bind (M := []) (C := fun te => tSeq (tIfS (tOr (tTest (tOp _ (tCB _ (tCons (tMeth _ _ _ _ _ te _) tNil)) _)) _) _ tNext) _) (ew_atlasD T t24.W (ev_var rfl) t24.head) ?_
          rintro _ H25 Hn25 g25 ⟨a2, p2, h2, rfl, _, _, _, _, _, _, L25⟩
          have t25 := t24.stepN g25
          refine go_bind (M := []) (C := fun te => tSeq (tIfS (tOr (tTest (tOp _ (tCB _ (tCons te tNil)) _)) _) _ tNext) _) (ew_logV T t25.W ev_val L25 (ea_cons ev_c ea_nil) ga) ?_
          rintro _ H26 Hn26 g26 ⟨e26, p26, d26, rfl, _, _, L26⟩
          obtain rfl := e26.symm
          have t26 := t25.stepN g26
          refine go_whenOr (et_is (et_test (ev_op (ev_lenLogV T ev_val L26) ev_c (rv_ne rfl))) (by rw [k0.ln]; decide +kernel)) ?_
          have hact : actR A20.logs (.strike "a" n) = .ok (mkL 8 (setN f20 0 (strikeL (f20 0) n))) .non := by
            show strikeR A20.logs (.strike "a" n) = _
            rw [strikeR_ok ga (k0.hasN hn1 (by omega)), hA20, ← nm_a, mkL_put (by omega) (by omega)]
          refine go_bind (C := fun te => tSeq (tIfS (tTest (tOp _ te _)) _ tNext) _) (ew_sayOk T (x := .strike "a" n) t26.WD (ev_var rfl) (ea_cons (ev_addS ev_c (ev_strI (ev_var rfl) (log2_small (by omega) (by omega))) ?_) ea_nil) t26.head (by omega) tl_strike (plain_strike na (by omega)) trivial hact (.inl rfl)) ?_
          · have := toString_short (n := n) (by omega) (by omega)
            rw [show Str.length "strike a " = 9 by decide +kernel]
            omega
          rintro _ H27 Hn27 g27 ⟨rfl, L27⟩
          have t27 := t26.stepD g27 L27
          refine go_whenF (et_is (et_test (ev_op ev_val ev_c (rv_ne rfl))) (by simp [toldT])) ?_
          have hpl27 : (doA A20 (mkL 8 (setN f20 0 (strikeL (f20 0) n))) (AtD.strike "a" n).d).past.length ≤ 132 := by
            show (A20.past ++ [_]).length ≤ _
            rw [List.length_append]
            show _ + 1 ≤ _
            omega
          have hA27 : (doA A20 (mkL 8 (setN f20 0 (strikeL (f20 0) n))) (AtD.strike "a" n).d).logs = mkL 8 (setN f20 0 (strikeL (f20 0) n)) := rfl
          generalize doA A20 (mkL 8 (setN f20 0 (strikeL (f20 0) n))) (AtD.strike "a" n).d = A27 at t27 hpl27 hA27
          have ga27 : getL A27.logs "a" = some (strikeL (f20 0) n) := by rw [hA27, ← nm_a]; exact mkL_get (by omega) (by omega)
          have hls := k0.strike hn1 (by omega)
          have hnx : (strikeL (f20 0) n).next = 201 := by
            show (f20 0).next = 201
            rw [k0.nx]
            rfl
          have hact28 : actR A27.logs (.tell "a" 0 0 0 0) = .ok (putL A27.logs "a" (addL (strikeL (f20 0) n) 0 0 0 0)) (.int (strikeL (f20 0) n).next) := tellR_ok ga27 (by
            unfold addE
            rw [show (strikeL (f20 0) n).clock = c from k0.cl, show (strikeL (f20 0) n).high = 9 from k0.hi, show (strikeL (f20 0) n).wide = 9 from k0.wi, if_pos (by omega), if_pos (by omega), if_pos (by omega), if_pos hls])
          refine go_bind (C := fun te => tSeq (tRet (tAndV (tOp _ te _) _)) _) (ew_sayOk T (x := .tell "a" 0 0 0 0) t27.WD (ev_var rfl) (ea_cons ev_c ea_nil) t27.head (by omega) (by decide +kernel) (plain_tell na (by omega) (by omega) (by omega) (by omega)) trivial hact28 (.inr ⟨_, rfl, log2_small (by omega) (by omega)⟩)) ?_
          rintro _ H28 Hn28 g28 ⟨rfl, L28⟩
          have t28 := t27.stepD g28 L28
          refine go_retAnd (ev_is (ev_op ev_val ev_c (rv_eq rfl)) (by rw [hnx]; exact congrArg V.bl (by decide +kernel))) ?_
          have hA28 : (doA A27 (putL A27.logs "a" (addL (strikeL (f20 0) n) 0 0 0 0)) (AtD.tell "a" 0 0 0 0).d).logs = mkL 8 (setN (setN f20 0 (strikeL (f20 0) n)) 0 (addL (strikeL (f20 0) n) 0 0 0 0)) := by
            show putL A27.logs "a" _ = _
            rw [hA27, ← nm_a]
            exact mkL_put (by omega) (by omega)
          have hpl28 : (doA A27 (putL A27.logs "a" (addL (strikeL (f20 0) n) 0 0 0 0)) (AtD.tell "a" 0 0 0 0).d).past.length ≤ 133 := by
            show (A27.past ++ [_]).length ≤ _
            rw [List.length_append]
            show _ + 1 ≤ _
            omega
          generalize doA A27 (putL A27.logs "a" (addL (strikeL (f20 0) n) 0 0 0 0)) (AtD.tell "a" 0 0 0 0).d = A28 at t28 hpl28 hA28
          generalize setN (setN f20 0 (strikeL (f20 0) n)) 0 (addL (strikeL (f20 0) n) 0 0 0 0) = f28 at hA28
          -- h is dropped, z begun
          have hdrop : actR A28.logs (.drop "h") = .ok (mkL 7 f28) .non := by
            show dropR A28.logs (.drop "h") = _
            rw [hA28, dropR_ok (l := f28 7) (by rw [← nm_h]; exact mkL_get (by omega) (by omega)), ← nm_h, mkL_drop (by omega)]
          refine go_bind (C := fun te => tSeq (tRet (tAndV (tOp _ te _) _)) _) (ew_sayOk T (x := .drop "h") t28.WD (ev_var rfl) (ea_cons ev_c ea_nil) t28.head (by omega) (by decide +kernel) (plain_drop (by decide +kernel)) trivial hdrop (.inl rfl)) ?_
          rintro _ H29 Hn29 g29 ⟨rfl, L29⟩
          have t29 := t28.stepD g29 L29
          refine go_retAnd (ev_is (ev_op ev_val ev_c (rv_eq rfl)) (by simp [toldT])) ?_
          have hpl29 : (doA A28 (mkL 7 f28) (AtD.drop "h").d).past.length ≤ 134 := by
            show (A28.past ++ [_]).length ≤ _
            rw [List.length_append]
            show _ + 1 ≤ _
            omega
          have hbeg : actR (doA A28 (mkL 7 f28) (AtD.drop "h").d).logs (.begin "z" 5 1 1) = .ok (putL (mkL 7 f28) "z" (newL 5 1 1)) .non := by
            show beginR (mkL 7 f28) (.begin "z" 5 1 1) = _
            exact beginR_ok nz (mkL_none fun k hk => out_z k (by omega)) (by decide) (by rw [mkL_len]; rfl)
          refine go_bind (C := fun te => tSeq (tRet (tOp _ te _)) _) (ew_sayOk T (x := .begin "z" 5 1 1) t29.WD (ev_var rfl) (ea_cons ev_c ea_nil) t29.head (by omega) (by decide +kernel) (plain_begin nz (by omega) (by omega) (by omega)) (by show Str.length _ ≤ 30000; decide +kernel) hbeg (.inl rfl)) ?_
          rintro _ H30 Hn30 g30 ⟨rfl, L30⟩
          exact go_retV (ev_is (ev_op ev_val ev_c (rv_eq rfl)) (show _ = V.bl true by simp [toldT])) fun H31 _ => q H31
end
theorem all_mk {l : PySem.W.OpenLaw} {w : World} {K : PySem.W.Frag} {h : Heap} {mg : Str → Option Value} {fa : Addr} (X : K.In h) (G : h.Ns mainGlobals mg) (hfa : mg "law" = some (.ref fa))
    {f0 : Addr} {od0 an0 : Option Addr} {sl0 : Array (Option Value)} {oc0 kV0 dc0 pm0 cd0 ct0 : Value}
    {f1 : Addr} {od1 an1 : Option Addr} {sl1 : Array (Option Value)} {oc1 kV1 dc1 pm1 cd1 ct1 : Value}
    {f2 : Addr} {od2 an2 : Option Addr} {sl2 : Array (Option Value)} {oc2 kV2 dc2 pm2 cd2 ct2 : Value}
    {f3 : Addr} {od3 an3 : Option Addr} {sl3 : Array (Option Value)} {oc3 kV3 dc3 pm3 cd3 ct3 : Value}
    {f4 : Addr} {od4 an4 : Option Addr} {sl4 : Array (Option Value)} {oc4 kV4 dc4 pm4 cd4 ct4 : Value}
    {f5 : Addr} {od5 an5 : Option Addr} {sl5 : Array (Option Value)} {oc5 kV5 dc5 pm5 cd5 ct5 : Value}
    {f6 : Addr} {od6 an6 : Option Addr} {sl6 : Array (Option Value)} {oc6 kV6 dc6 pm6 cd6 ct6 : Value}
    {f7 : Addr} {od7 an7 : Option Addr} {sl7 : Array (Option Value)} {oc7 kV7 dc7 pm7 cd7 ct7 : Value}
    {f8 : Addr} {od8 an8 : Option Addr} {sl8 : Array (Option Value)} {oc8 kV8 dc8 pm8 cd8 ct8 : Value}
    {f9 : Addr} {od9 an9 : Option Addr} {sl9 : Array (Option Value)} {oc9 kV9 dc9 pm9 cd9 ct9 : Value}
    {f10 : Addr} {od10 an10 : Option Addr} {sl10 : Array (Option Value)} {oc10 kV10 dc10 pm10 cd10 ct10 : Value}
    {f11 : Addr} {od11 an11 : Option Addr} {sl11 : Array (Option Value)} {oc11 kV11 dc11 pm11 cd11 ct11 : Value}
    {f12 : Addr} {od12 an12 : Option Addr} {sl12 : Array (Option Value)} {oc12 kV12 dc12 pm12 cd12 ct12 : Value}
    {f13 : Addr} {od13 an13 : Option Addr} {sl13 : Array (Option Value)} {oc13 kV13 dc13 pm13 cd13 ct13 : Value}
    {f14 : Addr} {od14 an14 : Option Addr} {sl14 : Array (Option Value)} {oc14 kV14 dc14 pm14 cd14 ct14 : Value}
    {f15 : Addr} {od15 an15 : Option Addr} {sl15 : Array (Option Value)} {oc15 kV15 dc15 pm15 cd15 ct15 : Value}
    {f16 : Addr} {od16 an16 : Option Addr} {sl16 : Array (Option Value)} {oc16 kV16 dc16 pm16 cd16 ct16 : Value}
    {f17 : Addr} {od17 an17 : Option Addr} {sl17 : Array (Option Value)} {oc17 kV17 dc17 pm17 cd17 ct17 : Value}
    {f18 : Addr} {od18 an18 : Option Addr} {sl18 : Array (Option Value)} {oc18 kV18 dc18 pm18 cd18 ct18 : Value}
    {f19 : Addr} {od19 an19 : Option Addr} {sl19 : Array (Option Value)} {oc19 kV19 dc19 pm19 cd19 ct19 : Value}
    {f20 : Addr} {od20 an20 : Option Addr} {sl20 : Array (Option Value)} {oc20 kV20 dc20 pm20 cd20 ct20 : Value}
    {f21 : Addr} {od21 an21 : Option Addr} {sl21 : Array (Option Value)} {oc21 kV21 dc21 pm21 cd21 ct21 : Value}
    {f22 : Addr} {od22 an22 : Option Addr} {sl22 : Array (Option Value)} {oc22 kV22 dc22 pm22 cd22 ct22 : Value}
    {f23 : Addr} {od23 an23 : Option Addr} {sl23 : Array (Option Value)} {oc23 kV23 dc23 pm23 cd23 ct23 : Value}
    {f24 : Addr} {od24 an24 : Option Addr} {sl24 : Array (Option Value)} {oc24 kV24 dc24 pm24 cd24 ct24 : Value}
    {f25 : Addr} {od25 an25 : Option Addr} {sl25 : Array (Option Value)} {oc25 kV25 dc25 pm25 cd25 ct25 : Value}
    {f26 : Addr} {od26 an26 : Option Addr} {sl26 : Array (Option Value)} {oc26 kV26 dc26 pm26 cd26 ct26 : Value}
    {f27 : Addr} {od27 an27 : Option Addr} {sl27 : Array (Option Value)} {oc27 kV27 dc27 pm27 cd27 ct27 : Value}
    {f28 : Addr} {od28 an28 : Option Addr} {sl28 : Array (Option Value)} {oc28 kV28 dc28 pm28 cd28 ct28 : Value}
    {f29 : Addr} {od29 an29 : Option Addr} {sl29 : Array (Option Value)} {oc29 kV29 dc29 pm29 cd29 ct29 : Value}
    {f30 : Addr} {od30 an30 : Option Addr} {sl30 : Array (Option Value)} {oc30 kV30 dc30 pm30 cd30 ct30 : Value}
    {f31 : Addr} {od31 an31 : Option Addr} {sl31 : Array (Option Value)} {oc31 kV31 dc31 pm31 cd31 ct31 : Value}
    {f32 : Addr} {od32 an32 : Option Addr} {sl32 : Array (Option Value)} {oc32 kV32 dc32 pm32 cd32 ct32 : Value}
    {f33 : Addr} {od33 an33 : Option Addr} {sl33 : Array (Option Value)} {oc33 kV33 dc33 pm33 cd33 ct33 : Value}
    {f34 : Addr} {od34 an34 : Option Addr} {sl34 : Array (Option Value)} {oc34 kV34 dc34 pm34 cd34 ct34 : Value}
    {T35 : Addr} {oT35 : Value} {pT35 : Option Addr} {nT35 : Nat} {sT35 : Array (Option Value)} {u35_0 : Tok}
    {f35 : Addr} {od35 an35 : Option Addr} {sl35 : Array (Option Value)} {oc35 kV35 dc35 pm35 cd35 ct35 : Value}
    {f36 : Addr} {od36 an36 : Option Addr} {sl36 : Array (Option Value)} {oc36 kV36 dc36 pm36 cd36 ct36 : Value}
    {f37 : Addr} {od37 an37 : Option Addr} {sl37 : Array (Option Value)} {oc37 kV37 dc37 pm37 cd37 ct37 : Value}
    {f38 : Addr} {od38 an38 : Option Addr} {sl38 : Array (Option Value)} {oc38 kV38 dc38 pm38 ct38 : Value}
    {cO0 PO0 : Addr}
    {T39 : Addr} {oT39 : Value} {pT39 : Option Addr} {nT39 : Nat} {sT39 : Array (Option Value)} {u39_0 : Tok}
    {f39 : Addr} {od39 an39 : Option Addr} {sl39 : Array (Option Value)} {oc39 kV39 dc39 pm39 cd39 ct39 : Value}
    {f40 : Addr} {od40 an40 : Option Addr} {sl40 : Array (Option Value)} {oc40 kV40 dc40 pm40 cd40 ct40 : Value}
    {f41 : Addr} {od41 an41 : Option Addr} {sl41 : Array (Option Value)} {oc41 kV41 dc41 pm41 cd41 ct41 : Value}
    {f42 : Addr} {od42 an42 : Option Addr} {sl42 : Array (Option Value)} {oc42 kV42 dc42 pm42 cd42 ct42 : Value}
    {f43 : Addr} {od43 an43 : Option Addr} {sl43 : Array (Option Value)} {oc43 kV43 dc43 pm43 cd43 ct43 : Value}
    {f44 : Addr} {od44 an44 : Option Addr} {sl44 : Array (Option Value)} {oc44 kV44 dc44 pm44 cd44 ct44 : Value}
    {f45 : Addr} {od45 an45 : Option Addr} {sl45 : Array (Option Value)} {oc45 kV45 dc45 pm45 cd45 ct45 : Value}
    {f46 : Addr} {od46 an46 : Option Addr} {sl46 : Array (Option Value)} {oc46 kV46 dc46 pm46 cd46 ct46 : Value}
    {f47 : Addr} {od47 an47 : Option Addr} {sl47 : Array (Option Value)} {oc47 kV47 dc47 pm47 cd47 ct47 : Value}
    {t0 : Tok}
    {t1 : Tok}
    {t2 : Tok}
    {t3 : Tok}
    {t4 : Tok}
    {O5 : Addr} {pO5 : Option Addr} {nO5 : Nat} {sO5 : Array (Option Value)} {v5_0 : Tok} {v5_1 : Tok}
    {t6 : Tok}
    {t7 : Tok}
    {t8 : Tok}
    {t9 : Tok}
    {t10 : Tok}
    {t11 : Tok}
    {t12 : Tok}
    {t13 : Tok}
    {t14 : Tok}
    {t15 : Tok}
    {t16 : Tok}
    {t17 : Tok}
    {OD0 : Addr} {nD0 : Nat} {hD0_0 : Int} {kD0_0 : Tok} {hD0_1 : Int} {kD0_1 : Tok} {hD0_2 : Int} {kD0_2 : Tok} {hD0_3 : Int} {kD0_3 : Tok} {hD0_4 : Int} {kD0_4 : Tok} {hD0_5 : Int} {kD0_5 : Tok}
    {tD0_0 : Addr} {pD0_0 : Option Addr} {nD0_0 : Nat} {sD0_0 : Array (Option Value)} {vD0_0_0 : Tok} {vD0_0_1 : Tok} {vD0_0_2 : Tok} {vD0_0_3 : Tok}
    {tD0_1 : Addr} {pD0_1 : Option Addr} {nD0_1 : Nat} {sD0_1 : Array (Option Value)} {vD0_1_0 : Tok} {vD0_1_1 : Tok} {vD0_1_2 : Tok} {vD0_1_3 : Tok} {vD0_1_4 : Tok}
    {tD0_2 : Addr} {pD0_2 : Option Addr} {nD0_2 : Nat} {sD0_2 : Array (Option Value)} {vD0_2_0 : Tok} {vD0_2_1 : Tok} {vD0_2_2 : Tok}
    {tD0_3 : Addr} {pD0_3 : Option Addr} {nD0_3 : Nat} {sD0_3 : Array (Option Value)} {vD0_3_0 : Tok} {vD0_3_1 : Tok}
    {tD0_4 : Addr} {pD0_4 : Option Addr} {nD0_4 : Nat} {sD0_4 : Array (Option Value)} {vD0_4_0 : Tok}
    {tD0_5 : Addr} {pD0_5 : Option Addr} {nD0_5 : Nat} {sD0_5 : Array (Option Value)} {vD0_5_0 : Tok} {vD0_5_1 : Tok} {vD0_5_2 : Tok} {vD0_5_3 : Tok} {vD0_5_4 : Tok}
    {OD1 : Addr} {nD1 : Nat} {hD1_0 : Int} {kD1_0 : Tok} {hD1_1 : Int} {kD1_1 : Tok} {hD1_2 : Int} {kD1_2 : Tok} {hD1_3 : Int} {kD1_3 : Tok} {hD1_4 : Int} {kD1_4 : Tok} {hD1_5 : Int} {kD1_5 : Tok}
    {OD2 : Addr} {nD2 : Nat} {hD2_0 : Int} {kD2_0 : Tok} {hD2_1 : Int} {kD2_1 : Tok} {hD2_2 : Int} {kD2_2 : Tok} {hD2_3 : Int} {kD2_3 : Tok} {hD2_4 : Int} {kD2_4 : Tok} {hD2_5 : Int} {kD2_5 : Tok} {hD2_6 : Int} {kD2_6 : Tok} {hD2_7 : Int} {kD2_7 : Tok} {hD2_8 : Int} {kD2_8 : Tok} {hD2_9 : Int} {kD2_9 : Tok} {hD2_10 : Int} {kD2_10 : Tok} {hD2_11 : Int} {kD2_11 : Tok}
    {tD2_0 : Addr} {pD2_0 : Option Addr} {nD2_0 : Nat} {sD2_0 : Array (Option Value)} 
    {tD2_1 : Addr} {pD2_1 : Option Addr} {nD2_1 : Nat} {sD2_1 : Array (Option Value)} 
    {tD2_2 : Addr} {pD2_2 : Option Addr} {nD2_2 : Nat} {sD2_2 : Array (Option Value)} 
    {tD2_3 : Addr} {pD2_3 : Option Addr} {nD2_3 : Nat} {sD2_3 : Array (Option Value)} 
    {tD2_4 : Addr} {pD2_4 : Option Addr} {nD2_4 : Nat} {sD2_4 : Array (Option Value)} {vD2_4_0 : Tok}
    {tD2_5 : Addr} {pD2_5 : Option Addr} {nD2_5 : Nat} {sD2_5 : Array (Option Value)} {vD2_5_0 : Tok} {vD2_5_1 : Tok}
    {tD2_6 : Addr} {pD2_6 : Option Addr} {nD2_6 : Nat} {sD2_6 : Array (Option Value)} {vD2_6_0 : Tok} {vD2_6_1 : Tok}
    {tD2_7 : Addr} {pD2_7 : Option Addr} {nD2_7 : Nat} {sD2_7 : Array (Option Value)} {vD2_7_0 : Tok} {vD2_7_1 : Tok}
    {tD2_8 : Addr} {pD2_8 : Option Addr} {nD2_8 : Nat} {sD2_8 : Array (Option Value)} {vD2_8_0 : Tok} {vD2_8_1 : Tok}
    {tD2_9 : Addr} {pD2_9 : Option Addr} {nD2_9 : Nat} {sD2_9 : Array (Option Value)} {vD2_9_0 : Tok} {vD2_9_1 : Tok}
    {tD2_10 : Addr} {pD2_10 : Option Addr} {nD2_10 : Nat} {sD2_10 : Array (Option Value)} {vD2_10_0 : Tok} {vD2_10_1 : Tok}
    {tD2_11 : Addr} {pD2_11 : Option Addr} {nD2_11 : Nat} {sD2_11 : Array (Option Value)} {vD2_11_0 : Tok} {vD2_11_1 : Tok} {vD2_11_2 : Tok} {vD2_11_3 : Tok}
    {C0 : Addr}
    {C1 : Addr}
    {C2 : Addr}
    {C3 : Addr}
    {C4 : Addr}
    {C5 : Addr}
    {C6 : Addr}
    {C7 : Addr}
    {C8 : Addr}
    {C9 : Addr}
    {C10 : Addr}
    {C11 : Addr}
    {C12 : Addr}
    {C13 : Addr}
    {C14 : Addr}
    {C15 : Addr}
    {C16 : Addr}
    {C17 : Addr}
    {C18 : Addr}
    {C19 : Addr}
    {If15 : Addr} {Iod15 Ian15 : Option Addr} {Isl15 : Array (Option Value)} {Ioc15 IkV15 Idc15 Ipm15 Icd15 Ict15 : Value}
    {Jn15 Jq15 : Str} {JN15 : Addr} {Jb15 JB15 : List Value} {Js15 : List Str} {Ju15 : List Value} {Ja15 : Bool} {Jc15 : Option Bool} {Jd15 : Option Addr} {J015 J115 J215 J315 J515 : Option Value}
    {If16 : Addr} {Iod16 Ian16 : Option Addr} {Isl16 : Array (Option Value)} {Ioc16 IkV16 Idc16 Ipm16 Icd16 Ict16 : Value}
    {Jn16 Jq16 : Str} {JN16 : Addr} {Jb16 : List Value} {Js16 : List Str} {Ju16 : List Value} {Ja16 : Bool} {Jc16 : Option Bool} {Jd16 : Option Addr} {J016 J116 J216 J316 J516 : Option Value}
    (a0 : PySem.W.nsIn K mainGlobals "is_clock" = some (some (.ref f0))) (l0 : K.lookup f0 = some ⟨oc0, od0, .func (PySem.W.fnOf "is_clock" "is_clock" (defArgs s_is_clock) (defBody s_is_clock) (defScope s_is_clock) .none kV0 dc0 pm0 an0 cd0 ct0), sl0⟩) (c0 : PySem.W.codeIn K cd0 "is_clock" = true) (k0 : PySem.W.keepIn K (.ref f0) = true)
    (a1 : PySem.W.nsIn K mainGlobals "need_clock" = some (some (.ref f1))) (l1 : K.lookup f1 = some ⟨oc1, od1, .func (PySem.W.fnOf "need_clock" "need_clock" (defArgs s_need_clock) (defBody s_need_clock) (defScope s_need_clock) .none kV1 dc1 pm1 an1 cd1 ct1), sl1⟩) (c1 : PySem.W.codeIn K cd1 "need_clock" = true) (k1 : PySem.W.keepIn K (.ref f1) = true)
    (a2 : PySem.W.nsIn K mainGlobals "is_what" = some (some (.ref f2))) (l2 : K.lookup f2 = some ⟨oc2, od2, .func (PySem.W.fnOf "is_what" "is_what" (defArgs s_is_what) (defBody s_is_what) (defScope s_is_what) .none kV2 dc2 pm2 an2 cd2 ct2), sl2⟩) (c2 : PySem.W.codeIn K cd2 "is_what" = true) (k2 : PySem.W.keepIn K (.ref f2) = true)
    (a3 : PySem.W.nsIn K mainGlobals "is_row" = some (some (.ref f3))) (l3 : K.lookup f3 = some ⟨oc3, od3, .func (PySem.W.fnOf "is_row" "is_row" (defArgs s_is_row) (defBody s_is_row) (defScope s_is_row) .none kV3 dc3 pm3 an3 cd3 ct3), sl3⟩) (c3 : PySem.W.codeIn K cd3 "is_row" = true) (k3 : PySem.W.keepIn K (.ref f3) = true)
    (a4 : PySem.W.nsIn K mainGlobals "is_chart" = some (some (.ref f4))) (l4 : K.lookup f4 = some ⟨oc4, od4, .func (PySem.W.fnOf "is_chart" "is_chart" (defArgs s_is_chart) (defBody s_is_chart) (defScope s_is_chart) .none kV4 dc4 pm4 an4 cd4 ct4), sl4⟩) (c4 : PySem.W.codeIn K cd4 "is_chart" = true) (k4 : PySem.W.keepIn K (.ref f4) = true)
    (a5 : PySem.W.nsIn K mainGlobals "need_chart" = some (some (.ref f5))) (l5 : K.lookup f5 = some ⟨oc5, od5, .func (PySem.W.fnOf "need_chart" "need_chart" (defArgs s_need_chart) (defBody s_need_chart) (defScope s_need_chart) .none kV5 dc5 pm5 an5 cd5 ct5), sl5⟩) (c5 : PySem.W.codeIn K cd5 "need_chart" = true) (k5 : PySem.W.keepIn K (.ref f5) = true)
    (a6 : PySem.W.nsIn K mainGlobals "size" = some (some (.ref f6))) (l6 : K.lookup f6 = some ⟨oc6, od6, .func (PySem.W.fnOf "size" "size" (defArgs s_size) (defBody s_size) (defScope s_size) .none kV6 dc6 pm6 an6 cd6 ct6), sl6⟩) (c6 : PySem.W.codeIn K cd6 "size" = true) (k6 : PySem.W.keepIn K (.ref f6) = true)
    (a7 : PySem.W.nsIn K mainGlobals "need_within" = some (some (.ref f7))) (l7 : K.lookup f7 = some ⟨oc7, od7, .func (PySem.W.fnOf "need_within" "need_within" (defArgs s_need_within) (defBody s_need_within) (defScope s_need_within) .none kV7 dc7 pm7 an7 cd7 ct7), sl7⟩) (c7 : PySem.W.codeIn K cd7 "need_within" = true) (k7 : PySem.W.keepIn K (.ref f7) = true)
    (a8 : PySem.W.nsIn K mainGlobals "need_fit" = some (some (.ref f8))) (l8 : K.lookup f8 = some ⟨oc8, od8, .func (PySem.W.fnOf "need_fit" "need_fit" (defArgs s_need_fit) (defBody s_need_fit) (defScope s_need_fit) .none kV8 dc8 pm8 an8 cd8 ct8), sl8⟩) (c8 : PySem.W.codeIn K cd8 "need_fit" = true) (k8 : PySem.W.keepIn K (.ref f8) = true)
    (a9 : PySem.W.nsIn K mainGlobals "is_name" = some (some (.ref f9))) (l9 : K.lookup f9 = some ⟨oc9, od9, .func (PySem.W.fnOf "is_name" "is_name" (defArgs s_is_name) (defBody s_is_name) (defScope s_is_name) .none kV9 dc9 pm9 an9 cd9 ct9), sl9⟩) (c9 : PySem.W.codeIn K cd9 "is_name" = true) (k9 : PySem.W.keepIn K (.ref f9) = true)
    (a10 : PySem.W.nsIn K mainGlobals "read_number" = some (some (.ref f10))) (l10 : K.lookup f10 = some ⟨oc10, od10, .func (PySem.W.fnOf "read_number" "read_number" (defArgs s_read_number) (defBody s_read_number) (defScope s_read_number) .none kV10 dc10 pm10 an10 cd10 ct10), sl10⟩) (c10 : PySem.W.codeIn K cd10 "read_number" = true) (k10 : PySem.W.keepIn K (.ref f10) = true)
    (a11 : PySem.W.nsIn K mainGlobals "read_what" = some (some (.ref f11))) (l11 : K.lookup f11 = some ⟨oc11, od11, .func (PySem.W.fnOf "read_what" "read_what" (defArgs s_read_what) (defBody s_read_what) (defScope s_read_what) .none kV11 dc11 pm11 an11 cd11 ct11), sl11⟩) (c11 : PySem.W.codeIn K cd11 "read_what" = true) (k11 : PySem.W.keepIn K (.ref f11) = true)
    (a12 : PySem.W.nsIn K mainGlobals "read_thing" = some (some (.ref f12))) (l12 : K.lookup f12 = some ⟨oc12, od12, .func (PySem.W.fnOf "read_thing" "read_thing" (defArgs s_read_thing) (defBody s_read_thing) (defScope s_read_thing) .none kV12 dc12 pm12 an12 cd12 ct12), sl12⟩) (c12 : PySem.W.codeIn K cd12 "read_thing" = true) (k12 : PySem.W.keepIn K (.ref f12) = true)
    (a13 : PySem.W.nsIn K mainGlobals "read_things" = some (some (.ref f13))) (l13 : K.lookup f13 = some ⟨oc13, od13, .func (PySem.W.fnOf "read_things" "read_things" (defArgs s_read_things) (defBody s_read_things) (defScope s_read_things) .none kV13 dc13 pm13 an13 cd13 ct13), sl13⟩) (c13 : PySem.W.codeIn K cd13 "read_things" = true) (k13 : PySem.W.keepIn K (.ref f13) = true)
    (a14 : PySem.W.nsIn K mainGlobals "need_day" = some (some (.ref f14))) (l14 : K.lookup f14 = some ⟨oc14, od14, .func (PySem.W.fnOf "need_day" "need_day" (defArgs s_need_day) (defBody s_need_day) (defScope s_need_day) .none kV14 dc14 pm14 an14 cd14 ct14), sl14⟩) (c14 : PySem.W.codeIn K cd14 "need_day" = true) (k14 : PySem.W.keepIn K (.ref f14) = true)
    (a15 : PySem.W.nsIn K mainGlobals "need_what" = some (some (.ref f15))) (l15 : K.lookup f15 = some ⟨oc15, od15, .func (PySem.W.fnOf "need_what" "need_what" (defArgs s_need_what) (defBody s_need_what) (defScope s_need_what) .none kV15 dc15 pm15 an15 cd15 ct15), sl15⟩) (c15 : PySem.W.codeIn K cd15 "need_what" = true) (k15 : PySem.W.keepIn K (.ref f15) = true)
    (a16 : PySem.W.nsIn K mainGlobals "log_of" = some (some (.ref f16))) (l16 : K.lookup f16 = some ⟨oc16, od16, .func (PySem.W.fnOf "log_of" "log_of" (defArgs s_log_of) (defBody s_log_of) (defScope s_log_of) .none kV16 dc16 pm16 an16 cd16 ct16), sl16⟩) (c16 : PySem.W.codeIn K cd16 "log_of" = true) (k16 : PySem.W.keepIn K (.ref f16) = true)
    (a17 : PySem.W.nsIn K mainGlobals "begin_chart" = some (some (.ref f17))) (l17 : K.lookup f17 = some ⟨oc17, od17, .func (PySem.W.fnOf "begin_chart" "begin_chart" (defArgs s_begin_chart) (defBody s_begin_chart) (defScope s_begin_chart) .none kV17 dc17 pm17 an17 cd17 ct17), sl17⟩) (c17 : PySem.W.codeIn K cd17 "begin_chart" = true) (k17 : PySem.W.keepIn K (.ref f17) = true)
    (a18 : PySem.W.nsIn K mainGlobals "tell_square" = some (some (.ref f18))) (l18 : K.lookup f18 = some ⟨oc18, od18, .func (PySem.W.fnOf "tell_square" "tell_square" (defArgs s_tell_square) (defBody s_tell_square) (defScope s_tell_square) .none kV18 dc18 pm18 an18 cd18 ct18), sl18⟩) (c18 : PySem.W.codeIn K cd18 "tell_square" = true) (k18 : PySem.W.keepIn K (.ref f18) = true)
    (a19 : PySem.W.nsIn K mainGlobals "right_entry" = some (some (.ref f19))) (l19 : K.lookup f19 = some ⟨oc19, od19, .func (PySem.W.fnOf "right_entry" "right_entry" (defArgs s_right_entry) (defBody s_right_entry) (defScope s_right_entry) .none kV19 dc19 pm19 an19 cd19 ct19), sl19⟩) (c19 : PySem.W.codeIn K cd19 "right_entry" = true) (k19 : PySem.W.keepIn K (.ref f19) = true)
    (a20 : PySem.W.nsIn K mainGlobals "strike_entry" = some (some (.ref f20))) (l20 : K.lookup f20 = some ⟨oc20, od20, .func (PySem.W.fnOf "strike_entry" "strike_entry" (defArgs s_strike_entry) (defBody s_strike_entry) (defScope s_strike_entry) .none kV20 dc20 pm20 an20 cd20 ct20), sl20⟩) (c20 : PySem.W.codeIn K cd20 "strike_entry" = true) (k20 : PySem.W.keepIn K (.ref f20) = true)
    (a21 : PySem.W.nsIn K mainGlobals "drop_chart" = some (some (.ref f21))) (l21 : K.lookup f21 = some ⟨oc21, od21, .func (PySem.W.fnOf "drop_chart" "drop_chart" (defArgs s_drop_chart) (defBody s_drop_chart) (defScope s_drop_chart) .none kV21 dc21 pm21 an21 cd21 ct21), sl21⟩) (c21 : PySem.W.codeIn K cd21 "drop_chart" = true) (k21 : PySem.W.keepIn K (.ref f21) = true)
    (a22 : PySem.W.nsIn K mainGlobals "lay_chart" = some (some (.ref f22))) (l22 : K.lookup f22 = some ⟨oc22, od22, .func (PySem.W.fnOf "lay_chart" "lay_chart" (defArgs s_lay_chart) (defBody s_lay_chart) (defScope s_lay_chart) .none kV22 dc22 pm22 an22 cd22 ct22), sl22⟩) (c22 : PySem.W.codeIn K cd22 "lay_chart" = true) (k22 : PySem.W.keepIn K (.ref f22) = true)
    (a23 : PySem.W.nsIn K mainGlobals "need_deed" = some (some (.ref f23))) (l23 : K.lookup f23 = some ⟨oc23, od23, .func (PySem.W.fnOf "need_deed" "need_deed" (defArgs s_need_deed) (defBody s_need_deed) (defScope s_need_deed) .none kV23 dc23 pm23 an23 cd23 ct23), sl23⟩) (c23 : PySem.W.codeIn K cd23 "need_deed" = true) (k23 : PySem.W.keepIn K (.ref f23) = true)
    (a24 : PySem.W.nsIn K mainGlobals "read_deed" = some (some (.ref f24))) (l24 : K.lookup f24 = some ⟨oc24, od24, .func (PySem.W.fnOf "read_deed" "read_deed" (defArgs s_read_deed) (defBody s_read_deed) (defScope s_read_deed) .none kV24 dc24 pm24 an24 cd24 ct24), sl24⟩) (c24 : PySem.W.codeIn K cd24 "read_deed" = true) (k24 : PySem.W.keepIn K (.ref f24) = true)
    (a25 : PySem.W.nsIn K mainGlobals "answer_deed" = some (some (.ref f25))) (l25 : K.lookup f25 = some ⟨oc25, od25, .func (PySem.W.fnOf "answer_deed" "answer_deed" (defArgs s_answer_deed) (defBody s_answer_deed) (defScope s_answer_deed) .none kV25 dc25 pm25 an25 cd25 ct25), sl25⟩) (c25 : PySem.W.codeIn K cd25 "answer_deed" = true) (k25 : PySem.W.keepIn K (.ref f25) = true)
    (a26 : PySem.W.nsIn K mainGlobals "answer" = some (some (.ref f26))) (l26 : K.lookup f26 = some ⟨oc26, od26, .func (PySem.W.fnOf "answer" "answer" (defArgs s_answer) (defBody s_answer) (defScope s_answer) .none kV26 dc26 pm26 an26 cd26 ct26), sl26⟩) (c26 : PySem.W.codeIn K cd26 "answer" = true) (k26 : PySem.W.keepIn K (.ref f26) = true)
    (a27 : PySem.W.nsIn K mainGlobals "_law_box" = some (some (.ref f27))) (l27 : K.lookup f27 = some ⟨oc27, od27, .func (PySem.W.fnOf "_law_box" "_law_box" (defArgs s_law_box) (defBody s_law_box) (defScope s_law_box) .none kV27 dc27 pm27 an27 cd27 ct27), sl27⟩) (c27 : PySem.W.codeIn K cd27 "_law_box" = true) (k27 : PySem.W.keepIn K (.ref f27) = true)
    (a28 : PySem.W.nsIn K mainGlobals "_law_mixed" = some (some (.ref f28))) (l28 : K.lookup f28 = some ⟨oc28, od28, .func (PySem.W.fnOf "_law_mixed" "_law_mixed" (defArgs s_law_mixed) (defBody s_law_mixed) (defScope s_law_mixed) .none kV28 dc28 pm28 an28 cd28 ct28), sl28⟩) (c28 : PySem.W.codeIn K cd28 "_law_mixed" = true) (k28 : PySem.W.keepIn K (.ref f28) = true)
    (a29 : PySem.W.nsIn K mainGlobals "_law_take" = some (some (.ref f29))) (l29 : K.lookup f29 = some ⟨oc29, od29, .func (PySem.W.fnOf "_law_take" "_law_take" (defArgs s_law_take) (defBody s_law_take) (defScope s_law_take) .none kV29 dc29 pm29 an29 cd29 ct29), sl29⟩) (c29 : PySem.W.codeIn K cd29 "_law_take" = true) (k29 : PySem.W.keepIn K (.ref f29) = true)
    (a30 : PySem.W.nsIn K mainGlobals "_law_clock" = some (some (.ref f30))) (l30 : K.lookup f30 = some ⟨oc30, od30, .func (PySem.W.fnOf "_law_clock" "_law_clock" (defArgs s_law_clock) (defBody s_law_clock) (defScope s_law_clock) .none kV30 dc30 pm30 an30 cd30 ct30), sl30⟩) (c30 : PySem.W.codeIn K cd30 "_law_clock" = true) (k30 : PySem.W.keepIn K (.ref f30) = true)
    (a31 : PySem.W.nsIn K mainGlobals "law" = some (some (.ref f31))) (l31 : K.lookup f31 = some ⟨oc31, od31, .func (PySem.W.fnOf "law" "law" (defArgs s_law) (defBody s_law) (defScope s_law) .none kV31 dc31 pm31 an31 cd31 ct31), sl31⟩) (c31 : PySem.W.codeIn K cd31 "law" = true) (k31 : PySem.W.keepIn K (.ref f31) = true)
    (a32 : PySem.W.findIn K (.ref C17) "__init__" = some (some (.ref f32))) (i32 : PySem.W.isFn K (.ref f32) = true) (l32 : K.lookup f32 = some ⟨oc32, od32, .func (PySem.W.fnOf "__init__" "Log.__init__" (defArgs s_Log_init) (defBody s_Log_init) (defScope s_Log_init) .none kV32 dc32 pm32 an32 cd32 ct32), sl32⟩) (c32 : PySem.W.codeIn K cd32 "Log.__init__" = true) (k32 : PySem.W.keepIn K (.ref f32) = true)
    (a33 : PySem.W.findIn K (.ref C17) "__len__" = some (some (.ref f33))) (i33 : PySem.W.isFn K (.ref f33) = true) (l33 : K.lookup f33 = some ⟨oc33, od33, .func (PySem.W.fnOf "__len__" "Log.__len__" (defArgs s_Log_len) (defBody s_Log_len) (defScope s_Log_len) .none kV33 dc33 pm33 an33 cd33 ct33), sl33⟩) (c33 : PySem.W.codeIn K cd33 "Log.__len__" = true) (k33 : PySem.W.keepIn K (.ref f33) = true)
    (a34 : PySem.W.findIn K (.ref C17) "need_entry" = some (some (.ref f34))) (i34 : PySem.W.isFn K (.ref f34) = true) (l34 : K.lookup f34 = some ⟨oc34, od34, .func (PySem.W.fnOf "need_entry" "Log.need_entry" (defArgs s_Log_need_entry) (defBody s_Log_need_entry) (defScope s_Log_need_entry) .none kV34 dc34 pm34 an34 cd34 ct34), sl34⟩) (c34 : PySem.W.codeIn K cd34 "Log.need_entry" = true) (k34 : PySem.W.keepIn K (.ref f34) = true)
    (a35 : PySem.W.findIn K (.ref C17) "add" = some (some (.ref f35))) (i35 : PySem.W.isFn K (.ref f35) = true) (l35 : K.lookup f35 = some ⟨oc35, od35, .func (PySem.W.fnOf "add" "Log.add" (defArgs s_Log_add) (defBody s_Log_add) (defScope s_Log_add) (.ref T35) kV35 dc35 pm35 an35 cd35 ct35), sl35⟩) (c35 : PySem.W.codeIn K cd35 "Log.add" = true) (k35 : PySem.W.keepIn K (.ref f35) = true)
    (dt35 : K.lookup T35 = some ⟨oT35, pT35, .seq #[.int (0) u35_0] nT35, sT35⟩)
    (a36 : PySem.W.findIn K (.ref C17) "right" = some (some (.ref f36))) (i36 : PySem.W.isFn K (.ref f36) = true) (l36 : K.lookup f36 = some ⟨oc36, od36, .func (PySem.W.fnOf "right" "Log.right" (defArgs s_Log_right) (defBody s_Log_right) (defScope s_Log_right) .none kV36 dc36 pm36 an36 cd36 ct36), sl36⟩) (c36 : PySem.W.codeIn K cd36 "Log.right" = true) (k36 : PySem.W.keepIn K (.ref f36) = true)
    (a37 : PySem.W.findIn K (.ref C17) "strike" = some (some (.ref f37))) (i37 : PySem.W.isFn K (.ref f37) = true) (l37 : K.lookup f37 = some ⟨oc37, od37, .func (PySem.W.fnOf "strike" "Log.strike" (defArgs s_Log_strike) (defBody s_Log_strike) (defScope s_Log_strike) .none kV37 dc37 pm37 an37 cd37 ct37), sl37⟩) (c37 : PySem.W.codeIn K cd37 "Log.strike" = true) (k37 : PySem.W.keepIn K (.ref f37) = true)
    (a38 : PySem.W.findIn K (.ref C17) "entries" = some (some (.ref f38))) (i38 : PySem.W.isFn K (.ref f38) = true) (l38 : K.lookup f38 = some ⟨oc38, od38, .func (PySem.W.fnOf "entries" "Log.entries" (defArgs s_Log_entries) (defBody s_Log_entries) (defScope s_Log_entries) .none kV38 dc38 pm38 an38 (.ref cO0) ct38), sl38⟩) (c38 : PySem.W.codeIn K (.ref cO0) "Log.entries" = true) (k38 : PySem.W.keepIn K (.ref f38) = true)
    (a39 : PySem.W.findIn K (.ref C17) "chart" = some (some (.ref f39))) (i39 : PySem.W.isFn K (.ref f39) = true) (l39 : K.lookup f39 = some ⟨oc39, od39, .func (PySem.W.fnOf "chart" "Log.chart" (defArgs s_Log_chart) (defBody s_Log_chart) (defScope s_Log_chart) (.ref T39) kV39 dc39 pm39 an39 cd39 ct39), sl39⟩) (c39 : PySem.W.codeIn K cd39 "Log.chart" = true) (k39 : PySem.W.keepIn K (.ref f39) = true)
    (dt39 : K.lookup T39 = some ⟨oT39, pT39, .seq #[.int (999) u39_0] nT39, sT39⟩)
    (a40 : PySem.W.findIn K (.ref C17) "twin" = some (some (.ref f40))) (i40 : PySem.W.isFn K (.ref f40) = true) (l40 : K.lookup f40 = some ⟨oc40, od40, .func (PySem.W.fnOf "twin" "Log.twin" (defArgs s_Log_twin) (defBody s_Log_twin) (defScope s_Log_twin) .none kV40 dc40 pm40 an40 cd40 ct40), sl40⟩) (c40 : PySem.W.codeIn K cd40 "Log.twin" = true) (k40 : PySem.W.keepIn K (.ref f40) = true)
    (a41 : PySem.W.findIn K (.ref C18) "__init__" = some (some (.ref f41))) (i41 : PySem.W.isFn K (.ref f41) = true) (l41 : K.lookup f41 = some ⟨oc41, od41, .func (PySem.W.fnOf "__init__" "Atlas.__init__" (defArgs s_Atlas_init) (defBody s_Atlas_init) (defScope s_Atlas_init) .none kV41 dc41 pm41 an41 cd41 ct41), sl41⟩) (c41 : PySem.W.codeIn K cd41 "Atlas.__init__" = true) (k41 : PySem.W.keepIn K (.ref f41) = true)
    (a42 : PySem.W.findIn K (.ref C18) "do" = some (some (.ref f42))) (i42 : PySem.W.isFn K (.ref f42) = true) (l42 : K.lookup f42 = some ⟨oc42, od42, .func (PySem.W.fnOf "do" "Atlas.do" (defArgs s_Atlas_do) (defBody s_Atlas_do) (defScope s_Atlas_do) .none kV42 dc42 pm42 an42 cd42 ct42), sl42⟩) (c42 : PySem.W.codeIn K cd42 "Atlas.do" = true) (k42 : PySem.W.keepIn K (.ref f42) = true)
    (a43 : PySem.W.findIn K (.ref C18) "twin" = some (some (.ref f43))) (i43 : PySem.W.isFn K (.ref f43) = true) (l43 : K.lookup f43 = some ⟨oc43, od43, .func (PySem.W.fnOf "twin" "Atlas.twin" (defArgs s_Atlas_twin) (defBody s_Atlas_twin) (defScope s_Atlas_twin) .none kV43 dc43 pm43 an43 cd43 ct43), sl43⟩) (c43 : PySem.W.codeIn K cd43 "Atlas.twin" = true) (k43 : PySem.W.keepIn K (.ref f43) = true)
    (a44 : PySem.W.findIn K (.ref C18) "log" = some (some (.ref f44))) (i44 : PySem.W.isFn K (.ref f44) = true) (l44 : K.lookup f44 = some ⟨oc44, od44, .func (PySem.W.fnOf "log" "Atlas.log" (defArgs s_Atlas_log) (defBody s_Atlas_log) (defScope s_Atlas_log) .none kV44 dc44 pm44 an44 cd44 ct44), sl44⟩) (c44 : PySem.W.codeIn K cd44 "Atlas.log" = true) (k44 : PySem.W.keepIn K (.ref f44) = true)
    (a45 : PySem.W.findIn K (.ref C19) "__init__" = some (some (.ref f45))) (i45 : PySem.W.isFn K (.ref f45) = true) (l45 : K.lookup f45 = some ⟨oc45, od45, .func (PySem.W.fnOf "__init__" "Desk.__init__" (defArgs s_Desk_init) (defBody s_Desk_init) (defScope s_Desk_init) .none kV45 dc45 pm45 an45 cd45 ct45), sl45⟩) (c45 : PySem.W.codeIn K cd45 "Desk.__init__" = true) (k45 : PySem.W.keepIn K (.ref f45) = true)
    (a46 : PySem.W.findIn K (.ref C19) "atlas" = some (some (.ref f46))) (i46 : PySem.W.isFn K (.ref f46) = true) (l46 : K.lookup f46 = some ⟨oc46, od46, .func (PySem.W.fnOf "atlas" "Desk.atlas" (defArgs s_Desk_atlas) (defBody s_Desk_atlas) (defScope s_Desk_atlas) .none kV46 dc46 pm46 an46 cd46 ct46), sl46⟩) (c46 : PySem.W.codeIn K cd46 "Desk.atlas" = true) (k46 : PySem.W.keepIn K (.ref f46) = true)
    (a47 : PySem.W.findIn K (.ref C19) "say" = some (some (.ref f47))) (i47 : PySem.W.isFn K (.ref f47) = true) (l47 : K.lookup f47 = some ⟨oc47, od47, .func (PySem.W.fnOf "say" "Desk.say" (defArgs s_Desk_say) (defBody s_Desk_say) (defScope s_Desk_say) .none kV47 dc47 pm47 an47 cd47 ct47), sl47⟩) (c47 : PySem.W.codeIn K cd47 "Desk.say" = true) (k47 : PySem.W.keepIn K (.ref f47) = true)
    (pg17 : PySem.W.plainGet K C17 Str.empty = true) (hd17 : PySem.W.hasDictIn K C17 = true) (po17 : PySem.W.plainOver K C17 = true) (sa17 : PySem.W.findIn K (.ref C17) "__setattr__" = some (some (.builtin "object.__setattr__"))) (mk17 : PySem.W.makesIn K C17 = true)
    (na17_0 : PySem.W.findIn K (.ref C17) "clock" = some none)
    (na17_1 : PySem.W.findIn K (.ref C17) "high" = some none)
    (na17_2 : PySem.W.findIn K (.ref C17) "wide" = some none)
    (na17_3 : PySem.W.findIn K (.ref C17) "kept" = some none)
    (na17_4 : PySem.W.findIn K (.ref C17) "next_number" = some none)
    (pg18 : PySem.W.plainGet K C18 Str.empty = true) (hd18 : PySem.W.hasDictIn K C18 = true) (po18 : PySem.W.plainOver K C18 = true) (sa18 : PySem.W.findIn K (.ref C18) "__setattr__" = some (some (.builtin "object.__setattr__"))) (mk18 : PySem.W.makesIn K C18 = true)
    (na18_0 : PySem.W.findIn K (.ref C18) "logs" = some none)
    (na18_1 : PySem.W.findIn K (.ref C18) "past" = some none)
    (na18_2 : PySem.W.findIn K (.ref C18) "ahead" = some none)
    (pg19 : PySem.W.plainGet K C19 Str.empty = true) (hd19 : PySem.W.hasDictIn K C19 = true) (po19 : PySem.W.plainOver K C19 = true) (sa19 : PySem.W.findIn K (.ref C19) "__setattr__" = some (some (.builtin "object.__setattr__"))) (mk19 : PySem.W.makesIn K C19 = true)
    (na19_0 : PySem.W.findIn K (.ref C19) "held" = some none)
    (q0 : PySem.W.nsIn K mainGlobals "LEAST_HOURS" = some (some (.int (3) t0)))
    (q1 : PySem.W.nsIn K mainGlobals "MOST_HOURS" = some (some (.int (15) t1)))
    (q2 : PySem.W.nsIn K mainGlobals "MOST_SQUARES" = some (some (.int (9) t2)))
    (q3 : PySem.W.nsIn K mainGlobals "LAND" = some (some (.int (-1) t3)))
    (q4 : PySem.W.nsIn K mainGlobals "UNTOLD" = some (some (.int (-2) t4)))
    (q5 : PySem.W.nsIn K mainGlobals "OUTSIDE_eyes" = some (some (.ref O5))) (qo5 : K.lookup O5 = some ⟨.type "tuple", pO5, .seq #[.int (-1) v5_0, .int (-1) v5_1] nO5, sO5⟩)
    (q6 : PySem.W.nsIn K mainGlobals "OUTSIDE_breaks" = some (some (.int (-1) t6)))
    (q7 : PySem.W.nsIn K mainGlobals "LETTERS" = some (some (.str "abcdefghijklmnopqrstuvwxyz" t7)))
    (q8 : PySem.W.nsIn K mainGlobals "FIGURES" = some (some (.str "0123456789" t8)))
    (q9 : PySem.W.nsIn K mainGlobals "MOST_LETTERS" = some (some (.int (8) t9)))
    (q10 : PySem.W.nsIn K mainGlobals "MOST_FIGURES" = some (some (.int (6) t10)))
    (q11 : PySem.W.nsIn K mainGlobals "LAST_DAY" = some (some (.int (999) t11)))
    (q12 : PySem.W.nsIn K mainGlobals "MOST_ENTRIES" = some (some (.int (200) t12)))
    (q13 : PySem.W.nsIn K mainGlobals "MOST_CHARTS" = some (some (.int (8) t13)))
    (q14 : PySem.W.nsIn K mainGlobals "HOUR_SIGNS" = some (some (.str "0123456789abcde" t14)))
    (q15 : PySem.W.nsIn K mainGlobals "LAND_SIGN" = some (some (.str "#" t15)))
    (q16 : PySem.W.nsIn K mainGlobals "UNTOLD_SIGN" = some (some (.str "." t16)))
    (q17 : PySem.W.nsIn K mainGlobals "TITLE" = some (some (.str "atlas" t17)))
    (qD0 : PySem.W.nsIn K mainGlobals "DEEDS" = some (some (.ref OD0))) (qk0 : K.lookup OD0 = some ⟨.type "dict", none, .dict (List.toArray [⟨hD0_0, .str "begin" kD0_0, .ref tD0_0⟩, ⟨hD0_1, .str "tell" kD0_1, .ref tD0_1⟩, ⟨hD0_2, .str "right" kD0_2, .ref tD0_2⟩, ⟨hD0_3, .str "strike" kD0_3, .ref tD0_3⟩, ⟨hD0_4, .str "drop" kD0_4, .ref tD0_4⟩, ⟨hD0_5, .str "lay" kD0_5, .ref tD0_5⟩]) nD0, #[]⟩) (ql0 : PySem.W.KeysLit w.params [⟨hD0_0, .str "begin" kD0_0, .ref tD0_0⟩, ⟨hD0_1, .str "tell" kD0_1, .ref tD0_1⟩, ⟨hD0_2, .str "right" kD0_2, .ref tD0_2⟩, ⟨hD0_3, .str "strike" kD0_3, .ref tD0_3⟩, ⟨hD0_4, .str "drop" kD0_4, .ref tD0_4⟩, ⟨hD0_5, .str "lay" kD0_5, .ref tD0_5⟩]) (qw0 : (OD0 == sysModules) = false)
    (qt0_0 : K.lookup tD0_0 = some ⟨.type "tuple", pD0_0, .seq #[.str "name" vD0_0_0, .str "number" vD0_0_1, .str "number" vD0_0_2, .str "number" vD0_0_3] nD0_0, sD0_0⟩)
    (qt0_1 : K.lookup tD0_1 = some ⟨.type "tuple", pD0_1, .seq #[.str "name" vD0_1_0, .str "number" vD0_1_1, .str "number" vD0_1_2, .str "what" vD0_1_3, .str "number" vD0_1_4] nD0_1, sD0_1⟩)
    (qt0_2 : K.lookup tD0_2 = some ⟨.type "tuple", pD0_2, .seq #[.str "name" vD0_2_0, .str "number" vD0_2_1, .str "what" vD0_2_2] nD0_2, sD0_2⟩)
    (qt0_3 : K.lookup tD0_3 = some ⟨.type "tuple", pD0_3, .seq #[.str "name" vD0_3_0, .str "number" vD0_3_1] nD0_3, sD0_3⟩)
    (qt0_4 : K.lookup tD0_4 = some ⟨.type "tuple", pD0_4, .seq #[.str "name" vD0_4_0] nD0_4, sD0_4⟩)
    (qt0_5 : K.lookup tD0_5 = some ⟨.type "tuple", pD0_5, .seq #[.str "name" vD0_5_0, .str "name" vD0_5_1, .str "number" vD0_5_2, .str "number" vD0_5_3, .str "number" vD0_5_4] nD0_5, sD0_5⟩)
    (qD1 : PySem.W.nsIn K mainGlobals "ACTIONS" = some (some (.ref OD1))) (qk1 : K.lookup OD1 = some ⟨.type "dict", none, .dict (List.toArray [⟨hD1_0, .str "begin" kD1_0, .ref f17⟩, ⟨hD1_1, .str "tell" kD1_1, .ref f18⟩, ⟨hD1_2, .str "right" kD1_2, .ref f19⟩, ⟨hD1_3, .str "strike" kD1_3, .ref f20⟩, ⟨hD1_4, .str "drop" kD1_4, .ref f21⟩, ⟨hD1_5, .str "lay" kD1_5, .ref f22⟩]) nD1, #[]⟩) (ql1 : PySem.W.KeysLit w.params [⟨hD1_0, .str "begin" kD1_0, .ref f17⟩, ⟨hD1_1, .str "tell" kD1_1, .ref f18⟩, ⟨hD1_2, .str "right" kD1_2, .ref f19⟩, ⟨hD1_3, .str "strike" kD1_3, .ref f20⟩, ⟨hD1_4, .str "drop" kD1_4, .ref f21⟩, ⟨hD1_5, .str "lay" kD1_5, .ref f22⟩]) (qw1 : (OD1 == sysModules) = false)
    (qD2 : PySem.W.nsIn K mainGlobals "LINES" = some (some (.ref OD2))) (qk2 : K.lookup OD2 = some ⟨.type "dict", none, .dict (List.toArray [⟨hD2_0, .str "undo" kD2_0, .ref tD2_0⟩, ⟨hD2_1, .str "redo" kD2_1, .ref tD2_1⟩, ⟨hD2_2, .str "names" kD2_2, .ref tD2_2⟩, ⟨hD2_3, .str "page" kD2_3, .ref tD2_3⟩, ⟨hD2_4, .str "log" kD2_4, .ref tD2_4⟩, ⟨hD2_5, .str "chart" kD2_5, .ref tD2_5⟩, ⟨hD2_6, .str "knots" kD2_6, .ref tD2_6⟩, ⟨hD2_7, .str "whole" kD2_7, .ref tD2_7⟩, ⟨hD2_8, .str "ages" kD2_8, .ref tD2_8⟩, ⟨hD2_9, .str "weight" kD2_9, .ref tD2_9⟩, ⟨hD2_10, .str "bar" kD2_10, .ref tD2_10⟩, ⟨hD2_11, .str "may" kD2_11, .ref tD2_11⟩]) nD2, #[]⟩) (ql2 : PySem.W.KeysLit w.params [⟨hD2_0, .str "undo" kD2_0, .ref tD2_0⟩, ⟨hD2_1, .str "redo" kD2_1, .ref tD2_1⟩, ⟨hD2_2, .str "names" kD2_2, .ref tD2_2⟩, ⟨hD2_3, .str "page" kD2_3, .ref tD2_3⟩, ⟨hD2_4, .str "log" kD2_4, .ref tD2_4⟩, ⟨hD2_5, .str "chart" kD2_5, .ref tD2_5⟩, ⟨hD2_6, .str "knots" kD2_6, .ref tD2_6⟩, ⟨hD2_7, .str "whole" kD2_7, .ref tD2_7⟩, ⟨hD2_8, .str "ages" kD2_8, .ref tD2_8⟩, ⟨hD2_9, .str "weight" kD2_9, .ref tD2_9⟩, ⟨hD2_10, .str "bar" kD2_10, .ref tD2_10⟩, ⟨hD2_11, .str "may" kD2_11, .ref tD2_11⟩]) (qw2 : (OD2 == sysModules) = false)
    (qt2_0 : K.lookup tD2_0 = some ⟨.type "tuple", pD2_0, .seq #[] nD2_0, sD2_0⟩)
    (qt2_1 : K.lookup tD2_1 = some ⟨.type "tuple", pD2_1, .seq #[] nD2_1, sD2_1⟩)
    (qt2_2 : K.lookup tD2_2 = some ⟨.type "tuple", pD2_2, .seq #[] nD2_2, sD2_2⟩)
    (qt2_3 : K.lookup tD2_3 = some ⟨.type "tuple", pD2_3, .seq #[] nD2_3, sD2_3⟩)
    (qt2_4 : K.lookup tD2_4 = some ⟨.type "tuple", pD2_4, .seq #[.str "name" vD2_4_0] nD2_4, sD2_4⟩)
    (qt2_5 : K.lookup tD2_5 = some ⟨.type "tuple", pD2_5, .seq #[.str "name" vD2_5_0, .str "number" vD2_5_1] nD2_5, sD2_5⟩)
    (qt2_6 : K.lookup tD2_6 = some ⟨.type "tuple", pD2_6, .seq #[.str "name" vD2_6_0, .str "number" vD2_6_1] nD2_6, sD2_6⟩)
    (qt2_7 : K.lookup tD2_7 = some ⟨.type "tuple", pD2_7, .seq #[.str "name" vD2_7_0, .str "number" vD2_7_1] nD2_7, sD2_7⟩)
    (qt2_8 : K.lookup tD2_8 = some ⟨.type "tuple", pD2_8, .seq #[.str "name" vD2_8_0, .str "number" vD2_8_1] nD2_8, sD2_8⟩)
    (qt2_9 : K.lookup tD2_9 = some ⟨.type "tuple", pD2_9, .seq #[.str "name" vD2_9_0, .str "number" vD2_9_1] nD2_9, sD2_9⟩)
    (qt2_10 : K.lookup tD2_10 = some ⟨.type "tuple", pD2_10, .seq #[.str "name" vD2_10_0, .str "number" vD2_10_1] nD2_10, sD2_10⟩)
    (qt2_11 : K.lookup tD2_11 = some ⟨.type "tuple", pD2_11, .seq #[.str "name" vD2_11_0, .str "number" vD2_11_1, .str "number" vD2_11_2, .str "number" vD2_11_3] nD2_11, sD2_11⟩)
    (z0 : PySem.W.nsIn K mainGlobals "all" = some none)
    (z1 : PySem.W.nsIn K mainGlobals "dict" = some none)
    (z2 : PySem.W.nsIn K mainGlobals "enumerate" = some none)
    (z3 : PySem.W.nsIn K mainGlobals "int" = some none)
    (z4 : PySem.W.nsIn K mainGlobals "len" = some none)
    (z5 : PySem.W.nsIn K mainGlobals "list" = some none)
    (z6 : PySem.W.nsIn K mainGlobals "range" = some none)
    (z7 : PySem.W.nsIn K mainGlobals "sorted" = some none)
    (z8 : PySem.W.nsIn K mainGlobals "str" = some none)
    (z9 : PySem.W.nsIn K mainGlobals "tuple" = some none)
    (z10 : PySem.W.nsIn K mainGlobals "zip" = some none)
    (ga0 : PySem.W.nsIn K mainGlobals "TideError" = some (some (.ref C0)))
    (gk0 : PySem.W.keepIn K (.ref C0) = true)
    (ga1 : PySem.W.nsIn K mainGlobals "BadClock" = some (some (.ref C1)))
    (gk1 : PySem.W.keepIn K (.ref C1) = true)
    (ga2 : PySem.W.nsIn K mainGlobals "BadHour" = some (some (.ref C2)))
    (gk2 : PySem.W.keepIn K (.ref C2) = true)
    (ga3 : PySem.W.nsIn K mainGlobals "BadChart" = some (some (.ref C3)))
    (gk3 : PySem.W.keepIn K (.ref C3) = true)
    (ga4 : PySem.W.nsIn K mainGlobals "BadSquare" = some (some (.ref C4)))
    (gk4 : PySem.W.keepIn K (.ref C4) = true)
    (ga5 : PySem.W.nsIn K mainGlobals "NoFill" = some (some (.ref C5)))
    (gk5 : PySem.W.keepIn K (.ref C5) = true)
    (ga6 : PySem.W.nsIn K mainGlobals "Unlike" = some (some (.ref C6)))
    (gk6 : PySem.W.keepIn K (.ref C6) = true)
    (ga7 : PySem.W.nsIn K mainGlobals "BadName" = some (some (.ref C7)))
    (gk7 : PySem.W.keepIn K (.ref C7) = true)
    (ga8 : PySem.W.nsIn K mainGlobals "Taken" = some (some (.ref C8)))
    (gk8 : PySem.W.keepIn K (.ref C8) = true)
    (ga9 : PySem.W.nsIn K mainGlobals "Full" = some (some (.ref C9)))
    (gk9 : PySem.W.keepIn K (.ref C9) = true)
    (ga10 : PySem.W.nsIn K mainGlobals "NoChart" = some (some (.ref C10)))
    (gk10 : PySem.W.keepIn K (.ref C10) = true)
    (ga11 : PySem.W.nsIn K mainGlobals "BadDay" = some (some (.ref C11)))
    (gk11 : PySem.W.keepIn K (.ref C11) = true)
    (ga12 : PySem.W.nsIn K mainGlobals "BadDeed" = some (some (.ref C12)))
    (gk12 : PySem.W.keepIn K (.ref C12) = true)
    (ga13 : PySem.W.nsIn K mainGlobals "NothingLeft" = some (some (.ref C13)))
    (gk13 : PySem.W.keepIn K (.ref C13) = true)
    (ga14 : PySem.W.nsIn K mainGlobals "Knotted" = some (some (.ref C14)))
    (gk14 : PySem.W.keepIn K (.ref C14) = true)
    (ga15 : PySem.W.nsIn K mainGlobals "BadText" = some (some (.ref C15)))
    (gk15 : PySem.W.keepIn K (.ref C15) = true)
    (ga16 : PySem.W.nsIn K mainGlobals "NoEntry" = some (some (.ref C16)))
    (gk16 : PySem.W.keepIn K (.ref C16) = true)
    (ga17 : PySem.W.nsIn K mainGlobals "Log" = some (some (.ref C17)))
    (gk17 : PySem.W.keepIn K (.ref C17) = true)
    (ga18 : PySem.W.nsIn K mainGlobals "Atlas" = some (some (.ref C18)))
    (gk18 : PySem.W.keepIn K (.ref C18) = true)
    (ga19 : PySem.W.nsIn K mainGlobals "Desk" = some (some (.ref C19)))
    (gk19 : PySem.W.keepIn K (.ref C19) = true)
    (te1 : PySem.W.subIn K (.ref C0) (.type "BaseException") = some true)
    (te2 : PySem.W.hasDictIn K C0 = true)
    (te3 : PySem.W.typeIn K (.ref C0) = some (.type "type"))
    (gx1 : PySem.W.excIn K C1 [.type "ValueError", .type "Exception", .type "BaseException", .type "object"] "ValueError.__new__" = true)
    (gs1 : PySem.W.subIn K (.ref C1) (.type "BaseException") = some true)
    (gt1 : PySem.W.typeIn K (.ref C1) = some (.type "type"))
    (gm1 : PySem.W.subIn K (.ref C1) (.ref C0) = some true)
    (gx2 : PySem.W.excIn K C2 [.type "ValueError", .type "Exception", .type "BaseException", .type "object"] "ValueError.__new__" = true)
    (gs2 : PySem.W.subIn K (.ref C2) (.type "BaseException") = some true)
    (gt2 : PySem.W.typeIn K (.ref C2) = some (.type "type"))
    (gm2 : PySem.W.subIn K (.ref C2) (.ref C0) = some true)
    (gx3 : PySem.W.excIn K C3 [.type "ValueError", .type "Exception", .type "BaseException", .type "object"] "ValueError.__new__" = true)
    (gs3 : PySem.W.subIn K (.ref C3) (.type "BaseException") = some true)
    (gt3 : PySem.W.typeIn K (.ref C3) = some (.type "type"))
    (gm3 : PySem.W.subIn K (.ref C3) (.ref C0) = some true)
    (gx4 : PySem.W.excIn K C4 [.type "ValueError", .type "Exception", .type "BaseException", .type "object"] "ValueError.__new__" = true)
    (gs4 : PySem.W.subIn K (.ref C4) (.type "BaseException") = some true)
    (gt4 : PySem.W.typeIn K (.ref C4) = some (.type "type"))
    (gm4 : PySem.W.subIn K (.ref C4) (.ref C0) = some true)
    (gx6 : PySem.W.excIn K C6 [.type "ValueError", .type "Exception", .type "BaseException", .type "object"] "ValueError.__new__" = true)
    (gs6 : PySem.W.subIn K (.ref C6) (.type "BaseException") = some true)
    (gt6 : PySem.W.typeIn K (.ref C6) = some (.type "type"))
    (gm6 : PySem.W.subIn K (.ref C6) (.ref C0) = some true)
    (gx7 : PySem.W.excIn K C7 [.type "ValueError", .type "Exception", .type "BaseException", .type "object"] "ValueError.__new__" = true)
    (gs7 : PySem.W.subIn K (.ref C7) (.type "BaseException") = some true)
    (gt7 : PySem.W.typeIn K (.ref C7) = some (.type "type"))
    (gm7 : PySem.W.subIn K (.ref C7) (.ref C0) = some true)
    (gx8 : PySem.W.excIn K C8 [.type "ValueError", .type "Exception", .type "BaseException", .type "object"] "ValueError.__new__" = true)
    (gs8 : PySem.W.subIn K (.ref C8) (.type "BaseException") = some true)
    (gt8 : PySem.W.typeIn K (.ref C8) = some (.type "type"))
    (gm8 : PySem.W.subIn K (.ref C8) (.ref C0) = some true)
    (gx9 : PySem.W.excIn K C9 [.type "ValueError", .type "Exception", .type "BaseException", .type "object"] "ValueError.__new__" = true)
    (gs9 : PySem.W.subIn K (.ref C9) (.type "BaseException") = some true)
    (gt9 : PySem.W.typeIn K (.ref C9) = some (.type "type"))
    (gm9 : PySem.W.subIn K (.ref C9) (.ref C0) = some true)
    (gx10 : PySem.W.excIn K C10 [.type "ValueError", .type "Exception", .type "BaseException", .type "object"] "ValueError.__new__" = true)
    (gs10 : PySem.W.subIn K (.ref C10) (.type "BaseException") = some true)
    (gt10 : PySem.W.typeIn K (.ref C10) = some (.type "type"))
    (gm10 : PySem.W.subIn K (.ref C10) (.ref C0) = some true)
    (gx11 : PySem.W.excIn K C11 [.type "ValueError", .type "Exception", .type "BaseException", .type "object"] "ValueError.__new__" = true)
    (gs11 : PySem.W.subIn K (.ref C11) (.type "BaseException") = some true)
    (gt11 : PySem.W.typeIn K (.ref C11) = some (.type "type"))
    (gm11 : PySem.W.subIn K (.ref C11) (.ref C0) = some true)
    (gx12 : PySem.W.excIn K C12 [.type "ValueError", .type "Exception", .type "BaseException", .type "object"] "ValueError.__new__" = true)
    (gs12 : PySem.W.subIn K (.ref C12) (.type "BaseException") = some true)
    (gt12 : PySem.W.typeIn K (.ref C12) = some (.type "type"))
    (gm12 : PySem.W.subIn K (.ref C12) (.ref C0) = some true)
    (gs15 : PySem.W.subIn K (.ref C15) (.type "BaseException") = some true)
    (gt15 : PySem.W.typeIn K (.ref C15) = some (.type "type"))
    (gm15 : PySem.W.subIn K (.ref C15) (.ref C0) = some true)
    (gs16 : PySem.W.subIn K (.ref C16) (.type "BaseException") = some true)
    (gt16 : PySem.W.typeIn K (.ref C16) = some (.type "type"))
    (hq1 : PySem.W.hasDictIn K C1 = true)
    (hm1 : PySem.W.subIn K (.ref C1) (.ref C1) = some true)
    (hq2 : PySem.W.hasDictIn K C2 = true)
    (hm2 : PySem.W.subIn K (.ref C2) (.ref C2) = some true)
    (hq4 : PySem.W.hasDictIn K C4 = true)
    (hm4 : PySem.W.subIn K (.ref C4) (.ref C4) = some true)
    (hq6 : PySem.W.hasDictIn K C6 = true)
    (hm6 : PySem.W.subIn K (.ref C6) (.ref C6) = some true)
    (hq8 : PySem.W.hasDictIn K C8 = true)
    (hm8 : PySem.W.subIn K (.ref C8) (.ref C8) = some true)
    (hq9 : PySem.W.hasDictIn K C9 = true)
    (hm9 : PySem.W.subIn K (.ref C9) (.ref C9) = some true)
    (hq10 : PySem.W.hasDictIn K C10 = true)
    (hm10 : PySem.W.subIn K (.ref C10) (.ref C10) = some true)
    (hq11 : PySem.W.hasDictIn K C11 = true)
    (hm11 : PySem.W.subIn K (.ref C11) (.ref C11) = some true)
    (Ji15 : PySem.W.findIn K (.ref C15) "__init__" = some (some (.ref If15)))
    (Il15 : K.lookup If15 = some ⟨Ioc15, Iod15, .func (PySem.W.fnOf "__init__" "BadText.__init__" (defArgs s_BadText_init) (defBody s_BadText_init) (defScope s_BadText_init) .none IkV15 Idc15 Ipm15 Ian15 Icd15 Ict15), Isl15⟩)
    (Ic15 : PySem.W.codeIn K Icd15 "BadText.__init__" = true)
    (Ik15 : PySem.W.keepIn K (.ref If15) = true)
    (Jl15 : K.lookup C15 = some (excClassObj Jn15 Jq15 C15 JN15 Jb15 JB15 true Js15 Ju15 Ja15 Jc15 Jd15 J015 J115 J215 J315 J515 "ValueError.__new__"))
    (Jr15 : PySem.HandSPX.refsVE JB15 = true)
    (Js15a : PySem.W.findIn K (.ref C15) "__setattr__" = some (some (.builtin "object.__setattr__")))
    (Jg15 : PySem.W.findIn K (.ref C15) "__getattribute__" = some (some (.builtin "BaseException.__getattribute__")))
    (Jh15 : PySem.W.findIn K (.ref C15) "__getattr__" = some none)
    (Jj15 : PySem.W.hasDictIn K C15 = true)
    (Jt15 : PySem.W.typeIn K (.ref If15) = some (.type "function"))
    (Jf15 : PySem.W.findIn K (.ref C15) "row" = some none)
    (Jm15 : PySem.W.subIn K (.ref C15) (.ref C15) = some true)
    (Kb15_1 : PySem.W.specialIn K (.ref C0) "__getattribute__" = some (some (.builtin "type.__getattribute__")))
    (Kb15_2 : PySem.W.readsIn K C0 (.type "type") = true)
    (Kb15_3 : PySem.W.findCls K (.ref C0) (.type "type") "__init__" = some (.val (.builtin "ValueError.__init__")))
    (Ji16 : PySem.W.findIn K (.ref C16) "__init__" = some (some (.ref If16)))
    (Il16 : K.lookup If16 = some ⟨Ioc16, Iod16, .func (PySem.W.fnOf "__init__" "NoEntry.__init__" (defArgs s_NoEntry_init) (defBody s_NoEntry_init) (defScope s_NoEntry_init) .none IkV16 Idc16 Ipm16 Ian16 Icd16 Ict16), Isl16⟩)
    (Ic16 : PySem.W.codeIn K Icd16 "NoEntry.__init__" = true)
    (Ik16 : PySem.W.keepIn K (.ref If16) = true)
    (Jl16 : K.lookup C16 = some (excClassObj Jn16 Jq16 C16 JN16 Jb16 lkTail true Js16 Ju16 Ja16 Jc16 Jd16 J016 J116 J216 J316 J516 "LookupError.__new__"))
    (Js16a : PySem.W.findIn K (.ref C16) "__setattr__" = some (some (.builtin "object.__setattr__")))
    (Jg16 : PySem.W.findIn K (.ref C16) "__getattribute__" = some (some (.builtin "BaseException.__getattribute__")))
    (Jh16 : PySem.W.findIn K (.ref C16) "__getattr__" = some none)
    (Jj16 : PySem.W.hasDictIn K C16 = true)
    (Jt16 : PySem.W.typeIn K (.ref If16) = some (.type "function"))
    (Jf16 : PySem.W.findIn K (.ref C16) "many" = some none)
    (Jm16 : PySem.W.subIn K (.ref C16) (.ref C16) = some true)
    (Jv16 : PySem.W.findCls K (.type "LookupError") (.type "type") "__init__" = some (.val (.builtin "LookupError.__init__")))
    (Jz16 : PySem.W.nsIn K mainGlobals "LookupError" = some none)
    (Jx16 : PySem.W.kitOne K (.ref C16) (.type "LookupError") = some true)
    (Jy16 : PySem.W.kitOne K (.ref C16) (.type "ValueError") = some false)
    (Jq1_16 : PySem.W.subIn K (.ref C1) (.ref C16) = some false)
    (Jq2_16 : PySem.W.subIn K (.ref C2) (.ref C16) = some false)
    (Jq3_16 : PySem.W.subIn K (.ref C3) (.ref C16) = some false)
    (Jq4_16 : PySem.W.subIn K (.ref C4) (.ref C16) = some false)
    (Jq6_16 : PySem.W.subIn K (.ref C6) (.ref C16) = some false)
    (Jq7_16 : PySem.W.subIn K (.ref C7) (.ref C16) = some false)
    (Jq8_16 : PySem.W.subIn K (.ref C8) (.ref C16) = some false)
    (Jq9_16 : PySem.W.subIn K (.ref C9) (.ref C16) = some false)
    (Jq10_16 : PySem.W.subIn K (.ref C10) (.ref C16) = some false)
    (Jq11_16 : PySem.W.subIn K (.ref C11) (.ref C16) = some false)
    (Jq12_16 : PySem.W.subIn K (.ref C12) (.ref C16) = some false)
    (Jq15_16 : PySem.W.subIn K (.ref C15) (.ref C16) = some false)
    (xm : ([C1, C2, C3, C4, C6, C7, C8, C9, C10, C11, C12, C15, C16] : List Addr).map (fun x => ([C11, C2, C4, C9, C8, C6, C10, C1, C13, C14, C16, C15] : List Addr).map fun y => PySem.W.exmOne K (.ref x) (.ref y)) = [[some false, some false, some false, some false, some false, some false, some false, some true, some false, some false, some false, some false], [some false, some true, some false, some false, some false, some false, some false, some false, some false, some false, some false, some false], [some false, some false, some false, some false, some false, some false, some false, some false, some false, some false, some false, some false], [some false, some false, some true, some false, some false, some false, some false, some false, some false, some false, some false, some false], [some false, some false, some false, some false, some false, some true, some false, some false, some false, some false, some false, some false], [some false, some false, some false, some false, some false, some false, some false, some false, some false, some false, some false, some false], [some false, some false, some false, some false, some true, some false, some false, some false, some false, some false, some false, some false], [some false, some false, some false, some true, some false, some false, some false, some false, some false, some false, some false, some false], [some false, some false, some false, some false, some false, some false, some true, some false, some false, some false, some false, some false], [some true, some false, some false, some false, some false, some false, some false, some false, some false, some false, some false, some false], [some false, some false, some false, some false, some false, some false, some false, some false, some false, some false, some false, some false], [some false, some false, some false, some false, some false, some false, some false, some false, some false, some false, some false, some true], [some false, some false, some false, some false, some false, some false, some false, some false, some false, some false, some true, some false]])
    (hT0 : h.get? PO0 = some { cls := .none, data := .fields #[] }) (nT0 : K.lookup PO0 = none) (cH0 : PySem.W.codeHdIn K cO0 PO0 = true)
    (tnd : ([PO0] : List Addr).Nodup) :
    LamX.LawAtS l w K CX0 13 63 "_law_script" mg fa h := by
  have e := hfa.symm.trans (PySem.W.mg_of X G a31)
  cases e
  have F35 : FunD K "add" "Log.add" (defArgs s_Log_add) (defBody s_Log_add) (defScope s_Log_add) [.int (0)] [] f35 _ := ⟨⟨_, _, _, _, _, _, _, _, _, _, rfl, l35, c35, .inr ⟨(by simp), T35, _, [.int (0) u35_0], _, rfl, dt35, rfl, (.cons ⟨_, rfl⟩ .nil)⟩, .inl rfl⟩, k35⟩
  have B35 := bindsAll F35 (ps := ["self", "row", "column", "one", "day"]) 5 (by simp) (by rfl) fun _ _ _ _ _ _ _ us its hl hi => match us, its, hl, hi with | [_, _, _, _, _], [_], _, _ => ⟨_, rfl, rfl⟩
  have F39 : FunD K "chart" "Log.chart" (defArgs s_Log_chart) (defBody s_Log_chart) (defScope s_Log_chart) [.int (999)] [] f39 _ := ⟨⟨_, _, _, _, _, _, _, _, _, _, rfl, l39, c39, .inr ⟨(by simp), T39, _, [.int (999) u39_0], _, rfl, dt39, rfl, (.cons ⟨_, rfl⟩ .nil)⟩, .inl rfl⟩, k39⟩
  have B39 := bindsAll F39 (ps := ["self", "day"]) 2 (by simp) (by rfl) fun _ _ _ _ _ _ _ us its hl hi => match us, its, hl, hi with | [_, _], [_], _, _ => ⟨_, rfl, rfl⟩
  have all : ∀ (P : Addr × Addr → Prop), P (cO0, PO0) → ∀ p ∈ ([(cO0, PO0)] : List (Addr × Addr)), P p := fun P h0 p hp => by
    simp only [List.mem_cons, List.not_mem_nil, or_false] at hp
    rcases hp with rfl <;> assumption
  refine ⟨_, [(cO0, PO0)], spLawT K [PO0], all _ hT0, all _ nT0, all _ (PySem.W.codeHd_of_K X cH0), fun s v => ?_, fun H a ns hl _ hH hS => ⟨a, ns, rfl, hS, hl, fun p hp => ?_, fun _ => rfl⟩, fun base _ _ hB => ok_law (T := ⟨C17, ⟨pg17, hd17, po17, sa17⟩, na17_0, na17_1, na17_2, na17_3, na17_4,
    C18, ⟨pg18, hd18, po18, sa18⟩, na18_0, na18_1, na18_2,
    C19, ⟨pg19, hd19, po19, sa19⟩, na19_0,
    _, _, fun_mk (st := s_is_clock) l0 c0 k0, PySem.W.mg_of X G a0, (fun_mk (st := s_is_clock) l0 c0 k0).binds fun _ _ _ _ _ _ us hl => match us, hl with | [_], _ => rfl,
    _, _, fun_mk (st := s_need_clock) l1 c1 k1, PySem.W.mg_of X G a1, (fun_mk (st := s_need_clock) l1 c1 k1).binds fun _ _ _ _ _ _ us hl => match us, hl with | [_], _ => rfl,
    _, _, fun_mk (st := s_is_what) l2 c2 k2, PySem.W.mg_of X G a2, (fun_mk (st := s_is_what) l2 c2 k2).binds fun _ _ _ _ _ _ us hl => match us, hl with | [_, _], _ => rfl,
    _, _, fun_mk (st := s_is_row) l3 c3 k3, PySem.W.mg_of X G a3, (fun_mk (st := s_is_row) l3 c3 k3).binds fun _ _ _ _ _ _ us hl => match us, hl with | [_, _, _], _ => rfl,
    _, _, fun_mk (st := s_is_chart) l4 c4 k4, PySem.W.mg_of X G a4, (fun_mk (st := s_is_chart) l4 c4 k4).binds fun _ _ _ _ _ _ us hl => match us, hl with | [_], _ => rfl,
    _, _, fun_mk (st := s_need_chart) l5 c5 k5, PySem.W.mg_of X G a5, (fun_mk (st := s_need_chart) l5 c5 k5).binds fun _ _ _ _ _ _ us hl => match us, hl with | [_], _ => rfl,
    _, _, fun_mk (st := s_size) l6 c6 k6, PySem.W.mg_of X G a6, (fun_mk (st := s_size) l6 c6 k6).binds fun _ _ _ _ _ _ us hl => match us, hl with | [_], _ => rfl,
    _, _, fun_mk (st := s_need_within) l7 c7 k7, PySem.W.mg_of X G a7, (fun_mk (st := s_need_within) l7 c7 k7).binds fun _ _ _ _ _ _ us hl => match us, hl with | [_, _, _, _, _], _ => rfl,
    _, _, fun_mk (st := s_need_fit) l8 c8 k8, PySem.W.mg_of X G a8, (fun_mk (st := s_need_fit) l8 c8 k8).binds fun _ _ _ _ _ _ us hl => match us, hl with | [_, _, _, _], _ => rfl,
    _, _, fun_mk (st := s_is_name) l9 c9 k9, PySem.W.mg_of X G a9, (fun_mk (st := s_is_name) l9 c9 k9).binds fun _ _ _ _ _ _ us hl => match us, hl with | [_], _ => rfl,
    _, _, fun_mk (st := s_read_number) l10 c10 k10, PySem.W.mg_of X G a10, (fun_mk (st := s_read_number) l10 c10 k10).binds fun _ _ _ _ _ _ us hl => match us, hl with | [_], _ => rfl,
    _, _, fun_mk (st := s_read_what) l11 c11 k11, PySem.W.mg_of X G a11, (fun_mk (st := s_read_what) l11 c11 k11).binds fun _ _ _ _ _ _ us hl => match us, hl with | [_], _ => rfl,
    _, _, fun_mk (st := s_read_thing) l12 c12 k12, PySem.W.mg_of X G a12, (fun_mk (st := s_read_thing) l12 c12 k12).binds fun _ _ _ _ _ _ us hl => match us, hl with | [_, _], _ => rfl,
    _, _, fun_mk (st := s_read_things) l13 c13 k13, PySem.W.mg_of X G a13, (fun_mk (st := s_read_things) l13 c13 k13).binds fun _ _ _ _ _ _ us hl => match us, hl with | [_, _], _ => rfl,
    _, _, fun_mk (st := s_need_day) l14 c14 k14, PySem.W.mg_of X G a14, (fun_mk (st := s_need_day) l14 c14 k14).binds fun _ _ _ _ _ _ us hl => match us, hl with | [_], _ => rfl,
    _, _, fun_mk (st := s_need_what) l15 c15 k15, PySem.W.mg_of X G a15, (fun_mk (st := s_need_what) l15 c15 k15).binds fun _ _ _ _ _ _ us hl => match us, hl with | [_, _], _ => rfl,
    _, _, fun_mk (st := s_log_of) l16 c16 k16, PySem.W.mg_of X G a16, (fun_mk (st := s_log_of) l16 c16 k16).binds fun _ _ _ _ _ _ us hl => match us, hl with | [_, _], _ => rfl,
    _, _, fun_mk (st := s_begin_chart) l17 c17 k17, PySem.W.mg_of X G a17, (fun_mk (st := s_begin_chart) l17 c17 k17).binds fun _ _ _ _ _ _ us hl => match us, hl with | [_, _], _ => rfl,
    _, _, fun_mk (st := s_tell_square) l18 c18 k18, PySem.W.mg_of X G a18, (fun_mk (st := s_tell_square) l18 c18 k18).binds fun _ _ _ _ _ _ us hl => match us, hl with | [_, _], _ => rfl,
    _, _, fun_mk (st := s_right_entry) l19 c19 k19, PySem.W.mg_of X G a19, (fun_mk (st := s_right_entry) l19 c19 k19).binds fun _ _ _ _ _ _ us hl => match us, hl with | [_, _], _ => rfl,
    _, _, fun_mk (st := s_strike_entry) l20 c20 k20, PySem.W.mg_of X G a20, (fun_mk (st := s_strike_entry) l20 c20 k20).binds fun _ _ _ _ _ _ us hl => match us, hl with | [_, _], _ => rfl,
    _, _, fun_mk (st := s_drop_chart) l21 c21 k21, PySem.W.mg_of X G a21, (fun_mk (st := s_drop_chart) l21 c21 k21).binds fun _ _ _ _ _ _ us hl => match us, hl with | [_, _], _ => rfl,
    _, _, fun_mk (st := s_lay_chart) l22 c22 k22, PySem.W.mg_of X G a22, (fun_mk (st := s_lay_chart) l22 c22 k22).binds fun _ _ _ _ _ _ us hl => match us, hl with | [_, _], _ => rfl,
    _, _, fun_mk (st := s_need_deed) l23 c23 k23, PySem.W.mg_of X G a23, (fun_mk (st := s_need_deed) l23 c23 k23).binds fun _ _ _ _ _ _ us hl => match us, hl with | [_], _ => rfl,
    _, _, fun_mk (st := s_read_deed) l24 c24 k24, PySem.W.mg_of X G a24, (fun_mk (st := s_read_deed) l24 c24 k24).binds fun _ _ _ _ _ _ us hl => match us, hl with | [_], _ => rfl,
    _, _, fun_mk (st := s_answer_deed) l25 c25 k25, PySem.W.mg_of X G a25, (fun_mk (st := s_answer_deed) l25 c25 k25).binds fun _ _ _ _ _ _ us hl => match us, hl with | [_, _], _ => rfl,
    _, _, fun_mk (st := s_answer) l26 c26 k26, PySem.W.mg_of X G a26, (fun_mk (st := s_answer) l26 c26 k26).binds fun _ _ _ _ _ _ us hl => match us, hl with | [_, _], _ => rfl,
    _, _, fun_mk (st := s_law_box) l27 c27 k27, PySem.W.mg_of X G a27, (fun_mk (st := s_law_box) l27 c27 k27).binds fun _ _ _ _ _ _ us hl => match us, hl with | [_], _ => rfl,
    _, _, fun_mk (st := s_law_mixed) l28 c28 k28, PySem.W.mg_of X G a28, (fun_mk (st := s_law_mixed) l28 c28 k28).binds fun _ _ _ _ _ _ us hl => match us, hl with | [_, _], _ => rfl,
    _, _, fun_mk (st := s_law_take) l29 c29 k29, PySem.W.mg_of X G a29, (fun_mk (st := s_law_take) l29 c29 k29).binds fun _ _ _ _ _ _ us hl => match us, hl with | [_, _], _ => rfl,
    _, _, fun_mk (st := s_law_clock) l30 c30 k30, PySem.W.mg_of X G a30, (fun_mk (st := s_law_clock) l30 c30 k30).binds fun _ _ _ _ _ _ us hl => match us, hl with | [_], _ => rfl,
    _, _, fun_mk (st := s_law) l31 c31 k31, PySem.W.mg_of X G a31, (fun_mk (st := s_law) l31 c31 k31).binds fun _ _ _ _ _ _ us hl => match us, hl with | [_], _ => rfl,
    _, _, fun_mk (st := s_Log_init) l32 c32 k32, ⟨a32, i32, k32⟩, ⟨mk17, a32, i32, gk17⟩, (fun_mk (st := s_Log_init) l32 c32 k32).binds fun _ _ _ _ _ _ us hl => match us, hl with | [_, _, _, _], _ => rfl,
    _, _, fun_mk (st := s_Log_len) l33 c33 k33, ⟨a33, i33, k33⟩, (fun_mk (st := s_Log_len) l33 c33 k33).binds fun _ _ _ _ _ _ us hl => match us, hl with | [_], _ => rfl,
    _, _, fun_mk (st := s_Log_need_entry) l34 c34 k34, ⟨a34, i34, k34⟩, (fun_mk (st := s_Log_need_entry) l34 c34 k34).binds fun _ _ _ _ _ _ us hl => match us, hl with | [_, _], _ => rfl,
    _, _, F35, ⟨a35, i35, k35⟩, B35,
    _, _, fun_mk (st := s_Log_right) l36 c36 k36, ⟨a36, i36, k36⟩, (fun_mk (st := s_Log_right) l36 c36 k36).binds fun _ _ _ _ _ _ us hl => match us, hl with | [_, _, _], _ => rfl,
    _, _, fun_mk (st := s_Log_strike) l37 c37 k37, ⟨a37, i37, k37⟩, (fun_mk (st := s_Log_strike) l37 c37 k37).binds fun _ _ _ _ _ _ us hl => match us, hl with | [_, _], _ => rfl,
    _, _, cO0, PO0, ⟨⟨_, _, _, _, _, _, _, _, rfl, l38, c38⟩, k38⟩, hB (cO0, PO0) (List.Mem.head _), ⟨a38, i38, k38⟩, (fun_mk (st := s_Log_entries) l38 c38 k38).binds fun _ _ _ _ _ _ us hl => match us, hl with | [_], _ => rfl,
    _, _, F39, ⟨a39, i39, k39⟩, B39,
    _, _, fun_mk (st := s_Log_twin) l40 c40 k40, ⟨a40, i40, k40⟩, (fun_mk (st := s_Log_twin) l40 c40 k40).binds fun _ _ _ _ _ _ us hl => match us, hl with | [_], _ => rfl,
    _, _, fun_mk (st := s_Atlas_init) l41 c41 k41, ⟨a41, i41, k41⟩, ⟨mk18, a41, i41, gk18⟩, (fun_mk (st := s_Atlas_init) l41 c41 k41).binds fun _ _ _ _ _ _ us hl => match us, hl with | [_], _ => rfl,
    _, _, fun_mk (st := s_Atlas_do) l42 c42 k42, ⟨a42, i42, k42⟩, (fun_mk (st := s_Atlas_do) l42 c42 k42).binds fun _ _ _ _ _ _ us hl => match us, hl with | [_, _], _ => rfl,
    _, _, fun_mk (st := s_Atlas_twin) l43 c43 k43, ⟨a43, i43, k43⟩, (fun_mk (st := s_Atlas_twin) l43 c43 k43).binds fun _ _ _ _ _ _ us hl => match us, hl with | [_], _ => rfl,
    _, _, fun_mk (st := s_Atlas_log) l44 c44 k44, ⟨a44, i44, k44⟩, (fun_mk (st := s_Atlas_log) l44 c44 k44).binds fun _ _ _ _ _ _ us hl => match us, hl with | [_, _], _ => rfl,
    _, _, fun_mk (st := s_Desk_init) l45 c45 k45, ⟨a45, i45, k45⟩, ⟨mk19, a45, i45, gk19⟩, (fun_mk (st := s_Desk_init) l45 c45 k45).binds fun _ _ _ _ _ _ us hl => match us, hl with | [_], _ => rfl,
    _, _, fun_mk (st := s_Desk_atlas) l46 c46 k46, ⟨a46, i46, k46⟩, (fun_mk (st := s_Desk_atlas) l46 c46 k46).binds fun _ _ _ _ _ _ us hl => match us, hl with | [_], _ => rfl,
    _, _, fun_mk (st := s_Desk_say) l47 c47 k47, ⟨a47, i47, k47⟩, (fun_mk (st := s_Desk_say) l47 c47 k47).binds fun _ _ _ _ _ _ us hl => match us, hl with | [_, _], _ => rfl,
    t0, PySem.W.mg_of X G q0,
    t1, PySem.W.mg_of X G q1,
    t2, PySem.W.mg_of X G q2,
    t3, PySem.W.mg_of X G q3,
    t4, PySem.W.mg_of X G q4,
    O5, PySem.W.mg_of X G q5, fun _ => .inr ⟨_, _, _, qo5, rfl, rfl, (show 2 ≤ sizeLine by decide), (.cons ⟨_, rfl⟩ (.cons ⟨_, rfl⟩ .nil))⟩,
    t6, PySem.W.mg_of X G q6,
    t7, PySem.W.mg_of X G q7,
    t8, PySem.W.mg_of X G q8,
    t9, PySem.W.mg_of X G q9,
    t10, PySem.W.mg_of X G q10,
    t11, PySem.W.mg_of X G q11,
    t12, PySem.W.mg_of X G q12,
    t13, PySem.W.mg_of X G q13,
    t14, PySem.W.mg_of X G q14,
    t15, PySem.W.mg_of X G q15,
    t16, PySem.W.mg_of X G q16,
    t17, PySem.W.mg_of X G q17,
    OD0,
    PySem.W.mg_of X G qD0,
    tD0_0, fun _ => .inr ⟨_, _, _, qt0_0, rfl, rfl, (show 4 ≤ sizeLine by decide), (.cons ⟨_, rfl⟩ (.cons ⟨_, rfl⟩ (.cons ⟨_, rfl⟩ (.cons ⟨_, rfl⟩ .nil))))⟩,
    tD0_1, fun _ => .inr ⟨_, _, _, qt0_1, rfl, rfl, (show 5 ≤ sizeLine by decide), (.cons ⟨_, rfl⟩ (.cons ⟨_, rfl⟩ (.cons ⟨_, rfl⟩ (.cons ⟨_, rfl⟩ (.cons ⟨_, rfl⟩ .nil)))))⟩,
    tD0_2, fun _ => .inr ⟨_, _, _, qt0_2, rfl, rfl, (show 3 ≤ sizeLine by decide), (.cons ⟨_, rfl⟩ (.cons ⟨_, rfl⟩ (.cons ⟨_, rfl⟩ .nil)))⟩,
    tD0_3, fun _ => .inr ⟨_, _, _, qt0_3, rfl, rfl, (show 2 ≤ sizeLine by decide), (.cons ⟨_, rfl⟩ (.cons ⟨_, rfl⟩ .nil))⟩,
    tD0_4, fun _ => .inr ⟨_, _, _, qt0_4, rfl, rfl, (show 1 ≤ sizeLine by decide), (.cons ⟨_, rfl⟩ .nil)⟩,
    tD0_5, fun _ => .inr ⟨_, _, _, qt0_5, rfl, rfl, (show 5 ≤ sizeLine by decide), (.cons ⟨_, rfl⟩ (.cons ⟨_, rfl⟩ (.cons ⟨_, rfl⟩ (.cons ⟨_, rfl⟩ (.cons ⟨_, rfl⟩ .nil)))))⟩,
    dicK_of qk0 ql0 qw0 (.cons ⟨⟨_, rfl⟩, rfl⟩ (.cons ⟨⟨_, rfl⟩, rfl⟩ (.cons ⟨⟨_, rfl⟩, rfl⟩ (.cons ⟨⟨_, rfl⟩, rfl⟩ (.cons ⟨⟨_, rfl⟩, rfl⟩ (.cons ⟨⟨_, rfl⟩, rfl⟩ .nil)))))),
    OD1,
    PySem.W.mg_of X G qD1,
    dicK_of qk1 ql1 qw1 (.cons ⟨⟨_, rfl⟩, rfl⟩ (.cons ⟨⟨_, rfl⟩, rfl⟩ (.cons ⟨⟨_, rfl⟩, rfl⟩ (.cons ⟨⟨_, rfl⟩, rfl⟩ (.cons ⟨⟨_, rfl⟩, rfl⟩ (.cons ⟨⟨_, rfl⟩, rfl⟩ .nil)))))),
    OD2,
    PySem.W.mg_of X G qD2,
    tD2_0, fun _ => .inr ⟨_, _, _, qt2_0, rfl, rfl, (show 0 ≤ sizeLine by decide), .nil⟩,
    tD2_1, fun _ => .inr ⟨_, _, _, qt2_1, rfl, rfl, (show 0 ≤ sizeLine by decide), .nil⟩,
    tD2_2, fun _ => .inr ⟨_, _, _, qt2_2, rfl, rfl, (show 0 ≤ sizeLine by decide), .nil⟩,
    tD2_3, fun _ => .inr ⟨_, _, _, qt2_3, rfl, rfl, (show 0 ≤ sizeLine by decide), .nil⟩,
    tD2_4, fun _ => .inr ⟨_, _, _, qt2_4, rfl, rfl, (show 1 ≤ sizeLine by decide), (.cons ⟨_, rfl⟩ .nil)⟩,
    tD2_5, fun _ => .inr ⟨_, _, _, qt2_5, rfl, rfl, (show 2 ≤ sizeLine by decide), (.cons ⟨_, rfl⟩ (.cons ⟨_, rfl⟩ .nil))⟩,
    tD2_6, fun _ => .inr ⟨_, _, _, qt2_6, rfl, rfl, (show 2 ≤ sizeLine by decide), (.cons ⟨_, rfl⟩ (.cons ⟨_, rfl⟩ .nil))⟩,
    tD2_7, fun _ => .inr ⟨_, _, _, qt2_7, rfl, rfl, (show 2 ≤ sizeLine by decide), (.cons ⟨_, rfl⟩ (.cons ⟨_, rfl⟩ .nil))⟩,
    tD2_8, fun _ => .inr ⟨_, _, _, qt2_8, rfl, rfl, (show 2 ≤ sizeLine by decide), (.cons ⟨_, rfl⟩ (.cons ⟨_, rfl⟩ .nil))⟩,
    tD2_9, fun _ => .inr ⟨_, _, _, qt2_9, rfl, rfl, (show 2 ≤ sizeLine by decide), (.cons ⟨_, rfl⟩ (.cons ⟨_, rfl⟩ .nil))⟩,
    tD2_10, fun _ => .inr ⟨_, _, _, qt2_10, rfl, rfl, (show 2 ≤ sizeLine by decide), (.cons ⟨_, rfl⟩ (.cons ⟨_, rfl⟩ .nil))⟩,
    tD2_11, fun _ => .inr ⟨_, _, _, qt2_11, rfl, rfl, (show 4 ≤ sizeLine by decide), (.cons ⟨_, rfl⟩ (.cons ⟨_, rfl⟩ (.cons ⟨_, rfl⟩ (.cons ⟨_, rfl⟩ .nil))))⟩,
    dicK_of qk2 ql2 qw2 (.cons ⟨⟨_, rfl⟩, rfl⟩ (.cons ⟨⟨_, rfl⟩, rfl⟩ (.cons ⟨⟨_, rfl⟩, rfl⟩ (.cons ⟨⟨_, rfl⟩, rfl⟩ (.cons ⟨⟨_, rfl⟩, rfl⟩ (.cons ⟨⟨_, rfl⟩, rfl⟩ (.cons ⟨⟨_, rfl⟩, rfl⟩ (.cons ⟨⟨_, rfl⟩, rfl⟩ (.cons ⟨⟨_, rfl⟩, rfl⟩ (.cons ⟨⟨_, rfl⟩, rfl⟩ (.cons ⟨⟨_, rfl⟩, rfl⟩ (.cons ⟨⟨_, rfl⟩, rfl⟩ .nil)))))))))))),
    PySem.W.mg_none_of X G z0,
    PySem.W.mg_none_of X G z1,
    PySem.W.mg_none_of X G z2,
    PySem.W.mg_none_of X G z3,
    PySem.W.mg_none_of X G z4,
    PySem.W.mg_none_of X G z5,
    PySem.W.mg_none_of X G z6,
    PySem.W.mg_none_of X G z7,
    PySem.W.mg_none_of X G z8,
    PySem.W.mg_none_of X G z9,
    PySem.W.mg_none_of X G z10,
    C0,
    C1,
    C2,
    C3,
    C4,
    C5,
    C6,
    C7,
    C8,
    C9,
    C10,
    C11,
    C12,
    C13,
    C14,
    C15,
    C16,
    ⟨PySem.W.mg_of X G ga0, gk0⟩,
    ⟨PySem.W.mg_of X G ga1, gk1⟩,
    ⟨PySem.W.mg_of X G ga2, gk2⟩,
    ⟨PySem.W.mg_of X G ga3, gk3⟩,
    ⟨PySem.W.mg_of X G ga4, gk4⟩,
    ⟨PySem.W.mg_of X G ga5, gk5⟩,
    ⟨PySem.W.mg_of X G ga6, gk6⟩,
    ⟨PySem.W.mg_of X G ga7, gk7⟩,
    ⟨PySem.W.mg_of X G ga8, gk8⟩,
    ⟨PySem.W.mg_of X G ga9, gk9⟩,
    ⟨PySem.W.mg_of X G ga10, gk10⟩,
    ⟨PySem.W.mg_of X G ga11, gk11⟩,
    ⟨PySem.W.mg_of X G ga12, gk12⟩,
    ⟨PySem.W.mg_of X G ga13, gk13⟩,
    ⟨PySem.W.mg_of X G ga14, gk14⟩,
    ⟨PySem.W.mg_of X G ga15, gk15⟩,
    ⟨PySem.W.mg_of X G ga16, gk16⟩,
    ⟨PySem.W.mg_of X G ga17, gk17⟩,
    ⟨PySem.W.mg_of X G ga18, gk18⟩,
    ⟨PySem.W.mg_of X G ga19, gk19⟩,
    ⟨⟨PySem.W.mg_of X G ga1, gk1⟩, gx1, gs1, gt1⟩,
    PySem.W.exm_ref te1 te2 te3 gm1,
    PySem.W.exm_ref gs1 hq1 gt1 hm1,
    ⟨⟨PySem.W.mg_of X G ga2, gk2⟩, gx2, gs2, gt2⟩,
    PySem.W.exm_ref te1 te2 te3 gm2,
    PySem.W.exm_ref gs2 hq2 gt2 hm2,
    ⟨⟨PySem.W.mg_of X G ga3, gk3⟩, gx3, gs3, gt3⟩,
    PySem.W.exm_ref te1 te2 te3 gm3,
    ⟨⟨PySem.W.mg_of X G ga4, gk4⟩, gx4, gs4, gt4⟩,
    PySem.W.exm_ref te1 te2 te3 gm4,
    PySem.W.exm_ref gs4 hq4 gt4 hm4,
    ⟨⟨PySem.W.mg_of X G ga6, gk6⟩, gx6, gs6, gt6⟩,
    PySem.W.exm_ref te1 te2 te3 gm6,
    PySem.W.exm_ref gs6 hq6 gt6 hm6,
    ⟨⟨PySem.W.mg_of X G ga7, gk7⟩, gx7, gs7, gt7⟩,
    PySem.W.exm_ref te1 te2 te3 gm7,
    ⟨⟨PySem.W.mg_of X G ga8, gk8⟩, gx8, gs8, gt8⟩,
    PySem.W.exm_ref te1 te2 te3 gm8,
    PySem.W.exm_ref gs8 hq8 gt8 hm8,
    ⟨⟨PySem.W.mg_of X G ga9, gk9⟩, gx9, gs9, gt9⟩,
    PySem.W.exm_ref te1 te2 te3 gm9,
    PySem.W.exm_ref gs9 hq9 gt9 hm9,
    ⟨⟨PySem.W.mg_of X G ga10, gk10⟩, gx10, gs10, gt10⟩,
    PySem.W.exm_ref te1 te2 te3 gm10,
    PySem.W.exm_ref gs10 hq10 gt10 hm10,
    ⟨⟨PySem.W.mg_of X G ga11, gk11⟩, gx11, gs11, gt11⟩,
    PySem.W.exm_ref te1 te2 te3 gm11,
    PySem.W.exm_ref gs11 hq11 gt11 hm11,
    ⟨⟨PySem.W.mg_of X G ga12, gk12⟩, gx12, gs12, gt12⟩,
    PySem.W.exm_ref te1 te2 te3 gm12,
    PySem.W.exm_ref te1 te2 te3 gm15,
    If15,
    _,
    fun_mk (st := s_BadText_init) Il15 Ic15 Ik15,
    (fun_mk (st := s_BadText_init) Il15 Ic15 Ik15).binds fun _ _ _ _ _ _ us hl => match us, hl with | [_, _], _ => rfl,
    ⟨⟨Jn15, Jq15, JN15, Jb15, JB15, Js15, Ju15, Ja15, Jc15, Jd15, J015, J115, J215, J315, J515, Jl15, Jr15⟩, Js15a, gs15, gt15, gk15⟩,
    ⟨Jg15, Jh15, gs15, Jj15⟩,
    Ji15,
    Jt15,
    Jf15,
    PySem.W.exm_ref gs15 Jj15 gt15 Jm15,
    ⟨Kb15_1, Kb15_2, Kb15_3⟩,
    If16,
    _,
    fun_mk (st := s_NoEntry_init) Il16 Ic16 Ik16,
    (fun_mk (st := s_NoEntry_init) Il16 Ic16 Ik16).binds fun _ _ _ _ _ _ us hl => match us, hl with | [_, _], _ => rfl,
    ⟨⟨Jn16, Jq16, JN16, Jb16, Js16, Ju16, Ja16, Jc16, Jd16, J016, J116, J216, J316, J516, Jl16⟩, Js16a, gs16, gt16, gk16⟩,
    ⟨Jg16, Jh16, gs16, Jj16⟩,
    Ji16,
    Jt16,
    Jf16,
    PySem.W.exm_ref gs16 Jj16 gt16 Jm16,
    Jv16,
    PySem.W.mg_none_of X G Jz16,
    Jx16,
    Jy16,
    PySem.W.exm_ref gs16 Jj16 gt16 Jq1_16,
    PySem.W.exm_ref gs16 Jj16 gt16 Jq2_16,
    PySem.W.exm_ref gs16 Jj16 gt16 Jq3_16,
    PySem.W.exm_ref gs16 Jj16 gt16 Jq4_16,
    PySem.W.exm_ref gs16 Jj16 gt16 Jq6_16,
    PySem.W.exm_ref gs16 Jj16 gt16 Jq7_16,
    PySem.W.exm_ref gs16 Jj16 gt16 Jq8_16,
    PySem.W.exm_ref gs16 Jj16 gt16 Jq9_16,
    PySem.W.exm_ref gs16 Jj16 gt16 Jq10_16,
    PySem.W.exm_ref gs16 Jj16 gt16 Jq11_16,
    PySem.W.exm_ref gs16 Jj16 gt16 Jq12_16,
    PySem.W.exm_ref gs16 Jj16 gt16 Jq15_16,
    xm,
    tnd⟩)⟩
  · exact .of_eq rfl
  · simp only [List.mem_cons, List.not_mem_nil, or_false] at hp
    have e := hp
    · rw [e]; exact hH (cO0, PO0) (List.Mem.head _)
end C_k56
theorem PySem.Challenge.cw_cotide_k56_full_at_the_desk_holds : PySem.Challenge.rw_cotide_k56_full_at_the_desk.Holds :=
  C_k56.head_run @C_k56.all_mk
