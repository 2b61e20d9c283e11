import PyProof.Rows.All
import Wide.All
import OpenK.AllK
import Wide.FinOn
import HandS.ForMost
import HandS.Lambda
import HandS.ExcInit
import HandS.TupAny
import HandS.Property
import HandS.RaiseMore
import HandS.IsInst
import HandS.MakeKw
import HandS.Deep
import HandS.OwnEq
import HandS.NamedTupSort
import HandS.Small
import KE.KFmtOwn
import KE.KCallOwn
import KE.KFromBytes
import PyProof.ReprRoads
import HandS.MakeKwOnly
import HandS.Style
import HandS.SetTxt0
import HandS.SetBool
import HandS.TupSets
import HandS.Strs
import HandS.TryOnly
import HandS.FStr
import HandS.Defaults
import HandS.Text
import PyProof.StrBlock2
import PyProof.Rows.StrMul
import HandS.Zip
import HandS.DictComp
import HandS.TupMul
import KE.KExcIs
import HandS.ExcOwn
import PyProof.ExcBaseAll.LookupError
import PyProof.ExcBaseAll.ArithmeticError
import HandS.Iter
import HandS.WideBits
import PyProof.NoPylong
import KE.KEqDict
import HandS.Conv
import HandS.WordsExc
import HandS.HotCalls
import HandS.ExcIs
import HandS.ExcField
import KE.KTryMore
import HandS.NestedK
import HandS.EndTab
import KE.KNestM
import HandS.ClsMeth
import KE.KxField
import KE.KDictZip
import KE.GoesMore
import KE.DataMinMax
import HandS.More
import HandS.ExcValue
import KE.GoesRev
import KE.SortKeyHeap
import KE.KDictWalk
import HandS.Wide
import PyProof.NeKinds
import PySem.Challenge.RW_cornerways_k17_equal_and_unlike_values
import KE.KStateDown
import HandS.Head0
import HandS.Head1
import HandS.Head2
set_option Elab.async false
set_option linter.all false
set_option maxRecDepth 100000
set_option maxHeartbeats 1000000
namespace K17
open PySem PySem.Spec PyProof.Rows L2
/-! ### the head: the top by one run -/
abbrev rowR : PySem.W.OpenRow := PySem.W.OpenLaw.row PySem.Challenge.rw_cornerways_k17_equal_and_unlike_values
abbrev qvR : Program := PySem.W.view rowR.prog [118]
def namesR0 : List Str := ["_wall", "BadValue", "InvalidText", "InvalidName", "InvalidClaim", "NotBorders", "NotARoom", "InvalidSizes", "BadName", "UnknownName", "NoAnswer", "TooMany", "NotAsked", "Broken", "LETTERS", "DIGITS", "LONGEST_WORD", "TURNS", "MOST_CLAIMED", "is_any_integer", "is_integer", "is_claimed_cost", "is_letters", "is_word"]
def namesR1 : List Str := ["is_among", "is_worded", "number_of", "MOST_SIGNS", "MOST_PIECES", "MOST_CORNERS", "MOST_NAMES", "MOST_LONG", "MOST_COST", "MOST_SIDES", "MOST_PLUS", "MOST_SIZE", "MOST_TABLE", "signs_of", "states_of", "piece_of", "corner_of", "names_of", "pieces_fit", "corners_fit", "parts_of", "Borders", "SIDE_LETTERS", "plus_of"]
def namesR2 : List Str := ["side_of", "sides_of", "check_sizes", "lengths_of", "Room", "NO_COST", "check_borders", "state_behind", "steps_into", "next_row", "joined", "cost_or_none", "Prices", "calendar", "check_room", "arrivals_of", "legs_of", "checked_legs", "rows_behind", "back_costs", "Links", "border_links", "least_cost", "least_plus"]
def namesR3 : List Str := ["first_numbers", "first_sizes", "table_bounds", "check_table", "sizes_below", "costs_below", "failing", "common_period", "costs_of_both", "parting", "CLAIMS", "names_in", "room_in", "is_claim", "answer", "ask", "check_title", "Page", "Book", "_law_spring", "_law_take", "_law_word", "_law_words", "_law_state"]
def namesR4 : List Str := ["_law_piece", "_law_joint", "_law_spec", "_law_piece_row", "_law_joint_row", "_law_rows", "_law_joined", "_law_shuts", "_law_shut_row", "_law_plan", "_law_pair", "_law_right"]
def namesR : List Str := namesR0 ++ (namesR1 ++ (namesR2 ++ (namesR3 ++ (namesR4))))
theorem head_kk {r : PySem.W.OpenRow} {q : Program} {M : Nat} {loose : List Str} {d : DefRec} {kwd : List (Str × PySem.Expr)} {K : Params → PySem.W.Frag} {as : List Addr} {e : ∀ P, as = (K P).map (·.1)} {h : PySem.W.Hook} (_ : h = PySem.W.kHook K as e)
    (e1 : PySem.W.opening r.prog = PySem.W.plainProg r.prog.main.scope.names) (f : ∀ s, fenceModules? r.prog s = some s) (run : ∀ w, HandSHeadRun.RunEq r q (PySem.W.kHook K as e) (fun s => as.map (HandSHeadRun.getT s)) M loose w)
    (hdef : PySem.W.defOf q r.name = some (d, kwd)) (hp : r.prog.theDef r.name = some (d.params, d.body, d.scope)) (hk : PySem.W.kwWritten? d.params.kwonlyargs d.params.kw_defaults = some kwd)
    (hwr : (!r.writes || r.records.isEmpty) = true) (k1 : r.wellSaid = true) (ok : (PySem.W.chainsOk q && PySem.W.opensWell r.prog && (PySem.W.frees r.toRowW && r.within.isEmpty)) = true) (hb : r.prog.bare) (hw : r.toRowW.promised)
    (call : PySem.W.WalkO q loose (PySem.W.XL q []) (PySem.W.kHook K as e).says r.toRowW d kwd fun f vs => PySem.call f vs) : r.Holds :=
  HandSHeadRun.head_any (fun s => by
    show as.map (HandSHeadRun.getT s) = as.map s.abs.heap.get?
    rw [show HandSHeadRun.getT s = s.abs.heap.get? from funext (HandSHeadRun.getT_eq s)]) e1 f run hdef hp hk hwr k1 ok hb hw call
end K17
section
open PySem PySem.W PyProof.Rows
local macro_rules | `(tactic| o_head $h:term) => `(tactic| (exfalso; assumption))
set_option maxRecDepth 100000 in
set_option maxHeartbeats 0 in
theorem K17.pre (F : False) : PySem.Challenge.rw_cornerways_k17_equal_and_unlike_values.Holds := by
  w_on; o_law; k_head
end
set_option maxRecDepth 100000 in
set_option maxHeartbeats 0 in
theorem K17.runT : ∀ w, HandSHeadRun.RunEq K17.rowR K17.qvR (PySem.W.kHook K17.pre.heap_39 [2, 3, 15, 17, 18, 20, 21, 22, 29, 30, 31, 32, 35, 42, 44, 45, 47, 48, 49, 50, 51, 54, 61, 63, 64, 66, 67, 68, 69, 70, 73, 80, 82, 83, 85, 86, 87, 88, 89, 92, 99, 101, 102, 104, 105, 106, 107, 108, 111, 118, 120, 121, 123, 124, 125, 126, 127, 130, 137, 139, 140, 142, 143, 144, 145, 146, 149, 156, 157, 158, 159, 162, 169, 171, 172, 174, 175, 176, 177, 178, 181, 188, 189, 190, 191, 194, 201, 203, 204, 206, 207, 208, 209, 210, 213, 220, 222, 223, 225, 226, 227, 228, 229, 232, 239, 241, 242, 244, 245, 246, 247, 248, 251, 252, 254, 255, 257, 258, 259, 261, 262, 264, 265, 266, 268, 269, 271, 272, 273, 276, 277, 278, 280, 281, 283, 284, 285, 287, 288, 290, 291, 292, 294, 295, 297, 298, 299, 301, 302, 304, 305, 306, 308, 309, 311, 312, 313, 316, 317, 318, 320, 321, 323, 324, 325, 327, 328, 330, 331, 332, 335, 336, 337, 339, 340, 342, 343, 344, 346, 347, 349, 350, 351, 354, 355, 363, 365, 366, 368, 369, 370, 372, 373, 375, 376, 377, 378, 380, 381, 383, 384, 385, 386, 388, 389, 391, 392, 393, 394, 396, 397, 399, 400, 401, 402, 404, 405, 407, 408, 409, 410, 412, 413, 415, 416, 417, 418, 420, 421, 423, 424, 425, 427, 428, 430, 431, 432, 434, 435, 437, 438, 439, 441, 442, 444, 445, 446, 447, 448, 449, 450, 453, 454, 456, 457, 459, 460, 461, 463, 464, 466, 467, 468, 471, 472, 473, 475, 476, 478, 479, 480, 483, 484, 492, 495, 496, 497, 498, 500, 501, 503, 504, 505, 506, 507, 508, 510, 511, 513, 514, 515, 516, 518, 519, 521, 522, 523, 524, 526, 527, 529, 530, 531, 532, 534, 535, 537, 538, 539, 541, 542, 544, 545, 546, 548, 549, 551, 552, 553, 555, 556, 558, 559, 560, 561, 562, 563, 564, 567, 569, 570, 572, 573, 574, 576, 577, 579, 580, 581, 584, 585, 586, 589, 590, 591, 593, 594, 596, 597, 598, 600, 601, 603, 604, 612, 615, 616, 617, 619, 620, 622, 623, 624, 626, 627, 629, 630, 631, 634, 635, 636, 638, 639, 641, 642, 643, 644, 645, 646, 647, 650, 653, 654, 655, 657, 658, 660, 661, 662, 665, 666, 667, 670, 671, 672, 674, 675, 677, 678, 679, 682, 683, 684, 687, 688, 696, 699, 700, 701, 703, 704, 706, 707, 708, 711, 712, 713, 716, 717, 718, 721, 722, 723, 725, 726, 728, 729, 730, 733, 734, 735, 737, 738, 740, 741, 742, 743, 744, 745, 746, 749, 751, 752, 754, 755, 756, 758, 759, 761, 762, 763, 766, 767, 768, 771, 772, 773, 776, 777, 778, 781, 782, 783, 785, 786, 788, 789, 790, 793, 794, 795, 798, 799, 800, 802, 803, 805, 806, 807, 809, 810, 812, 813, 814, 817, 818, 819, 821, 822, 824, 825, 826, 827, 828, 829, 830, 832, 833, 835, 836, 837, 839, 840, 842, 843, 844, 846, 847, 849, 850, 851, 853, 854, 856, 857, 858, 860, 861, 863, 864, 865, 867, 868, 870, 871, 879, 881, 882, 884, 885, 886, 887, 888, 889, 890, 900, 902, 903, 905, 906, 907, 909, 910, 912, 913, 914, 916, 917, 919, 920, 921, 923, 924, 926, 927, 928, 930, 931, 933, 934, 935, 937, 938, 940, 941, 942, 944, 945, 947, 948, 949, 951, 952, 954, 955, 956, 958, 959, 961, 962, 963, 965, 966, 968, 969, 970, 971, 973, 974, 976, 977, 978, 979, 981, 982, 984, 985, 986, 987, 989, 990, 992, 993, 994, 996, 997, 999, 1000, 1001, 1003, 1004, 1006, 1007, 1008, 1010, 1011, 1013, 1014, 1015, 1017, 1018, 1020, 1021, 1022, 1024, 1025, 1027, 1028, 1029, 1030, 1031, 1032, 1033, 1036, 1038, 1039, 1041, 1042, 1043, 1045, 1046, 1048, 1049, 1050, 1053, 1054, 1055, 1057, 1058, 1060, 1061, 1062, 1064, 1065, 1067, 1068, 1069, 1071, 1072, 1074, 1075, 1076, 1078, 1079, 1081, 1082, 1083, 1086, 1087, 1088, 1090, 1091, 1093, 1094, 1095, 1097, 1098, 1100, 1101, 1102, 1105, 1106, 1107, 1109, 1110, 1112, 1113, 1114, 1116, 1117, 1119, 1120, 1121, 1123, 1124, 1126, 1127, 1128, 1131, 1132, 1133, 1135, 1136, 1138, 1139, 1140, 1143, 1144, 1145, 1148, 1149] (fun _ => by kernel_rfl)) (fun s => ([2, 3, 15, 17, 18, 20, 21, 22, 29, 30, 31, 32, 35, 42, 44, 45, 47, 48, 49, 50, 51, 54, 61, 63, 64, 66, 67, 68, 69, 70, 73, 80, 82, 83, 85, 86, 87, 88, 89, 92, 99, 101, 102, 104, 105, 106, 107, 108, 111, 118, 120, 121, 123, 124, 125, 126, 127, 130, 137, 139, 140, 142, 143, 144, 145, 146, 149, 156, 157, 158, 159, 162, 169, 171, 172, 174, 175, 176, 177, 178, 181, 188, 189, 190, 191, 194, 201, 203, 204, 206, 207, 208, 209, 210, 213, 220, 222, 223, 225, 226, 227, 228, 229, 232, 239, 241, 242, 244, 245, 246, 247, 248, 251, 252, 254, 255, 257, 258, 259, 261, 262, 264, 265, 266, 268, 269, 271, 272, 273, 276, 277, 278, 280, 281, 283, 284, 285, 287, 288, 290, 291, 292, 294, 295, 297, 298, 299, 301, 302, 304, 305, 306, 308, 309, 311, 312, 313, 316, 317, 318, 320, 321, 323, 324, 325, 327, 328, 330, 331, 332, 335, 336, 337, 339, 340, 342, 343, 344, 346, 347, 349, 350, 351, 354, 355, 363, 365, 366, 368, 369, 370, 372, 373, 375, 376, 377, 378, 380, 381, 383, 384, 385, 386, 388, 389, 391, 392, 393, 394, 396, 397, 399, 400, 401, 402, 404, 405, 407, 408, 409, 410, 412, 413, 415, 416, 417, 418, 420, 421, 423, 424, 425, 427, 428, 430, 431, 432, 434, 435, 437, 438, 439, 441, 442, 444, 445, 446, 447, 448, 449, 450, 453, 454, 456, 457, 459, 460, 461, 463, 464, 466, 467, 468, 471, 472, 473, 475, 476, 478, 479, 480, 483, 484, 492, 495, 496, 497, 498, 500, 501, 503, 504, 505, 506, 507, 508, 510, 511, 513, 514, 515, 516, 518, 519, 521, 522, 523, 524, 526, 527, 529, 530, 531, 532, 534, 535, 537, 538, 539, 541, 542, 544, 545, 546, 548, 549, 551, 552, 553, 555, 556, 558, 559, 560, 561, 562, 563, 564, 567, 569, 570, 572, 573, 574, 576, 577, 579, 580, 581, 584, 585, 586, 589, 590, 591, 593, 594, 596, 597, 598, 600, 601, 603, 604, 612, 615, 616, 617, 619, 620, 622, 623, 624, 626, 627, 629, 630, 631, 634, 635, 636, 638, 639, 641, 642, 643, 644, 645, 646, 647, 650, 653, 654, 655, 657, 658, 660, 661, 662, 665, 666, 667, 670, 671, 672, 674, 675, 677, 678, 679, 682, 683, 684, 687, 688, 696, 699, 700, 701, 703, 704, 706, 707, 708, 711, 712, 713, 716, 717, 718, 721, 722, 723, 725, 726, 728, 729, 730, 733, 734, 735, 737, 738, 740, 741, 742, 743, 744, 745, 746, 749, 751, 752, 754, 755, 756, 758, 759, 761, 762, 763, 766, 767, 768, 771, 772, 773, 776, 777, 778, 781, 782, 783, 785, 786, 788, 789, 790, 793, 794, 795, 798, 799, 800, 802, 803, 805, 806, 807, 809, 810, 812, 813, 814, 817, 818, 819, 821, 822, 824, 825, 826, 827, 828, 829, 830, 832, 833, 835, 836, 837, 839, 840, 842, 843, 844, 846, 847, 849, 850, 851, 853, 854, 856, 857, 858, 860, 861, 863, 864, 865, 867, 868, 870, 871, 879, 881, 882, 884, 885, 886, 887, 888, 889, 890, 900, 902, 903, 905, 906, 907, 909, 910, 912, 913, 914, 916, 917, 919, 920, 921, 923, 924, 926, 927, 928, 930, 931, 933, 934, 935, 937, 938, 940, 941, 942, 944, 945, 947, 948, 949, 951, 952, 954, 955, 956, 958, 959, 961, 962, 963, 965, 966, 968, 969, 970, 971, 973, 974, 976, 977, 978, 979, 981, 982, 984, 985, 986, 987, 989, 990, 992, 993, 994, 996, 997, 999, 1000, 1001, 1003, 1004, 1006, 1007, 1008, 1010, 1011, 1013, 1014, 1015, 1017, 1018, 1020, 1021, 1022, 1024, 1025, 1027, 1028, 1029, 1030, 1031, 1032, 1033, 1036, 1038, 1039, 1041, 1042, 1043, 1045, 1046, 1048, 1049, 1050, 1053, 1054, 1055, 1057, 1058, 1060, 1061, 1062, 1064, 1065, 1067, 1068, 1069, 1071, 1072, 1074, 1075, 1076, 1078, 1079, 1081, 1082, 1083, 1086, 1087, 1088, 1090, 1091, 1093, 1094, 1095, 1097, 1098, 1100, 1101, 1102, 1105, 1106, 1107, 1109, 1110, 1112, 1113, 1114, 1116, 1117, 1119, 1120, 1121, 1123, 1124, 1126, 1127, 1128, 1131, 1132, 1133, 1135, 1136, 1138, 1139, 1140, 1143, 1144, 1145, 1148, 1149] : List PySem.Addr).map (HandSHeadRun.getT s)) 30000 K17.namesR w := fun w os => by kernel_rfl
/-! # Values as plain data, mutable objects as numbered cells: readings over data alone -/
namespace Cw
open PySem PySem.Spec PyProof.Rows L2

/-- a lambda: its object, its code object, its text -/
structure LamI where
  f : Addr
  c' : Addr
  q : Str
  ps : Arguments
  body : Expr
  sc : Scope
  cl : List (Str × Addr)
/-- the object at f is that lambda -/
def LamI.o (L : LamI) : HO := .ext fun h => ∃ (od : Option Addr) (sl : Array (Option Value)) (pm ctv : Value), h.get? L.f = some (⟨.type "function", od, .func (PySem.W.kla_fn "<lambda>" L.q L.ps L.body L.sc L.cl pm (.ref L.c') ctv), sl⟩ : Obj)
/-- plain data; `cell k` is the k-th mutable object at hand -/
inductive D where
  | non | bl (b : Bool) | int (i : Int) | str (x : Str)
  | tup (ds : List D) | lst (ds : List D) | fl (ds : List D) | cell (k : Nat)
  | ins (C : Addr) (ns : List Str) (ds : List D)
  | dct (ks : List Key) (ds : List D)
  | dcT (ks : List (List Key)) (ds : List D)
  | exc (a dd C : Addr) (ns : List Str) (ds : List D)
  | exm (C : Addr) (ns : List Str) (ds : List D)
  | ttp (ds : List D)
  | fn (L : LamI) (ds : List D) (vs : List V)
  | insA (a C : Addr) (ns : List Str) (ds : List D)
  | raw (v : V)

/-- a mutable object's content -/
inductive Cell where
  | lst (ds : List D)
  | obj (C : Addr) (ns : List Str) (ds : List D)
  | dct (ks : List Key) (ds : List D)
  | dcT (ks : List (List Key)) (ds : List D)

/-- where the cells stand; what the callers hide -/
structure Ad where
  ix : List Addr
  hd : List Addr
/-- the heap without the mutable objects -/
def hid (m : Ad) (H : Hp) : Hp := fun b => if b ∈ m.ix ∨ b ∈ m.hd then none else H b
theorem hid_some {m : Ad} {H : Hp} {b : Addr} {o : HO} (h : hid m H b = some o) : (b ∉ m.ix ∧ b ∉ m.hd) ∧ H b = some o := by
  unfold hid at h
  by_cases hb : b ∈ m.ix ∨ b ∈ m.hd
  · rw [if_pos hb] at h; cases h
  · rw [if_neg hb] at h; exact ⟨⟨fun z => hb (.inl z), fun z => hb (.inr z)⟩, h⟩
theorem hid_of {m : Ad} {H : Hp} {b : Addr} (h : b ∉ m.ix ∧ b ∉ m.hd) : hid m H b = H b := by
  unfold hid; rw [if_neg (fun z => z.elim h.1 h.2)]

def Ex (H H' : Hp) : Prop := ∀ a o, H a = some o → H' a = some o
theorem Ex.refl (H : Hp) : Ex H H := fun _ _ h => h
theorem Ex.trans {H H1 H2 : Hp} (a : Ex H H1) (b : Ex H1 H2) : Ex H H2 := fun x o h => b x o (a x o h)
theorem Ex.new {H : Hp} {p : Addr} {o : HO} (h : H p = none) : Ex H (upd H p o) := fun a u e => by
  rw [upd_ne (ne_of_none e h)]; exact e
theorem ex_rd {H H' : Hp} {a : Addr} {u : HO} (e : Ex H H') (h : Rd H a u) : Rd H' a u := by
  rcases h with h | ⟨o, h⟩
  · exact .inl (e a _ h)
  · exact .inr ⟨o, e a _ h⟩
theorem ex_l {K : PySem.W.Frag} {H H' : Hp} {a : Addr} {xs : List V} (e : Ex H H') (h : SqL K H a xs) : SqL K H' a xs := by
  rcases h with h | h
  · exact .inl (ex_rd e h)
  · exact .inr h
theorem ex_t {K : PySem.W.Frag} {H H' : Hp} {a : Addr} {xs : List V} (e : Ex H H') (h : SqT K H a xs) : SqT K H' a xs := by
  rcases h with h | h
  · exact .inl (ex_rd e h)
  · exact .inr h
theorem ex_hid (m : Ad) (H : Hp) : Ex (hid m H) H := fun _ _ h => (hid_some h).2

/-- the dict of an exception that was made: none as long as it has no attribute -/
def XdAt (H : Hp) (od : Option Addr) (fs : List (Str × V)) : Prop := match od with
  | none => fs = []
  | some dx => H dx = some (.xd fs)
theorem XdAt.map {H H' : Hp} {od : Option Addr} {fs : List (Str × V)} (k : ∀ b, H b = some (.xd fs) → H' b = some (.xd fs)) (h : XdAt H od fs) : XdAt H' od fs := by
  cases od with
  | none => exact h
  | some dx => exact k dx h
/-! ### which value is which data -/
section
variable (K : PySem.W.Frag) (m : List Addr) (H : Hp)
mutual
def R : D → V → Prop
  | .non, v => v = .non
  | .bl b, v => v = .bl b
  | .int i, v => v = .int i
  | .str x, v => v = .str x
  | .tup ds, v => ∃ a xs, v = .ref a ∧ SqT K H a xs ∧ RL ds xs
  | .lst ds, v => ∃ a xs, v = .ref a ∧ H a = some (.lst xs) ∧ RL ds xs
  | .fl ds, v => ∃ a xs, v = .ref a ∧ SqL K H a xs ∧ RL ds xs
  | .cell k, v => ∃ a, m[k]? = some a ∧ v = .ref a
  | .ins C ns ds, v => ∃ a dx fs, v = .ref a ∧ H a = some (.ins C dx fs) ∧ fs.map (·.1) = ns ∧ RL ds (fs.map (·.2))
  | .dct ks ds, v => ∃ a kvs, v = .ref a ∧ Rd H a (.dK kvs) ∧ kvs.map (·.1) = ks ∧ RL ds (kvs.map (·.2))
  | .dcT ks ds, v => ∃ a kvs, v = .ref a ∧ Rd H a (.dT kvs) ∧ kvs.map (·.1) = ks ∧ RL ds (kvs.map (·.2))
  | .exc a dd _ ns ds, v => ∃ fs, v = .ref a ∧ H dd = some (.xd fs) ∧ fs.map (·.1) = ns ∧ RL ds (fs.map (·.2))
  | .exm C ns ds, v => ∃ a od fs, v = .ref a ∧ H a = some (exo a C od) ∧ XdAt H od fs ∧ fs.map (·.1) = ns ∧ RL ds (fs.map (·.2))
  | .ttp ds, v => ∃ a xs, v = .ref a ∧ H a = some (.tup xs) ∧ RL ds xs
  | .fn L ds vs, v => v = .ref L.f ∧ H L.f = some L.o ∧ H L.c' = some (LamX.CodeO L.c' L.q) ∧ RL ds vs
  | .insA a C ns ds, v => ∃ dx fs, v = .ref a ∧ H a = some (.ins C dx fs) ∧ fs.map (·.1) = ns ∧ RL ds (fs.map (·.2))
  | .raw w, v => v = w
def RL : List D → List V → Prop
  | [], xs => xs = []
  | d :: ds, xs => ∃ x r, xs = x :: r ∧ R d x ∧ RL ds r
end
end
section
variable {K : PySem.W.Frag} {m m' : List Addr} {H H' : Hp}
mutual
theorem R.mono (e : Ex H H') (p : ∀ (k : Nat) a, m[k]? = some a → m'[k]? = some a) : ∀ (d : D) (v : V), R K m H d v → R K m' H' d v
  | .non, _, h => h
  | .bl _, _, h => h
  | .int _, _, h => h
  | .str _, _, h => h
  | .tup ds, _, ⟨a, xs, e1, h1, h2⟩ => ⟨a, xs, e1, ex_t e h1, RL.mono e p ds xs h2⟩
  | .lst ds, _, ⟨a, xs, e1, h1, h2⟩ => ⟨a, xs, e1, e a _ h1, RL.mono e p ds xs h2⟩
  | .fl ds, _, ⟨a, xs, e1, h1, h2⟩ => ⟨a, xs, e1, ex_l e h1, RL.mono e p ds xs h2⟩
  | .cell k, _, ⟨a, h1, h2⟩ => ⟨a, p k a h1, h2⟩
  | .ins _ _ ds, _, ⟨a, dx, fs, e1, h1, h2, h3⟩ => ⟨a, dx, fs, e1, e a _ h1, h2, RL.mono e p ds _ h3⟩
  | .dct _ ds, _, ⟨a, kvs, e1, h1, h2, h3⟩ => ⟨a, kvs, e1, ex_rd e h1, h2, RL.mono e p ds _ h3⟩
  | .dcT _ ds, _, ⟨a, kvs, e1, h1, h2, h3⟩ => ⟨a, kvs, e1, ex_rd e h1, h2, RL.mono e p ds _ h3⟩
  | .exc _ dd _ _ ds, _, ⟨fs, e1, h1, h5, h6⟩ => ⟨fs, e1, e dd _ h1, h5, RL.mono e p ds _ h6⟩
  | .exm _ _ ds, _, ⟨a, od, fs, e1, h1, h2, h5, h6⟩ => ⟨a, od, fs, e1, e a _ h1, h2.map (fun b z => e b _ z), h5, RL.mono e p ds _ h6⟩
  | .ttp ds, _, ⟨a, xs, e1, h1, h2⟩ => ⟨a, xs, e1, e a _ h1, RL.mono e p ds xs h2⟩
  | .fn L ds vs, _, ⟨e1, h1, h2, h3⟩ => ⟨e1, e _ _ h1, e _ _ h2, RL.mono e p ds vs h3⟩
  | .insA a _ _ ds, _, ⟨dx, fs, e1, h1, h2, h3⟩ => ⟨dx, fs, e1, e a _ h1, h2, RL.mono e p ds _ h3⟩
  | .raw _, _, h => h
theorem RL.mono (e : Ex H H') (p : ∀ (k : Nat) a, m[k]? = some a → m'[k]? = some a) : ∀ (ds : List D) (xs : List V), RL K m H ds xs → RL K m' H' ds xs
  | [], _, h => h
  | d :: ds, _, ⟨x, r, e1, h1, h2⟩ => ⟨x, r, e1, R.mono e p d x h1, RL.mono e p ds r h2⟩
end
theorem RL.length : ∀ {ds : List D} {xs : List V}, RL K m H ds xs → ds.length = xs.length
  | [], _, h => by cases (show _ = [] from h); rfl
  | d :: ds, _, ⟨x, r, e1, h1, h2⟩ => by subst e1; simp [RL.length h2]
theorem RL.get : ∀ {ds : List D} {xs : List V} {i : Nat} {d : D}, RL K m H ds xs → ds[i]? = some d → ∃ x, xs[i]? = some x ∧ R K m H d x
  | [], _, _, _, _, e => by simp at e
  | d :: ds, _, 0, _, ⟨x, r, e1, h1, h2⟩, e => by subst e1; simp at e; subst e; exact ⟨x, rfl, h1⟩
  | d :: ds, _, i + 1, _, ⟨x, r, e1, h1, h2⟩, e => by
    subst e1
    obtain ⟨y, h3, h4⟩ := RL.get (i := i) h2 (by simpa using e)
    exact ⟨y, by simpa using h3, h4⟩
theorem RL.append : ∀ {ds es : List D} {xs ys : List V}, RL K m H ds xs → RL K m H es ys → RL K m H (ds ++ es) (xs ++ ys)
  | [], _, _, _, h, h' => by cases (show _ = [] from h); exact h'
  | d :: ds, _, _, _, ⟨x, r, e1, h1, h2⟩, h' => by subst e1; exact ⟨x, r ++ _, rfl, h1, RL.append h2 h'⟩
theorem RL.take : ∀ {ds : List D} {xs : List V} (n : Nat), RL K m H ds xs → RL K m H (ds.take n) (xs.take n)
  | [], _, n, h => by cases (show _ = [] from h); simp; exact rfl
  | d :: ds, _, 0, ⟨x, r, e1, h1, h2⟩ => by subst e1; exact rfl
  | d :: ds, _, n + 1, ⟨x, r, e1, h1, h2⟩ => by subst e1; exact ⟨x, r.take n, rfl, h1, RL.take n h2⟩
theorem RL.drop : ∀ {ds : List D} {xs : List V} (n : Nat), RL K m H ds xs → RL K m H (ds.drop n) (xs.drop n)
  | [], _, n, h => by cases (show _ = [] from h); simp; exact rfl
  | d :: ds, _, 0, h => h
  | d :: ds, _, n + 1, ⟨x, r, e1, h1, h2⟩ => by subst e1; exact RL.drop n h2
theorem RL.set {d : D} {x : V} (hx : R K m H d x) : ∀ {ds : List D} {xs : List V} (n : Nat), RL K m H ds xs → RL K m H (ds.set n d) (xs.set n x)
  | [], _, n, h => by cases (show _ = [] from h); exact rfl
  | d :: ds, _, 0, ⟨y, r, e1, h1, h2⟩ => by subst e1; exact ⟨x, r, rfl, hx, h2⟩
  | d :: ds, _, n + 1, ⟨y, r, e1, h1, h2⟩ => by subst e1; exact ⟨y, r.set n x, rfl, h1, RL.set hx n h2⟩
end

/-! ### the mutable objects and the slots -/
abbrev RR (K : PySem.W.Frag) (H : Hp) (m : Ad) (d : D) (v : V) : Prop := R K m.ix (hid m H) d v
abbrev RRL (K : PySem.W.Frag) (H : Hp) (m : Ad) (ds : List D) (vs : List V) : Prop := RL K m.ix (hid m H) ds vs
def CellAt (K : PySem.W.Frag) (m : Ad) (H : Hp) (a : Addr) : Cell → Prop
  | .lst ds => ∃ xs, H a = some (.lst xs) ∧ RRL K H m ds xs
  | .obj C ns ds => ∃ dx fs, H a = some (.ins C dx fs) ∧ fs.map (·.1) = ns ∧ RRL K H m ds (fs.map (·.2))
  | .dct ks ds => ∃ kvs, H a = some (.dK kvs) ∧ kvs.map (·.1) = ks ∧ RRL K H m ds (kvs.map (·.2))
  | .dcT ks ds => ∃ kvs, H a = some (.dT kvs) ∧ kvs.map (·.1) = ks ∧ RRL K H m ds (kvs.map (·.2))
/-- no tuple -/
def Mu (o : HO) : Prop := ∀ xs, o ≠ .tup xs
/-! ### tables of code objects -/
/-- the defs that make lambdas -/
def lamFns : List Str := []
/-- the places of lambdas that stand in other defs than "_law_right" -/
def lamPos : List (Nat × Nat × String) := [(420, 37, "enough"), (486, 31, "mending"), (487, 31, "mending"), (500, 0, "_law_told"), (500, 37, "enough"), (501, 0, "_law_told"), (502, 0, "_law_told"), (505, 0, "_law_told"), (506, 0, "_law_told"), (507, 0, "_law_told"), (572, 17, "_law_told"), (573, 21, "_law_told"), (574, 21, "_law_told"), (575, 21, "_law_told"), (576, 21, "_law_told"), (577, 21, "_law_told"), (673, 34, "_law_all"), (684, 34, "_law_all"), (727, 27, "_law_do"), (729, 27, "_law_do"), (731, 27, "_law_do"), (733, 27, "_law_do"), (734, 23, "_law_do"), (743, 34, "_law_oblongs"), (744, 38, "_law_oblongs"), (745, 38, "_law_oblongs"), (762, 27, "_law_act"), (764, 27, "_law_act"), (766, 27, "_law_act"), (768, 27, "_law_act"), (769, 23, "_law_act"), (770, 27, "_law_act"), (772, 27, "_law_act"), (773, 23, "_law_act"), (775, 28, "_law_refused"), (779, 34, "_law_named"), (780, 38, "_law_named"), (783, 27, "_law_act"), (783, 42, "_law_named"), (784, 42, "_law_named"), (785, 27, "_law_act"), (787, 27, "_law_act"), (787, 38, "_law_named"), (789, 27, "_law_act"), (790, 23, "_law_act"), (790, 42, "_law_named"), (798, 38, "_law_turn"), (799, 42, "_law_turn"), (805, 38, "_law_turn"), (806, 42, "_law_turn"), (807, 42, "_law_turn"), (808, 42, "_law_turn"), (809, 42, "_law_turn"), (813, 34, "_law_turn"), (814, 38, "_law_turn"), (816, 42, "_law_turn"), (817, 42, "_law_turn"), (858, 20, "_law_within"), (859, 31, "_law_within")]
/-- what the lambda at that place is called -/
def lamQ (line col : Nat) : Str := (match lamPos.find? fun p => Nat.beq p.1 line && Nat.beq p.2.1 col with | some p => Str.ofString p.2.2 | none => Str.ofString "_law_right") ++ ".<locals>." ++ "<lambda>"
def tabOfCode (o : Obj) : Option Addr := match o.data with
  | .fields vs => match (vs[1]? : Option Value), (vs[11]? : Option Value) with
    | some (.str n _), some (.ref P) => if lamFns.contains n then some P else none
    | _, _ => none
  | _ => none
def tabsK (K : PySem.W.Frag) : List Addr := K.filterMap fun p => tabOfCode p.2
/-- the table at P: each code object that it tells bears the name that is due at its place -/
def TabK (m : Ad) (H : Hp) (P : Addr) : Prop := ∃ ps : Array Value, H P = some (.tbl ps) ∧ TriplesOk ps.toList ∧ ∀ (pos : Pos) (cv : Value), codeAmong pos ps.toList = some cv → ∃ c, cv = .ref c ∧ hid m H c = some (LamX.CodeO c (lamQ pos.line pos.col))
theorem TabK.keep {m m' : Ad} {H H' : Hp} {P : Addr} (t : TabK m H P) (e : H' P = H P) (x : Ex (hid m H) (hid m' H')) : TabK m' H' P := by
  obtain ⟨ps, h1, h2, h3⟩ := t
  exact ⟨ps, e.trans h1, h2, fun pos cv hc => let ⟨c, e1, e2⟩ := h3 pos cv hc; ⟨c, e1, x c _ e2⟩⟩
theorem TabK.keep2 {m m' : Ad} {H H' : Hp} {P : Addr} (t : TabK m H P) (e : ∀ o, H P = some o → H' P = some o) (x : Ex (hid m H) (hid m' H')) : TabK m' H' P := by
  obtain ⟨ps, h1, h2, h3⟩ := t
  exact ⟨ps, e _ h1, h2, fun pos cv hc => let ⟨c, e1, e2⟩ := h3 pos cv hc; ⟨c, e1, x c _ e2⟩⟩
/-- a table has grown -/
def TabG (m : Ad) (H : Hp) (m' : Ad) (H' : Hp) (b : Addr) : Prop := (∃ ps ps', H b = some (.tbl ps) ∧ H' b = some (.tbl ps')) ∧ (TabK m H b → TabK m' H' b)
structure CR (K : PySem.W.Frag) (H : Hp) (m : Ad) (c : List Cell) : Prop where
  len : m.ix.length = c.length
  nd : m.ix.Nodup
  at_ : ∀ (k : Nat) ce, c[k]? = some ce → ∃ a, m.ix[k]? = some a ∧ CellAt K m H a ce
  hs : ∀ b ∈ m.hd, ∃ o, H b = some o ∧ Mu o
  dj : ∀ a ∈ m.ix, a ∉ m.hd
  tk : ∀ p ∈ tabsK K, p ∈ m.hd ∧ TabK m H p
/-- the slots: none says nothing -/
abbrev Env := List (Option D)
structure SR (K : PySem.W.Frag) (σ : L2.St) (H : Hp) (m : Ad) (ρ : Env) (c : List Cell) : Prop where
  cr : CR K H m c
  len : ρ.length = σ.length
  sl : ∀ (i : Nat) d, ρ[i]? = some (some d) → ∃ v, σ[i]? = some (some v) ∧ RR K H m d v
/-- what is kept -/
structure Le (m : Ad) (H : Hp) (m' : Ad) (H' : Hp) : Prop where
  pre : ∀ (k : Nat) a, m.ix[k]? = some a → m'.ix[k]? = some a
  ex : Ex (hid m H) (hid m' H')
  hd : m'.hd = m.hd
  hk : ∀ b ∈ m.hd, H' b = H b ∨ TabG m H m' H' b
  fr : ∀ a ∈ m'.ix, a ∈ m.ix ∨ H a = none
  al : ∀ a, H' a = none → H a = none
theorem upd_none {H : Hp} {p a : Addr} {o : HO} (h : upd H p o a = none) : H a = none := by
  by_cases e : a = p
  · subst e; rw [upd_same] at h; cases h
  · rw [upd_ne e] at h; exact h
section
variable {K : PySem.W.Frag} {m m' m2 : Ad} {H H' H2 : Hp} {σ : L2.St} {ρ : Env} {c c' : List Cell}
theorem Le.refl (m : Ad) (H : Hp) : Le m H m H := ⟨fun _ _ h => h, Ex.refl _, rfl, fun _ _ => .inl rfl, fun _ h => .inl h, fun _ h => h⟩
theorem hk_trans {x : Addr} (ea : Ex (hid m H) (hid m' H')) (eb : Ex (hid m' H') (hid m2 H2)) (a : H' x = H x ∨ TabG m H m' H' x) (b : H2 x = H' x ∨ TabG m' H' m2 H2 x) : H2 x = H x ∨ TabG m H m2 H2 x := by
  rcases a with a | ⟨⟨ps, ps', a1, a2⟩, a3⟩
  · rcases b with b | ⟨⟨ps, ps', b1, b2⟩, b3⟩
    · exact .inl (b.trans a)
    · exact .inr ⟨⟨ps, ps', a.symm.trans b1, b2⟩, fun z => b3 (z.keep a ea)⟩
  · rcases b with b | ⟨⟨qs, qs', b1, b2⟩, b3⟩
    · exact .inr ⟨⟨ps, ps', a1, b.trans a2⟩, fun z => (a3 z).keep b eb⟩
    · exact .inr ⟨⟨ps, qs', a1, b2⟩, fun z => b3 (a3 z)⟩
theorem Le.trans (a : Le m H m' H') (b : Le m' H' m2 H2) : Le m H m2 H2 := ⟨fun k x h => b.pre k x (a.pre k x h), a.ex.trans b.ex, b.hd.trans a.hd, fun x hx => hk_trans a.ex b.ex (a.hk x hx) (b.hk x (by rw [a.hd]; exact hx)), fun x hx => (b.fr x hx).elim (a.fr x) fun z => .inr (a.al x z), fun x h => a.al x (b.al x h)⟩
theorem Le.tab {b : Addr} (l : Le m H m' H') (hb : b ∈ m.hd) (t : TabK m H b) : TabK m' H' b := (l.hk b hb).elim (fun e => t.keep e l.ex) fun z => z.2 t
theorem Le.hs {b : Addr} (l : Le m H m' H') (hb : b ∈ m.hd) (h : ∃ o, H b = some o ∧ Mu o) : ∃ o, H' b = some o ∧ Mu o := by
  obtain ⟨o, e, u⟩ := h
  rcases l.hk b hb with z | ⟨⟨ps, ps', _, z⟩, _⟩
  · exact ⟨o, z.trans e, u⟩
  · exact ⟨_, z, fun _ y => nomatch y⟩
theorem Le.kc {b : Addr} {o : HO} (l : Le m H m' H') (hb : b ∈ m.hd) (h : H b = some o) (n : ∀ ps, o ≠ .tbl ps) : H' b = some o := by
  rcases l.hk b hb with z | ⟨⟨ps, ps', y, _⟩, _⟩
  · exact z.trans h
  · rw [h] at y; exact absurd (Option.some.inj y) (n ps)
theorem Le.hk' {m3 : Ad} (l : Le m H m' H') (x : Ex (hid m' H') (hid m3 H')) : ∀ b ∈ m.hd, H' b = H b ∨ TabG m H m3 H' b := fun b hb => (l.hk b hb).imp id fun z => ⟨z.1, fun t => (z.2 t).keep rfl x⟩
theorem CR.tk' (C : CR K H m c) (l : Le m H m' H') : ∀ p ∈ tabsK K, p ∈ m'.hd ∧ TabK m' H' p := fun p hp => ⟨by rw [l.hd]; exact (C.tk p hp).1, l.tab (C.tk p hp).1 (C.tk p hp).2⟩
theorem Le.r {d : D} {v : V} (a : Le m H m' H') (h : RR K H m d v) : RR K H' m' d v := R.mono a.ex a.pre d v h
theorem Le.rl {ds : List D} {vs : List V} (a : Le m H m' H') (h : RRL K H m ds vs) : RRL K H' m' ds vs := RL.mono a.ex a.pre ds vs h
theorem SR.step (s : SR K σ H m ρ c) (a : Le m H m' H') (h : CR K H' m' c') : SR K σ H' m' ρ c' :=
  ⟨h, s.len, fun i d e => let ⟨v, h1, h2⟩ := s.sl i d e; ⟨v, h1, a.r h2⟩⟩
theorem CR.some_at {k : Nat} {a : Addr} (C : CR K H m c) (h : m.ix[k]? = some a) : ∃ ce, c[k]? = some ce ∧ CellAt K m H a ce := by
  have hk : k < c.length := by rw [← C.len]; exact (List.getElem?_eq_some_iff.mp h).1
  obtain ⟨b, h1, h2⟩ := C.at_ k c[k] (List.getElem?_eq_getElem hk)
  rw [h] at h1; cases h1
  exact ⟨_, List.getElem?_eq_getElem hk, h2⟩
theorem CellAt.obj {a : Addr} {ce : Cell} (h : CellAt K m H a ce) : ∃ o, H a = some o := by
  cases ce with
  | lst ds => obtain ⟨xs, h, _⟩ := h; exact ⟨_, h⟩
  | obj C ns ds => obtain ⟨dx, fs, h, _⟩ := h; exact ⟨_, h⟩
  | dct ks ds => obtain ⟨kvs, h, _⟩ := h; exact ⟨_, h⟩
  | dcT ks ds => obtain ⟨kvs, h, _⟩ := h; exact ⟨_, h⟩
theorem CellAt.nt {a : Addr} {ce : Cell} (h : CellAt K m H a ce) : ∃ o, H a = some o ∧ ∀ ps, o ≠ .tbl ps := by
  cases ce with
  | lst ds => obtain ⟨xs, h, _⟩ := h; exact ⟨_, h, fun _ z => nomatch z⟩
  | obj C ns ds => obtain ⟨dx, fs, h, _⟩ := h; exact ⟨_, h, fun _ z => nomatch z⟩
  | dct ks ds => obtain ⟨kvs, h, _⟩ := h; exact ⟨_, h, fun _ z => nomatch z⟩
  | dcT ks ds => obtain ⟨kvs, h, _⟩ := h; exact ⟨_, h, fun _ z => nomatch z⟩
/-- a cell that a callee hid -/
theorem Le.kcell {b : Addr} {ce : Cell} {m0 m1 : Ad} (l : Le m0 H m1 H') (hb : b ∈ m0.hd) (h : CellAt K m H b ce) {o : HO} (e : H b = some o) : H' b = some o := by
  obtain ⟨u, e1, n⟩ := h.nt
  rw [e] at e1; cases e1
  exact l.kc hb e n
theorem CellAt.mu {a : Addr} {ce : Cell} (h : CellAt K m H a ce) : ∃ o, H a = some o ∧ Mu o := by
  cases ce with
  | lst ds => obtain ⟨xs, h, _⟩ := h; exact ⟨_, h, fun _ z => nomatch z⟩
  | obj C ns ds => obtain ⟨dx, fs, h, _⟩ := h; exact ⟨_, h, fun _ z => nomatch z⟩
  | dct ks ds => obtain ⟨kvs, h, _⟩ := h; exact ⟨_, h, fun _ z => nomatch z⟩
  | dcT ks ds => obtain ⟨kvs, h, _⟩ := h; exact ⟨_, h, fun _ z => nomatch z⟩
/-- a new object, not mutable -/
theorem hid_new {p : Addr} (h : H p = none) (c1 : CR K H m c) : p ∉ m.ix ∧ p ∉ m.hd := by
  refine ⟨fun hp => ?_, fun hp => ?_⟩
  · obtain ⟨k, e⟩ := List.mem_iff_getElem?.mp hp
    obtain ⟨ce, _, h2⟩ := c1.some_at e
    obtain ⟨o, h3⟩ := h2.obj
    rw [h] at h3; cases h3
  · obtain ⟨o, h3, _⟩ := c1.hs p hp
    rw [h] at h3; cases h3
theorem hid_upd {p : Addr} {o : HO} (hp : p ∉ m.ix ∧ p ∉ m.hd) : hid m (upd H p o) = upd (hid m H) p o := by
  funext b
  unfold hid upd
  by_cases hb : b = p
  · subst hb; simp [hp.1, hp.2]
  · simp [hb]
theorem hid_mut {p : Addr} {o : HO} (hp : p ∈ m.ix) : hid m (upd H p o) = hid m H := by
  funext b
  unfold hid upd
  by_cases hb : b = p
  · subst hb; simp [hp]
  · simp [hb]
theorem CellAt.step {a : Addr} {ce : Cell} (l : Le m H m' H') (k : ∀ o, H a = some o → H' a = some o) (h : CellAt K m H a ce) : CellAt K m' H' a ce := by
  cases ce with
  | lst ds => obtain ⟨xs, h1, h2⟩ := h; exact ⟨xs, k _ h1, l.rl h2⟩
  | obj C ns ds => obtain ⟨dx, fs, h1, h2, h3⟩ := h; exact ⟨dx, fs, k _ h1, h2, l.rl h3⟩
  | dct ks ds => obtain ⟨kvs, h1, h2, h3⟩ := h; exact ⟨kvs, k _ h1, h2, l.rl h3⟩
  | dcT ks ds => obtain ⟨kvs, h1, h2, h3⟩ := h; exact ⟨kvs, k _ h1, h2, l.rl h3⟩
theorem Le.new {p : Addr} {o : HO} (h : H p = none) (c1 : CR K H m c) : Le m H m (upd H p o) := by
  have hp := hid_new h c1
  refine ⟨fun _ _ e => e, ?_, rfl, fun b hb => .inl (upd_ne fun e => hp.2 (by rw [← e]; exact hb)), fun _ h => .inl h, fun _ h => upd_none h⟩
  rw [hid_upd hp]
  exact Ex.new (by rw [hid_of hp]; exact h)
theorem CR.new {p : Addr} {o : HO} (h : H p = none) (c1 : CR K H m c) : CR K (upd H p o) m c :=
  ⟨c1.len, c1.nd, fun k ce e => let ⟨a, h1, h2⟩ := c1.at_ k ce e; ⟨a, h1, h2.step (Le.new h c1) fun o' e' => by rw [upd_ne (ne_of_none e' h)]; exact e'⟩,
    fun b hb => let ⟨o', h3, h4⟩ := c1.hs b hb; ⟨o', by rw [upd_ne (ne_of_none h3 h)]; exact h3, h4⟩, c1.dj, c1.tk' (Le.new h c1)⟩
theorem new_at {p : Addr} {o : HO} (h : H p = none) (c1 : CR K H m c) : hid m (upd H p o) p = some o := by
  rw [hid_of (hid_new h c1), upd_same]
end

/-! ### readings over data -/
/-- an expression: which data and which cells come out -/
abbrev TD := Env → List Cell → (D → List Cell → Prop) → Prop
abbrev TDs := Env → List Cell → (List D → List Cell → Prop) → Prop
abbrev TDt := Env → List Cell → (Bool → List Cell → Prop) → Prop
def lift (K : PySem.W.Frag) (t : TD) : TE := fun σ H Q => ∃ (m : Ad) (ρ : Env) (c : List Cell) (Φ : D → List Cell → Prop), SR K σ H m ρ c ∧ t ρ c Φ ∧
  ∀ d c' v H' m', Φ d c' → CR K H' m' c' → RR K H' m' d v → Le m H m' H' → Q v H'
def liftA (K : PySem.W.Frag) (t : TDs) : TA := fun σ H Q => ∃ (m : Ad) (ρ : Env) (c : List Cell) (Φ : List D → List Cell → Prop), SR K σ H m ρ c ∧ t ρ c Φ ∧
  ∀ ds c' vs H' m', Φ ds c' → CR K H' m' c' → RRL K H' m' ds vs → Le m H m' H' → Q vs H'
def liftT (K : PySem.W.Frag) (t : TDt) : TT := fun σ H Q => ∃ (m : Ad) (ρ : Env) (c : List Cell) (Φ : Bool → List Cell → Prop), SR K σ H m ρ c ∧ t ρ c Φ ∧
  ∀ b c' H' m', Φ b c' → CR K H' m' c' → Le m H m' H' → Q b H'
abbrev PD (X : Cx) (e : Expr) (t : TD) : Prop := PE X e (lift X.K t)
abbrev PDs (X : Cx) (es : List Expr) (t : TDs) : Prop := PA X es (liftA X.K t)
abbrev PDt (X : Cx) (e : Expr) (t : TDt) : Prop := PT X e (liftT X.K t)
theorem PE.imp {X : Cx} {e : Expr} {t t' : TE} (h : PE X e t) (i : ∀ σ H Q, t' σ H Q → t σ H Q) : PE X e t' := ⟨fun pins s σ H Q I w => h.run pins s σ H Q I (i σ H Q w)⟩
theorem PT.imp {X : Cx} {e : Expr} {t t' : TT} (h : PT X e t) (i : ∀ σ H Q, t' σ H Q → t σ H Q) : PT X e t' := ⟨fun pins s σ H Q I w => h.run pins s σ H Q I (i σ H Q w)⟩
theorem PW.imp {X : Cx} {e : Expr} {t t' : TT} (h : PW X e t) (i : ∀ σ H Q, t' σ H Q → t σ H Q) : PW X e t' := ⟨fun wh pins s σ H Q I w => h.run wh pins s σ H Q I (i σ H Q w)⟩
theorem PA.imp {X : Cx} {es : List Expr} {t t' : TA} (h : PA X es t) (i : ∀ σ H Q, t' σ H Q → t σ H Q) : PA X es t' := ⟨fun pos pins s σ H Q I w => h.run pos pins s σ H Q I (i σ H Q w)⟩
theorem PS.imp {X : Cx} {st : Stmt} {t t' : TS} (h : PS X st t) (i : ∀ D σ H, t' D σ H → t D σ H) : PS X st t' := ⟨fun pins s σ H D I w => h.run pins s σ H D I (i D σ H w)⟩
theorem PSs.imp {X : Cx} {st : List Stmt} {t t' : TS} (h : PSs X st t) (i : ∀ D σ H, t' D σ H → t D σ H) : PSs X st t' := ⟨fun pins s σ H D I w => h.run pins s σ H D I (i D σ H w)⟩
end Cw

namespace Cw
open PySem PySem.Spec PyProof.Rows L2

/-! ### a mutable object as what it holds now -/
def vw (c : List Cell) : D → D
  | .cell k => match c[k]? with
    | some (.lst ds) => .lst ds
    | some (.obj C ns ds) => .ins C ns ds
    | some (.dct ks ds) => .dct ks ds
    | some (.dcT ks ds) => .dcT ks ds
    | none => .cell k
  | d => d
def W (K : PySem.W.Frag) (H : Hp) (m : Ad) : D → V → Prop
  | .lst ds, v => ∃ a xs, v = .ref a ∧ H a = some (.lst xs) ∧ RRL K H m ds xs
  | .ins C ns ds, v => ∃ a dx fs, v = .ref a ∧ H a = some (.ins C dx fs) ∧ fs.map (·.1) = ns ∧ RRL K H m ds (fs.map (·.2))
  | .dct ks ds, v => ∃ a kvs, v = .ref a ∧ Rd H a (.dK kvs) ∧ kvs.map (·.1) = ks ∧ RRL K H m ds (kvs.map (·.2))
  | .dcT ks ds, v => ∃ a kvs, v = .ref a ∧ Rd H a (.dT kvs) ∧ kvs.map (·.1) = ks ∧ RRL K H m ds (kvs.map (·.2))
  | d, v => RR K H m d v
section
variable {K : PySem.W.Frag} {m : Ad} {H : Hp} {c : List Cell}
theorem W.of : ∀ {d : D} {v : V}, RR K H m d v → W K H m d v
  | .non, _, h => h
  | .bl _, _, h => h
  | .int _, _, h => h
  | .str _, _, h => h
  | .tup _, _, h => h
  | .lst _, _, ⟨a, xs, e1, h1, h2⟩ => ⟨a, xs, e1, ex_hid m H a _ h1, h2⟩
  | .fl _, _, h => h
  | .cell _, _, h => h
  | .ins _ _ _, _, ⟨a, dx, fs, e1, h1, h2, h3⟩ => ⟨a, dx, fs, e1, ex_hid m H a _ h1, h2, h3⟩
  | .dct _ _, _, ⟨a, kvs, e1, h1, h2, h3⟩ => ⟨a, kvs, e1, ex_rd (ex_hid m H) h1, h2, h3⟩
  | .dcT _ _, _, ⟨a, kvs, e1, h1, h2, h3⟩ => ⟨a, kvs, e1, ex_rd (ex_hid m H) h1, h2, h3⟩
  | .exc _ _ _ _ _, _, h => h
  | .exm _ _ _, _, h => h
  | .ttp _, _, h => h
  | .fn _ _ _, _, ⟨e1, h1, h2, h3⟩ => ⟨e1, h1, h2, h3⟩
  | .insA _ _ _ _, _, h => h
  | .raw _, _, h => h
theorem W.vw (C : CR K H m c) {d : D} {v : V} (h : RR K H m d v) : W K H m (vw c d) v := by
  cases d with
  | cell k =>
    obtain ⟨a, h1, h2⟩ := h
    cases e : c[k]? with
    | none =>
      have z : Cw.vw c (.cell k) = .cell k := by simp [Cw.vw, e]
      rw [z]; exact ⟨a, h1, h2⟩
    | some ce =>
      obtain ⟨b, h3, h4⟩ := C.at_ k ce e
      rw [h1] at h3; cases h3
      cases ce with
      | lst ds =>
        have z : Cw.vw c (.cell k) = .lst ds := by simp [Cw.vw, e]
        rw [z]
        obtain ⟨xs, h5, h6⟩ := h4; exact ⟨a, xs, h2, h5, h6⟩
      | obj C ns ds =>
        have z : Cw.vw c (.cell k) = .ins C ns ds := by simp [Cw.vw, e]
        rw [z]
        obtain ⟨dx, fs, h5, h6, h7⟩ := h4; exact ⟨a, dx, fs, h2, h5, h6, h7⟩
      | dct ks ds =>
        have z : Cw.vw c (.cell k) = .dct ks ds := by simp [Cw.vw, e]
        rw [z]
        obtain ⟨kvs, h5, h6, h7⟩ := h4; exact ⟨a, kvs, h2, .inl h5, h6, h7⟩
      | dcT ks ds =>
        have z : Cw.vw c (.cell k) = .dcT ks ds := by simp [Cw.vw, e]
        rw [z]
        obtain ⟨kvs, h5, h6, h7⟩ := h4; exact ⟨a, kvs, h2, .inl h5, h6, h7⟩
  | _ => exact W.of h
end

/-! ### operators -/
abbrev F2 := D → D → List Cell → (D → List Cell → Prop) → Prop
abbrev F1 := D → List Cell → (D → List Cell → Prop) → Prop
abbrev Fs := List D → List Cell → (D → List Cell → Prop) → Prop
abbrev KQ (K : PySem.W.Frag) (H : Hp) (m : Ad) (Φ : D → List Cell → Prop) (Q : VK) : Prop :=
  ∀ d c' w H' m', Φ d c' → CR K H' m' c' → RR K H' m' d w → Le m H m' H' → Q w H'
/-- r does on values what f does on data -/
def L2f (K : PySem.W.Frag) (f : F2) (r : R2) : Prop := ∀ x y c Φ, f x y c Φ → ∀ H m u v, CR K H m c → W K H m x u → W K H m y v → ∀ Q, KQ K H m Φ Q → r u v H Q
def L1f (K : PySem.W.Frag) (f : F1) (r : V → Hp → VK → Prop) : Prop := ∀ x c Φ, f x c Φ → ∀ H m u, CR K H m c → W K H m x u → ∀ Q, KQ K H m Φ Q → r u H Q
def Lsf (K : PySem.W.Frag) (f : Fs) (r : List V → Hp → VK → Prop) : Prop := ∀ xs c Φ, f xs c Φ → ∀ H m us, CR K H m c → Paired (W K H m) xs us → ∀ Q, KQ K H m Φ Q → r us H Q
def dBin (f : F2) (ta tb : TD) : TD := fun ρ c Φ => ta ρ c fun x c1 => tb ρ c1 fun y c2 => f (vw c2 x) (vw c2 y) c2 Φ
def dCB (f : Fs) (ta : TDs) : TD := fun ρ c Φ => ta ρ c fun xs c1 => f (xs.map (vw c1)) c1 Φ
section
variable {K : PySem.W.Frag} {f : F2} {f1 : F1} {fs : Fs} {r : R2} {ta tb : TD} {tas : TDs} {σ : L2.St} {H : Hp} {Q : VK}
theorem lift_bin (l : L2f K f r) (h : lift K (dBin f ta tb) σ H Q) : tOp r (lift K ta) (lift K tb) σ H Q := by
  obtain ⟨m, ρ, c, Φ, S, h, q⟩ := h
  exact ⟨m, ρ, c, _, S, h, fun x c1 u H1 m1 hx C1 R1 L1 => ⟨m1, ρ, c1, _, S.step L1 C1, hx, fun y c2 v H2 m2 hy C2 R2 L2 =>
    l _ _ c2 Φ hy H2 m2 u v C2 (W.vw C2 (L2.r R1)) (W.vw C2 R2) Q fun d c' w H' m' hd C' R' L' => q d c' w H' m' hd C' R' (L1.trans (L2.trans L'))⟩⟩
theorem paired_vw {m : Ad} {c : List Cell} (C : CR K H m c) : ∀ {ds : List D} {vs : List V}, RRL K H m ds vs → Paired (W K H m) (ds.map (vw c)) vs
  | [], _, h => by cases (show _ = [] from h); exact .nil
  | d :: ds, _, ⟨x, r, e1, h1, h2⟩ => by subst e1; exact .cons (W.vw C h1) (paired_vw C h2)
theorem lift_cb {r : List V → Hp → VK → Prop} (l : Lsf K fs r) (h : lift K (dCB fs tas) σ H Q) : tCB r (liftA K tas) σ H Q := by
  obtain ⟨m, ρ, c, Φ, S, h, q⟩ := h
  exact ⟨m, ρ, c, _, S, h, fun x c1 u H1 m1 hx C1 R1 L1 => l _ c1 Φ hx H1 m1 u C1 (paired_vw C1 R1) Q fun d c' w H' m' hd C' R' L' => q d c' w H' m' hd C' R' (L1.trans L')⟩
end

/-! ### names, constants -/
def dVar (i : Nat) : TD := fun ρ c Φ => match ρ[i]? with
  | some (some d) => Φ d c
  | _ => False
def dC (d : D) : TD := fun _ c Φ => Φ d c
section
variable {X : Cx} {e a b : Expr} {es : List Expr} {ta tb : TD} {tas : TDs} {pos : Pos}
theorem pd_pv {i : Nat} (h : PE X e (tVar i)) : PD X e (dVar i) := PE.imp h fun σ H Q ⟨m, ρ, c, Φ, S, h, q⟩ => by
  unfold dVar at h
  cases e1 : ρ[i]? with
  | none => rw [e1] at h; exact h.elim
  | some o =>
    cases o with
    | none => rw [e1] at h; exact h.elim
    | some d =>
      rw [e1] at h
      obtain ⟨v, h1, h2⟩ := S.sl i d e1
      exact ⟨v, h1, q d c v H m h S.cr h2 (Le.refl _ _)⟩
theorem pd_c {v : V} {d : D} (h : PE X e (tC v)) (r : ∀ m H, R X.K m H d v) : PD X e (dC d) := PE.imp h fun σ H Q ⟨m, ρ, c, Φ, S, h, q⟩ => q d c v H m h S.cr (r _ _) (Le.refl _ _)
theorem pd_v (i : Nat) {x : Str} (hN : X.N[i]? = some x := by rfl) (hv : Vis X.env.scope x := by first | exact Or.inl rfl | exact Or.inr (Or.inl rfl) | exact Or.inr (Or.inr rfl)) (hd : (x == ("__debug__" : Str)) = false := by decide)
    (hcd : (x == ("__classdict__" : Str)) = false := by decide) : PD X (.Name x pos) (dVar i) := pd_pv (pe_var hN hv hd hcd)
theorem pd_int {i j} : PD X (.Constant (.int i) j pos) (dC (.int i)) := pd_c pe_int fun _ _ => rfl
theorem pd_bl {b j} : PD X (.Constant (.bool b) j pos) (dC (.bl b)) := pd_c pe_bl fun _ _ => rfl
theorem pd_non {j} : PD X (.Constant .none j pos) (dC .non) := pd_c pe_non fun _ _ => rfl
theorem pd_str {x j} : PD X (.Constant (.str x) j pos) (dC (.str x)) := pd_c pe_str fun _ _ => rfl

/-! ### arguments, displays -/
def dNil : TDs := fun _ c Φ => Φ [] c
def dCons (ta : TD) (tr : TDs) : TDs := fun ρ c Φ => ta ρ c fun x c1 => tr ρ c1 fun xs c2 => Φ (x :: xs) c2
theorem pds_nil : PDs X [] dNil := PA.imp pa_nil fun σ H Q ⟨m, ρ, c, Φ, S, h, q⟩ => q [] c [] H m h S.cr rfl (Le.refl _ _)
theorem pds_cons (h1 : PD X e ta) (h2 : PDs X es tas) (hs : starEach (e :: es) X.env = (false, eval e X.env) :: starEach es X.env := by rfl) : PDs X (e :: es) (dCons ta tas) :=
  PA.imp (pa_cons h1 h2 hs) fun σ H Q ⟨m, ρ, c, Φ, S, h, q⟩ => ⟨m, ρ, c, _, S, h, fun x c1 u H1 m1 hx C1 R1 L1 => ⟨m1, ρ, c1, _, S.step L1 C1, hx, fun xs c2 us H2 m2 hy C2 R2 L2 =>
    q (x :: xs) c2 (u :: us) H2 m2 hy C2 ⟨u, us, rfl, L2.r R1, R2⟩ (L1.trans L2)⟩⟩
def dTup (t : TDs) : TD := fun ρ c Φ => t ρ c fun xs c1 => xs.length ≤ sizeLine ∧ Φ (.tup xs) c1
def dLst (t : TDs) : TD := fun ρ c Φ => t ρ c fun xs c1 => xs.length ≤ sizeLine ∧ Φ (.lst xs) c1
theorem RR.newT {m : Ad} {H : Hp} {c : List Cell} {p : Addr} {xs : List D} {us : List V} (C1 : CR X.K H m c) (hp : H p = none) (r : RRL X.K H m xs us) : RR X.K (upd H p (.tup us)) m (.tup xs) (.ref p) :=
  ⟨p, us, rfl, .inl (.inl (new_at hp C1)), (Le.new hp C1).rl r⟩
theorem RR.newL {m : Ad} {H : Hp} {c : List Cell} {p : Addr} {xs : List D} {us : List V} (C1 : CR X.K H m c) (hp : H p = none) (r : RRL X.K H m xs us) : RR X.K (upd H p (.lst us)) m (.lst xs) (.ref p) :=
  ⟨p, us, rfl, new_at hp C1, (Le.new hp C1).rl r⟩
theorem pd_tup {x1} (h : PDs X es tas) : PD X (.Tuple es x1 pos) (dTup tas) := PE.imp (pe_tup h) fun σ H Q ⟨m, ρ, c, Φ, S, h, q⟩ =>
  ⟨m, ρ, c, _, S, h, fun xs c1 us H1 m1 ⟨hl, hx⟩ C1 R1 L1 => ⟨by rw [← RL.length R1]; exact hl, fun p hp => q _ c1 _ _ m1 hx (C1.new hp) (RR.newT C1 hp R1) (L1.trans (Le.new hp C1))⟩⟩
theorem pd_lst (h : PDs X es tas) : PD X (.List es pos) (dLst tas) := PE.imp (pe_lst h) fun σ H Q ⟨m, ρ, c, Φ, S, h, q⟩ =>
  ⟨m, ρ, c, _, S, h, fun xs c1 us H1 m1 ⟨hl, hx⟩ C1 R1 L1 => ⟨by rw [← RL.length R1]; exact hl, fun p hp => q _ c1 _ _ m1 hx (C1.new hp) (RR.newL C1 hp R1) (L1.trans (Le.new hp C1))⟩⟩
/-- a list that will be changed: a new cell -/
def dLstM (t : TDs) : TD := fun ρ c Φ => t ρ c fun xs c1 => xs.length ≤ sizeLine ∧ Φ (.cell c1.length) (c1 ++ [.lst xs])
def Ad.push (m : Ad) (p : Addr) : Ad := ⟨m.ix ++ [p], m.hd⟩
theorem TabK.push {m : Ad} {H : Hp} {P p : Addr} {o : HO} (t : TabK m H P) (hp : H p = some o) (ho : ∀ f, o ≠ .ext f) : TabK (m.push p) H P := by
  obtain ⟨ps, h1, h2, h3⟩ := t
  refine ⟨ps, h1, h2, fun pos cv hc => ?_⟩
  obtain ⟨c, e1, e2⟩ := h3 pos cv hc
  refine ⟨c, e1, ?_⟩
  obtain ⟨⟨a, b⟩, e⟩ := hid_some e2
  rw [hid_of]
  · exact e
  · refine ⟨fun z => ?_, b⟩
    rcases List.mem_append.mp (show c ∈ m.ix ++ [p] from z) with z | z
    · exact a z
    · have : c = p := by simpa using z
      subst this
      rw [hp] at e
      exact ho _ (Option.some.inj e)
theorem push_pre {m : Ad} {p : Addr} (k : Nat) (a : Addr) (e : m.ix[k]? = some a) : (m.push p).ix[k]? = some a := by
  show (m.ix ++ [p])[k]? = some a
  rw [List.getElem?_append_left (List.getElem?_eq_some_iff.mp e).1]; exact e
theorem hid_app {m : Ad} {H : Hp} {p : Addr} {o : HO} (hp : H p = none) : hid (m.push p) (upd H p o) = hid m H := by
  funext b
  unfold hid upd Ad.push
  by_cases hb : b = p
  · subst hb; simp [hp]
  · simp [hb]
theorem cell_new {K : PySem.W.Frag} {m : Ad} {H : Hp} {c : List Cell} {p : Addr} {o : HO} {ce : Cell} (C1 : CR K H m c) (hp : H p = none)
    (hc : CellAt K (m.push p) (upd H p o) p ce) : CR K (upd H p o) (m.push p) (c ++ [ce]) ∧ Le m H (m.push p) (upd H p o) ∧ RR K (upd H p o) (m.push p) (.cell c.length) (.ref p) := by
  have hn := hid_new hp C1
  have l : Le m H (m.push p) (upd H p o) := ⟨push_pre, by rw [hid_app hp]; exact Ex.refl _, rfl, fun b hb => .inl (upd_ne fun e => hn.2 (by rw [← e]; exact hb)), fun a ha => (List.mem_append.mp (show a ∈ m.ix ++ [p] from ha)).elim .inl fun z => .inr (by
    have : a = p := by simpa using z
    subst this; exact hp), fun _ h => upd_none h⟩
  have last : (m.push p).ix[c.length]? = some p := by
    show (m.ix ++ [p])[c.length]? = some p
    rw [← C1.len]; simp
  refine ⟨⟨by simp [Ad.push, C1.len], ?_, fun k ce' e => ?_, fun b hb => ?_, fun a ha => ?_, C1.tk' l⟩, l, p, last, rfl⟩
  · show (m.ix ++ [p]).Nodup
    rw [List.nodup_append]
    refine ⟨C1.nd, by simp, fun a ha b hb e => ?_⟩
    have : b = p := by simpa using hb
    subst this; subst e
    exact hn.1 ha
  · by_cases hk : k < c.length
    · rw [List.getElem?_append_left hk] at e
      obtain ⟨a, h1, h2⟩ := C1.at_ k ce' e
      refine ⟨a, push_pre k a h1, h2.step l fun o' e' => ?_⟩
      rw [upd_ne (ne_of_none e' hp)]; exact e'
    · have hk' : k = c.length := by
        have := (List.getElem?_eq_some_iff.mp e).1
        simp at this; omega
      subst hk'
      simp at e; subst e
      exact ⟨p, last, hc⟩
  · obtain ⟨o', h3, h4⟩ := C1.hs b hb
    exact ⟨o', by rw [upd_ne (ne_of_none h3 hp)]; exact h3, h4⟩
  · rcases List.mem_append.mp (show a ∈ m.ix ++ [p] from ha) with z | z
    · exact C1.dj a z
    · have : a = p := by simpa using z
      subst this
      exact hn.2
theorem pd_lstM (h : PDs X es tas) : PD X (.List es pos) (dLstM tas) := PE.imp (pe_lst h) fun σ H Q ⟨m, ρ, c, Φ, S, h, q⟩ =>
  ⟨m, ρ, c, _, S, h, fun xs c1 us H1 m1 ⟨hl, hx⟩ C1 R1 L1 => ⟨by rw [← RL.length R1]; exact hl, fun p hp => by
    have z := cell_new (ce := .lst xs) (o := .lst us) C1 hp ⟨us, upd_same, by
      show RL _ _ (hid (m1.push p) _) _ _
      rw [hid_app hp]; exact RL.mono (Ex.refl _) push_pre _ _ R1⟩
    exact q _ _ _ _ _ hx z.1 z.2.2 (L1.trans z.2.1)⟩⟩
end
end Cw

namespace Cw
open PySem PySem.Spec PyProof.Rows L2

/-! ### data to the library's plain data -/
mutual
def D.py : D → Option PyData
  | .non => some .none
  | .bl b => some (.bool b)
  | .int i => some (.int i)
  | .str x => some (.str x)
  | .tup ds => (D.pys ds).map .tuple
  | .lst ds => (D.pys ds).map .list
  | .fl ds => (D.pys ds).map .list
  | .cell _ => none
  | .ins _ _ _ => none
  | .dct _ _ => none
  | .dcT _ _ => none
  | .exc _ _ _ _ _ => none
  | .exm _ _ _ => none
  | .ttp _ => none
  | .fn _ _ _ => none
  | .insA _ _ _ _ => none
  | .raw _ => none
def D.pys : List D → Option (List PyData)
  | [] => some []
  | d :: ds => match D.py d, D.pys ds with
    | some p, some ps => some (p :: ps)
    | _, _ => none
end
section
variable {K : PySem.W.Frag} {m : List Addr} {H : Hp}
mutual
theorem R.dp : ∀ (d : D) (v : V) (p : PyData), R K m H d v → D.py d = some p → Dp K H v p
  | .non, _, _, h, e => by cases e; cases (show _ = V.non from h); exact .non
  | .bl b, _, _, h, e => by cases e; cases (show _ = V.bl b from h); exact .bl b
  | .int i, _, _, h, e => by cases e; cases (show _ = V.int i from h); exact .int i
  | .str x, _, _, h, e => by cases e; cases (show _ = V.str x from h); exact .str x
  | .tup ds, _, p, ⟨a, xs, e1, h1, h2⟩, e => by
    subst e1
    rw [show D.py (.tup ds) = (D.pys ds).map .tuple by rw [D.py]] at e
    cases e2 : D.pys ds with
    | none => rw [e2] at e; cases e
    | some ps => rw [e2] at e; cases e; exact .tup h1 (RL.dp ds xs ps h2 e2)
  | .lst ds, _, p, ⟨a, xs, e1, h1, h2⟩, e => by
    subst e1
    rw [show D.py (.lst ds) = (D.pys ds).map .list by rw [D.py]] at e
    cases e2 : D.pys ds with
    | none => rw [e2] at e; cases e
    | some ps => rw [e2] at e; cases e; exact .lst (SqL.of h1) (RL.dp ds xs ps h2 e2)
  | .fl ds, _, p, ⟨a, xs, e1, h1, h2⟩, e => by
    subst e1
    rw [show D.py (.fl ds) = (D.pys ds).map .list by rw [D.py]] at e
    cases e2 : D.pys ds with
    | none => rw [e2] at e; cases e
    | some ps => rw [e2] at e; cases e; exact .lst h1 (RL.dp ds xs ps h2 e2)
  | .cell _, _, _, _, e => by rw [D.py] at e; cases e
  | .ins _ _ _, _, _, _, e => by rw [D.py] at e; cases e
  | .dct _ _, _, _, _, e => by rw [D.py] at e; cases e
  | .dcT _ _, _, _, _, e => by rw [D.py] at e; cases e
  | .exc _ _ _ _ _, _, _, _, e => by rw [D.py] at e; cases e
  | .exm _ _ _, _, _, _, e => by rw [D.py] at e; cases e
  | .ttp _, _, _, _, e => by rw [D.py] at e; cases e
  | .fn _ _ _, _, _, _, e => by rw [D.py] at e; cases e
  | .insA _ _ _ _, _, _, _, e => by rw [D.py] at e; cases e
  | .raw _, _, _, _, e => by rw [D.py] at e; cases e
theorem RL.dp : ∀ (ds : List D) (vs : List V) (ps : List PyData), RL K m H ds vs → D.pys ds = some ps → DpAll K H vs ps
  | [], _, _, h, e => by cases (show _ = [] from h); rw [D.pys] at e; cases e; exact .nil
  | d :: ds, _, ps, ⟨x, r, e1, h1, h2⟩, e => by
    subst e1
    rw [D.pys] at e
    cases e2 : D.py d with
    | none => rw [e2] at e; cases e
    | some p =>
      cases e3 : D.pys ds with
      | none => rw [e2, e3] at e; cases e
      | some qs => rw [e2, e3] at e; cases e; exact .cons (R.dp d x p h1 e2) (RL.dp ds r qs h2 e3)
end
theorem DpAll.mono' {H H' : Hp} (e : Ex H H') : ∀ {v : V} {d : PyData}, Dp K H v d → Dp K H' v d := by
  intro v d h
  refine Dp.rec (motive_1 := fun v d _ => Dp K H' v d) (motive_2 := fun vs ds _ => DpAll K H' vs ds) .non .bl .int .str (fun h1 _ i => .lst (ex_l e h1) i) (fun h1 _ i => .tup (ex_t e h1) i) .nil (fun _ _ i1 i2 => .cons i1 i2) h
theorem DpAll.mono2 {H H' : Hp} (e : Ex H H') : ∀ {vs : List V} {ds : List PyData}, DpAll K H vs ds → DpAll K H' vs ds
  | _, _, .nil => .nil
  | _, _, .cons h1 h2 => .cons (DpAll.mono' e h1) (DpAll.mono2 e h2)
end
section
variable {K : PySem.W.Frag} {m : Ad} {H : Hp}
theorem W.dp : ∀ {d : D} {v : V} {p : PyData}, W K H m d v → D.py d = some p → Dp K H v p
  | .non, _, _, h, e => DpAll.mono' (ex_hid m H) (R.dp (m := m.ix) .non _ _ h e)
  | .bl b, _, _, h, e => DpAll.mono' (ex_hid m H) (R.dp (m := m.ix) (.bl b) _ _ h e)
  | .int i, _, _, h, e => DpAll.mono' (ex_hid m H) (R.dp (m := m.ix) (.int i) _ _ h e)
  | .str x, _, _, h, e => DpAll.mono' (ex_hid m H) (R.dp (m := m.ix) (.str x) _ _ h e)
  | .tup ds, _, _, h, e => DpAll.mono' (ex_hid m H) (R.dp (m := m.ix) (.tup ds) _ _ h e)
  | .fl ds, _, _, h, e => DpAll.mono' (ex_hid m H) (R.dp (m := m.ix) (.fl ds) _ _ h e)
  | .lst ds, _, p, ⟨a, xs, e1, h1, h2⟩, e => by
    subst e1
    rw [show D.py (.lst ds) = (D.pys ds).map .list by rw [D.py]] at e
    cases e2 : D.pys ds with
    | none => rw [e2] at e; cases e
    | some ps => rw [e2] at e; cases e; exact .lst (SqL.of h1) (DpAll.mono2 (ex_hid m H) (RL.dp ds xs ps h2 e2))
  | .cell _, _, _, _, e => by rw [D.py] at e; cases e
  | .ins _ _ _, _, _, _, e => by rw [D.py] at e; cases e
  | .dct _ _, _, _, _, e => by rw [D.py] at e; cases e
  | .dcT _ _, _, _, _, e => by rw [D.py] at e; cases e
  | .exc _ _ _ _ _, _, _, _, e => by rw [D.py] at e; cases e
  | .exm _ _ _, _, _, _, e => by rw [D.py] at e; cases e
  | .ttp _, _, _, _, e => by rw [D.py] at e; cases e
  | .fn _ _ _, _, _, _, e => by rw [D.py] at e; cases e
  | .insA _ _ _ _, _, _, _, e => by rw [D.py] at e; cases e
  | .raw _, _, _, _, e => by rw [D.py] at e; cases e
end

/-- the same data, the same heap -/
theorem KQ.pure {K : PySem.W.Frag} {H : Hp} {m : Ad} {c : List Cell} {Φ : D → List Cell → Prop} {Q : VK} {d : D} {w : V} (k : KQ K H m Φ Q) (C : CR K H m c) (h : Φ d c) (r : RR K H m d w) : Q w H := k d c w H m h C r (Le.refl _ _)
theorem KQ.newT {X : Cx} {H : Hp} {m : Ad} {c : List Cell} {Φ : D → List Cell → Prop} {Q : VK} {ds : List D} {ws : List V} (k : KQ X.K H m Φ Q) (C : CR X.K H m c) (h : Φ (.tup ds) c) (r : RRL X.K H m ds ws) {p : Addr} (hp : H p = none) : Q (.ref p) (upd H p (.tup ws)) :=
  k _ c _ _ m h (C.new hp) (RR.newT (X := X) C hp r) (Le.new hp C)
theorem KQ.newL {X : Cx} {H : Hp} {m : Ad} {c : List Cell} {Φ : D → List Cell → Prop} {Q : VK} {ds : List D} {ws : List V} (k : KQ X.K H m Φ Q) (C : CR X.K H m c) (h : Φ (.lst ds) c) (r : RRL X.K H m ds ws) {p : Addr} (hp : H p = none) : Q (.ref p) (upd H p (.lst ws)) :=
  k _ c _ _ m h (C.new hp) (RR.newL (X := X) C hp r) (Le.new hp C)

/-! ### + - * // % -/
def fAdd : F2
  | .int i, .int j, c, Φ => Φ (.int (i + j)) c
  | .str x, .str y, c, Φ => x.length + y.length ≤ sizeLine ∧ Φ (.str (x ++ y)) c
  | .lst xs, .lst ys, c, Φ => xs.length + ys.length ≤ sizeLine ∧ Φ (.lst (xs ++ ys)) c
  | .tup xs, .tup ys, c, Φ => xs.length + ys.length ≤ sizeLine ∧ Φ (.tup (xs ++ ys)) c
  | _, _, _, _ => False
def fSub : F2
  | .int i, .int j, c, Φ => Φ (.int (i - j)) c
  | _, _, _, _ => False
def fMul : F2
  | .int i, .int j, c, Φ => ((-(2 ^ 64) < i ∧ i < 2 ^ 64) ∨ (-(2 ^ 64) < j ∧ j < 2 ^ 64)) ∧ Φ (.int (i * j)) c
  | _, _, _, _ => False
def fDiv : F2
  | .int i, .int j, c, Φ => (0 < j ∧ j < 1073741824) ∧ Φ (.int (i / j)) c
  | _, _, _, _ => False
def fMod : F2
  | .int i, .int j, c, Φ => 0 < j ∧ Φ (.int (i % j)) c
  | _, _, _, _ => False
def fPow : F2
  | .int i, .int j, c, Φ => (0 ≤ j ∧ j ≤ 1000000 ∧ i.natAbs < 2 ^ 64) ∧ Φ (.int (i ^ j.toNat)) c
  | _, _, _, _ => False
section
variable {X : Cx} {a b : Expr} {ta tb : TD} {pos : Pos}
theorem pd_sub (ha : PD X a ta) (hb : PD X b tb) : PD X (.BinOp a .Sub b pos) (dBin fSub ta tb) := PE.imp (pe_op op_sub ha hb) fun σ H Q h => lift_bin (by
  intro x y c Φ h H m u v Cc r1 r2 Q k
  cases x <;> cases y <;> first | exact h.elim | skip
  cases r1; cases r2
  exact ⟨_, _, rfl, rfl, k.pure Cc h rfl⟩) h
theorem pd_mul (ha : PD X a ta) (hb : PD X b tb) : PD X (.BinOp a .Mult b pos) (dBin fMul ta tb) := PE.imp (pe_op op_mul ha hb) fun σ H Q h => lift_bin (by
  intro x y c Φ h H m u v Cc r1 r2 Q k
  cases x <;> cases y <;> first | exact h.elim | skip
  cases r1; cases r2
  exact ⟨_, _, rfl, rfl, h.1, k.pure Cc h.2 rfl⟩) h
theorem pd_div (ha : PD X a ta) (hb : PD X b tb) : PD X (.BinOp a .FloorDiv b pos) (dBin fDiv ta tb) := PE.imp (pe_op op_fdiv ha hb) fun σ H Q h => lift_bin (by
  intro x y c Φ h H m u v Cc r1 r2 Q k
  cases x <;> cases y <;> first | exact h.elim | skip
  cases r1; cases r2
  exact ⟨_, _, rfl, rfl, h.1, k.pure Cc h.2 rfl⟩) h
theorem pd_mod (ha : PD X a ta) (hb : PD X b tb) : PD X (.BinOp a .Mod b pos) (dBin fMod ta tb) := PE.imp (pe_op op_mod ha hb) fun σ H Q h => lift_bin (by
  intro x y c Φ h H m u v Cc r1 r2 Q k
  cases x <;> cases y <;> first | exact h.elim | skip
  cases r1; cases r2
  exact ⟨_, _, rfl, rfl, h.1, k.pure Cc h.2 rfl⟩) h
theorem pd_pow (ha : PD X a ta) (hb : PD X b tb) : PD X (.BinOp a .Pow b pos) (dBin fPow ta tb) := PE.imp (pe_op op_pow ha hb) fun σ H Q h => lift_bin (by
  intro x y c Φ h H m u v Cc r1 r2 Q k
  cases x <;> cases y <;> first | exact h.elim | skip
  cases r1; cases r2
  exact ⟨_, _, rfl, rfl, h.1, k.pure Cc h.2 rfl⟩) h
theorem rlen {K : PySem.W.Frag} {m : List Addr} {H : Hp} {ds : List D} {xs : List V} (h : RL K m H ds xs) : xs.length = ds.length := (RL.length h).symm
theorem pd_add (ha : PD X a ta) (hb : PD X b tb) : PD X (.BinOp a .Add b pos) (dBin fAdd ta tb) :=
  PE.imp (pe_op (op_add.or (op_add_str.or (op_cat.or op_catA))) ha hb) fun σ H Q h => lift_bin (by
  intro x y c Φ h H m u v Cc r1 r2 Q k
  cases x <;> cases y <;> first | exact h.elim | skip
  · cases r1; cases r2
    exact .inl ⟨_, _, rfl, rfl, k.pure Cc h rfl⟩
  · cases r1; cases r2
    exact .inr (.inl ⟨_, _, rfl, rfl, h.1, k.pure Cc h.2 rfl⟩)
  · rename_i xs ys
    obtain ⟨p, us, rfl, hp, ru⟩ := r1
    obtain ⟨q, ws, rfl, hq, rw'⟩ := r2
    refine .inr (.inr (.inr ⟨p, q, us, ws, rfl, rfl, ex_t (ex_hid m H) hp, ex_t (ex_hid m H) hq, by rw [rlen ru, rlen rw']; exact h.1, fun e => ?_, fun _ e => ?_, fun _ _ t ht => ?_⟩))
    · subst e
      have : xs = [] := by cases xs with | nil => rfl | cons d ds => obtain ⟨_, _, z, _⟩ := ru; cases z
      subst this
      exact k.pure Cc h.2 ⟨q, ws, rfl, hq, rw'⟩
    · subst e
      have : ys = [] := by cases ys with | nil => rfl | cons d ds => obtain ⟨_, _, z, _⟩ := rw'; cases z
      subst this
      have h3 := h.2
      rw [List.append_nil] at h3
      exact k.pure Cc h3 ⟨p, us, rfl, hp, ru⟩
    · exact KQ.newT (X := X) k Cc h.2 (RL.append ru rw') ht
  · obtain ⟨p, us, rfl, hp, ru⟩ := r1
    obtain ⟨q, ws, rfl, hq, rw'⟩ := r2
    exact .inr (.inr (.inl ⟨p, q, us, ws, rfl, rfl, hp, hq, by rw [rlen ru, rlen rw']; exact h.1, fun t ht => KQ.newL (X := X) k Cc h.2 (RL.append ru rw') ht⟩))) h
end
end Cw

namespace Cw
open PySem PySem.Spec PyProof.Rows L2

/-! ### == != < <= > >= in is -/
def fEq (neg : Bool) : F2
  | .int i, .int j, c, Φ => Φ (.bl (if neg then !decide (i = j) else decide (i = j))) c
  | .str x, .str y, c, Φ => Φ (.bl (if neg then !decide (x = y) else decide (x = y))) c
  | .bl x, .bl y, c, Φ => Φ (.bl (if neg then !decide (x = y) else decide (x = y))) c
  | x, y, c, Φ => ∃ p q, D.py x = some p ∧ D.py y = some q ∧ SeqAt.shaped p = true ∧ SeqAt.shaped q = true ∧ Φ (.bl (if neg then !PyData.eqv p q else PyData.eqv p q)) c
def fCmp (g : Int → Int → Bool) : F2
  | .int i, .int j, c, Φ => Φ (.bl (g i j)) c
  | _, _, _, _ => False
/-- one text in another -/
def inS (x y : Str) : Bool := match x.cps.toList with
  | [k] => decide (k ∈ y.cps.toList)
  | _ => !(Builtin.Str.occurrences y x 0 y.length 1).isEmpty
theorem inS_eq (x y : Str) : inS x y = !(Builtin.Str.occurrences y x 0 y.length 1).isEmpty := by
  unfold inS
  split
  · rename_i k e
    have hx : x = ⟨#[k]⟩ := by
      cases x with | mk cps => cases cps with | mk l => cases (show l = [k] from e); rfl
    subst hx
    exact (PySem.StrLaws.found_one y k).symm
  · rfl
def seqOf : D → Option (List D)
  | .lst ds => some ds
  | .fl ds => some ds
  | .tup ds => some ds
  | .ttp ds => some ds
  | _ => none
def flatD : D → Bool
  | .non => true
  | .bl _ => true
  | .int _ => true
  | .str _ => true
  | _ => false
def flatV' : D → V
  | .bl b => .bl b
  | .int i => .int i
  | .str x => .str x
  | _ => .non
def inF (x : D) (ds : List D) : Bool := inV (flatV' x) (ds.map flatV')
def fIn (neg : Bool) : F2
  | .str x, .str y, c, Φ => Φ (.bl (if neg then !inS x y else inS x y)) c
  | x, y, c, Φ => (∃ ds, seqOf y = some ds ∧ flatD x = true ∧ ds.all flatD = true ∧ Φ (.bl (if neg then !inF x ds else inF x ds)) c) ∨ ∃ p ds ps, D.py x = some p ∧ seqOf y = some ds ∧ D.pys ds = some ps ∧ SeqAt.shaped p = true ∧ SeqAt.shaped (.list ps) = true ∧ Φ (.bl (if neg then !ps.any fun z => PyData.eqv z p else ps.any fun z => PyData.eqv z p)) c
def fIsN (neg : Bool) : F2
  | .non, .non, c, Φ => Φ (.bl (!neg)) c
  | .cell _, .non, c, Φ => Φ (.bl neg) c
  | .raw _, _, _, _ => False
  | _, .non, c, Φ => Φ (.bl neg) c
  | _, _, _, _ => False
def rInT (K : PySem.W.Frag) : R2 := fun x y H Q => ∃ d ds, Dp K H x d ∧ Dp K H y (.tuple ds) ∧ SeqAt.shaped d = true ∧ SeqAt.shaped (.list ds) = true ∧ Q (.bl (ds.any fun z => PyData.eqv z d)) H
def rNinT (K : PySem.W.Frag) : R2 := fun x y H Q => ∃ d ds, Dp K H x d ∧ Dp K H y (.tuple ds) ∧ SeqAt.shaped d = true ∧ SeqAt.shaped (.list ds) = true ∧ Q (.bl (!ds.any fun z => PyData.eqv z d)) H
theorem op_inT {X : Cx} (hu : X.A.units + 65 < cLine) : OpR X (compareOp .In) (rInT X.K) := by
  intro pins s σ H x y v u Q I rx ry ⟨d, ds, hd, he, sd, se, q⟩
  obtain ⟨as, w1⟩ := Dp.reads I d x v hd rx
  obtain ⟨bs, w2⟩ := Dp.reads I (.tuple ds) y u he ry
  exact SeqAt.in_tuple_reads w2 w1 (SeqAt.canLay_of_shaped se) (SeqAt.canLay_of_shaped sd) (room_in_shaped sd hu) ⟨.bl _, H, I, rfl, q⟩
theorem op_ninT {X : Cx} (hu : X.A.units + 65 < cLine) : OpR X (compareOp .NotIn) (rNinT X.K) := by
  intro pins s σ H x y v u Q I rx ry ⟨d, ds, hd, he, sd, se, q⟩
  obtain ⟨as, w1⟩ := Dp.reads I d x v hd rx
  obtain ⟨bs, w2⟩ := Dp.reads I (.tuple ds) y u he ry
  exact SeqAt.notIn_tuple_reads w2 w1 (SeqAt.canLay_of_shaped se) (SeqAt.canLay_of_shaped sd) (room_in_shaped sd hu) ⟨.bl _, H, I, rfl, q⟩

section
variable {X : Cx} {a b e : Expr} {ta tb tc : TD} {pos : Pos} {k : Nat}
theorem pyeq_lift {K : PySem.W.Frag} {neg : Bool} {x y : D} {c : List Cell} {Φ : D → List Cell → Prop} {H : Hp} {m : Ad} {u v : V} {Q : VK} (Cc : CR K H m c) (r1 : W K H m x u) (r2 : W K H m y v) (q : KQ K H m Φ Q)
    (h : ∃ p q, D.py x = some p ∧ D.py y = some q ∧ SeqAt.shaped p = true ∧ SeqAt.shaped q = true ∧ Φ (.bl (if neg then !PyData.eqv p q else PyData.eqv p q)) c) :
    ∃ d e, Dp K H u d ∧ Dp K H v e ∧ SeqAt.shaped d = true ∧ SeqAt.shaped e = true ∧ Q (.bl (if neg then !PyData.eqv d e else PyData.eqv d e)) H := by
  obtain ⟨p, q', e1, e2, s1, s2, h⟩ := h
  exact ⟨p, q', W.dp r1 e1, W.dp r2 e2, s1, s2, q.pure Cc h rfl⟩
theorem l2_eq {K : PySem.W.Frag} : L2f K (fEq false) (fun x y H Q => rEq x y H Q ∨ rEqD K x y H Q) := by
  intro x y c Φ h H m u v Cc r1 r2 Q q
  cases x <;> cases y <;> first
    | (cases r1; cases r2; exact .inl ⟨rfl, by simpa using q.pure Cc h rfl⟩)
    | exact .inr (pyeq_lift (neg := false) Cc r1 r2 q h)
theorem l2_ne {K : PySem.W.Frag} : L2f K (fEq true) (fun x y H Q => rNe x y H Q ∨ rNeD K x y H Q) := by
  intro x y c Φ h H m u v Cc r1 r2 Q q
  cases x <;> cases y <;> first
    | (cases r1; cases r2; exact .inl ⟨rfl, by simpa using q.pure Cc h rfl⟩)
    | exact .inr (pyeq_lift (neg := true) Cc r1 r2 q h)
theorem pd_eq (hr : Room k X.A) (ha : PD X a ta) (hb : PD X b tb) : PD X (.Compare a [.Eq] [b] pos) (dBin (fEq false) ta tb) := PE.imp (pe_cmpR (op_eq.or (op_eqD hr.units)) ha hb (nomark _)) fun σ H Q h => lift_bin l2_eq h
theorem l2_cmp {K : PySem.W.Frag} {g : Int → Int → Bool} : L2f K (fCmp g) (rI0 fun i j => .bl (g i j)) := by
  intro x y c Φ h H m u v Cc r1 r2 Q q
  cases x <;> cases y <;> first | exact h.elim | skip
  cases r1; cases r2
  exact ⟨_, _, rfl, rfl, q.pure Cc h rfl⟩
abbrev fLt := fCmp fun i j => decide (i < j)
abbrev fLe := fCmp fun i j => decide (i ≤ j)
abbrev fGt := fCmp fun i j => decide (j < i)
abbrev fGe := fCmp fun i j => decide (j ≤ i)
theorem pd_le (ha : PD X a ta) (hb : PD X b tb) : PD X (.Compare a [.LtE] [b] pos) (dBin fLe ta tb) := PE.imp (pe_cmpR op_le ha hb (nomark _)) fun σ H Q h => lift_bin l2_cmp h
theorem seq_dp {K : PySem.W.Frag} {H : Hp} {m : Ad} {y : D} {v : V} {ds : List D} {ps : List PyData} (r : W K H m y v) (e1 : seqOf y = some ds) (e2 : D.pys ds = some ps) : Dp K H v (.list ps) ∨ Dp K H v (.tuple ps) := by
  cases y <;> first | (cases e1; done) | skip
  · cases e1; exact .inr (W.dp r (by rw [D.py, e2]; rfl))
  · cases e1; exact .inl (W.dp r (by rw [D.py, e2]; rfl))
  · cases e1; exact .inl (W.dp r (by rw [D.py, e2]; rfl))
  · cases e1
    obtain ⟨a, xs, z1, z2, z3⟩ := r
    exact .inr (W.dp (show W K H m (.tup ds) v from ⟨a, xs, z1, .inl (.inl z2), z3⟩) (by rw [D.py, e2]; rfl))
theorem seq_in {K : PySem.W.Frag} {m : Ad} {H : Hp} {x : D} {u : V} {ds : List D} (r : W K H m x u) (e : seqOf x = some ds) : ∃ p xs, u = .ref p ∧ (SqL K H p xs ∨ SqT K H p xs) ∧ RRL K H m ds xs := by
  cases x <;> first | (cases e; done) | skip
  · cases e; obtain ⟨p, xs, e1, h1, h2⟩ := r; exact ⟨p, xs, e1, .inr (ex_t (ex_hid m H) h1), h2⟩
  · cases e; obtain ⟨p, xs, e1, h1, h2⟩ := r; exact ⟨p, xs, e1, .inl (SqL.of h1), h2⟩
  · cases e; obtain ⟨p, xs, e1, h1, h2⟩ := r; exact ⟨p, xs, e1, .inl (ex_l (ex_hid m H) h1), h2⟩
  · cases e; obtain ⟨p, xs, e1, h1, h2⟩ := r; exact ⟨p, xs, e1, .inr (.inl (.inl (ex_hid m H _ _ h1))), h2⟩
theorem flat_v {K : PySem.W.Frag} {m : Ad} {H : Hp} {x : D} {u : V} (r : W K H m x u) (f : flatD x = true) : u = flatV' x ∧ flatV u = true := by
  cases x <;> first | (cases f; done) | (cases (show u = _ from r); exact ⟨rfl, rfl⟩)
theorem flat_vs {K : PySem.W.Frag} {m : List Addr} {H : Hp} : ∀ {ds : List D} {xs : List V}, RL K m H ds xs → ds.all flatD = true → xs = ds.map flatV' ∧ xs.all flatV = true
  | [], _, h, _ => by cases (show _ = [] from h); exact ⟨rfl, rfl⟩
  | d :: ds, _, ⟨x, r, e1, h1, h2⟩, f => by
    subst e1
    rw [List.all_cons, Bool.and_eq_true] at f
    obtain ⟨e2, f2⟩ := flat_vs h2 f.2
    have e3 : x = flatV' d ∧ flatV x = true := by
      cases d <;> first | (cases f.1; done) | (cases (show x = _ from h1); exact ⟨rfl, rfl⟩)
    exact ⟨by rw [e2, e3.1]; rfl, by rw [List.all_cons, e3.2, f2]; rfl⟩
def rInA (K : PySem.W.Frag) : R2 := fun x y H Q => (∃ i j, x = .str i ∧ y = .str j ∧ Q (.bl (!(Builtin.Str.occurrences j i 0 j.length 1).isEmpty)) H) ∨ (rIn K false x y H Q ∨ (rInD K x y H Q ∨ rInT K x y H Q))
def rNinA (K : PySem.W.Frag) : R2 := fun x y H Q => (∃ i j, x = .str i ∧ y = .str j ∧ Q (.bl (!(!(Builtin.Str.occurrences j i 0 j.length 1).isEmpty))) H) ∨ (rIn K true x y H Q ∨ (rNotInD K x y H Q ∨ rNinT K x y H Q))
theorem l2_in {K : PySem.W.Frag} : L2f K (fIn false) (rInA K) := by
  intro x y c Φ h H m u v Cc r1 r2 Q q
  have gen : (∃ ds, seqOf y = some ds ∧ flatD x = true ∧ ds.all flatD = true ∧ Φ (.bl (if false then !inF x ds else inF x ds)) c) ∨ (∃ p ds ps, D.py x = some p ∧ seqOf y = some ds ∧ D.pys ds = some ps ∧ SeqAt.shaped p = true ∧ SeqAt.shaped (.list ps) = true ∧ Φ (.bl (if false then !ps.any fun z => PyData.eqv z p else ps.any fun z => PyData.eqv z p)) c) → rInA K u v H Q := by
    rintro (⟨ds, e2, f1, f2, h⟩ | ⟨p, ds, ps, e1, e2, e3, s1, s2, h⟩)
    · obtain ⟨a, xs, rfl, sq, rl⟩ := seq_in r2 e2
      obtain ⟨ex, fx⟩ := flat_v r1 f1
      obtain ⟨exs, fxs⟩ := flat_vs rl f2
      refine .inr (.inl ⟨a, xs, rfl, sq, fx, fxs, ?_⟩)
      rw [ex, exs]
      exact q.pure Cc h rfl
    rcases seq_dp r2 e2 e3 with d | d
    · exact .inr (.inr (.inl ⟨p, ps, W.dp r1 e1, d, s1, s2, q.pure Cc h rfl⟩))
    · exact .inr (.inr (.inr ⟨p, ps, W.dp r1 e1, d, s1, s2, q.pure Cc h rfl⟩))
  cases x <;> cases y <;> first
    | exact gen h
    | (cases r1; cases r2; exact .inl ⟨_, _, rfl, rfl, by rw [← inS_eq]; exact q.pure Cc h rfl⟩)
theorem l2_nin {K : PySem.W.Frag} : L2f K (fIn true) (rNinA K) := by
  intro x y c Φ h H m u v Cc r1 r2 Q q
  have gen : (∃ ds, seqOf y = some ds ∧ flatD x = true ∧ ds.all flatD = true ∧ Φ (.bl (if true then !inF x ds else inF x ds)) c) ∨ (∃ p ds ps, D.py x = some p ∧ seqOf y = some ds ∧ D.pys ds = some ps ∧ SeqAt.shaped p = true ∧ SeqAt.shaped (.list ps) = true ∧ Φ (.bl (if true then !ps.any fun z => PyData.eqv z p else ps.any fun z => PyData.eqv z p)) c) → rNinA K u v H Q := by
    rintro (⟨ds, e2, f1, f2, h⟩ | ⟨p, ds, ps, e1, e2, e3, s1, s2, h⟩)
    · obtain ⟨a, xs, rfl, sq, rl⟩ := seq_in r2 e2
      obtain ⟨ex, fx⟩ := flat_v r1 f1
      obtain ⟨exs, fxs⟩ := flat_vs rl f2
      refine .inr (.inl ⟨a, xs, rfl, sq, fx, fxs, ?_⟩)
      rw [ex, exs]
      exact q.pure Cc h rfl
    rcases seq_dp r2 e2 e3 with d | d
    · exact .inr (.inr (.inl ⟨p, ps, W.dp r1 e1, d, s1, s2, q.pure Cc h rfl⟩))
    · exact .inr (.inr (.inr ⟨p, ps, W.dp r1 e1, d, s1, s2, q.pure Cc h rfl⟩))
  cases x <;> cases y <;> first
    | exact gen h
    | (cases r1; cases r2; exact .inl ⟨_, _, rfl, rfl, by rw [← inS_eq]; exact q.pure Cc h rfl⟩)
theorem pd_in (hr : Room k X.A) (ha : PD X a ta) (hb : PD X b tb) (hm : behindInMarks .In b = false := by rfl) : PD X (.Compare a [.In] [b] pos) (dBin (fIn false) ta tb) :=
  PE.imp (pe_cmpR (op_in_str.or (op_in_seq.or ((op_inD (by have := hr.un; omega)).or (op_inT (by have := hr.un; omega))))) ha hb hm) fun σ H Q h => lift_bin l2_in h
theorem l2_isn {K : PySem.W.Frag} : L2f K (fIsN false) (fun x y H Q => y = .non ∧ Q (.bl (decide (x = .non))) H) := by
  intro x y c Φ h H m u v Cc r1 r2 Q q
  have key : y = .non → ∀ b, decide (u = V.non) = b → Φ (.bl b) c → v = .non ∧ Q (.bl (decide (u = .non))) H := fun e b e2 h' => by
    subst e
    exact ⟨r2, by rw [e2]; exact q.pure Cc h' rfl⟩
  cases y <;> first | (cases x <;> exact h.elim) | skip
  refine key rfl _ ?_ (show Φ (.bl (match x with | .non => true | _ => false)) c by cases x <;> first | exact h | exact h.elim)
  cases x <;> first
    | (cases (show u = _ from r1); rfl)
    | (obtain ⟨_, _, rfl, _⟩ := r1; rfl)
    | (obtain ⟨_, _, rfl⟩ := r1; rfl)
    | (obtain ⟨_, _, _, rfl, _⟩ := r1; rfl)
    | (obtain ⟨_, rfl, _⟩ := r1; rfl)
    | (obtain ⟨rfl, _⟩ := r1; rfl)
    | exact h.elim
/-- a <= b <= c and its like -/
def dChain (f g : F2) (ta tb tc : TD) : TD := fun ρ c Φ => ta ρ c fun x c1 => tb ρ c1 fun y c2 => f (vw c2 x) (vw c2 y) c2 fun z c3 => match z with
  | .bl true => tc ρ c3 fun w c4 => g (vw c4 y) (vw c4 w) c4 Φ
  | .bl false => Φ (.bl false) c3
  | _ => False
theorem lift_chain {K : PySem.W.Frag} {f g : F2} {r r' : R2} {σ : L2.St} {H : Hp} {Q : VK} (lf : L2f K f r) (lg : L2f K g r') (h : lift K (dChain f g ta tb tc) σ H Q) : tChain r r' (lift K ta) (lift K tb) (lift K tc) σ H Q := by
  obtain ⟨m, ρ, c, Φ, S, h, q⟩ := h
  refine ⟨m, ρ, c, _, S, h, fun x c1 u H1 m1 hx C1 R1 L1 => ⟨m1, ρ, c1, _, S.step L1 C1, hx, fun y c2 v H2 m2 hy C2 R2 L2 => ?_⟩⟩
  refine lf _ _ c2 _ hy H2 m2 u v C2 (W.vw C2 (L2.r R1)) (W.vw C2 R2) _ fun d c3 w H3 m3 hd C3 R3 L3 => ?_
  cases d with
  | bl bo =>
    cases bo with
    | true =>
      refine ⟨true, R3, ?_⟩
      rw [if_pos rfl]
      exact ⟨m3, ρ, c3, _, S.step (L1.trans (L2.trans L3)) C3, hd, fun z c4 w4 H4 m4 hz C4 R4 L4 =>
        lg _ _ c4 Φ hz H4 m4 v w4 C4 (W.vw C4 ((L3.trans L4).r R2)) (W.vw C4 R4) Q fun d' c' w' H' m' h' C' R' L' => q d' c' w' H' m' h' C' R' (L1.trans (L2.trans (L3.trans (L4.trans L'))))⟩
    | false =>
      refine ⟨false, R3, ?_⟩
      rw [if_neg (by decide)]
      exact q (.bl false) c3 (.bl false) H3 m3 hd C3 rfl (L1.trans (L2.trans L3))
  | _ => exact hd.elim
variable {cE : Expr}
theorem pd_lele (ha : PD X a ta) (hb : PD X b tb) (hc : PD X cE tc) (hm : lastMarks [.LtE, .LtE] [b, cE] = false := by with_unfolding_all rfl) : PD X (.Compare a [.LtE, .LtE] [b, cE] pos) (dChain fLe fLe ta tb tc) :=
  PE.imp (pe_chain op_le op_le ha hb hc hm) fun σ H Q h => lift_chain l2_cmp l2_cmp h

/-! ### tests -/
def asB (Φ : Bool → List Cell → Prop) : D → List Cell → Prop
  | .bl b, c => Φ b c
  | _, _ => False
def dT (t : TD) : TDt := fun ρ c Φ => t ρ c (asB Φ)
theorem lift_T {K : PySem.W.Frag} {t : TD} {σ : L2.St} {H : Hp} {Q : Bool → Hp → Prop} (h : liftT K (dT t) σ H Q) : lift K t σ H fun x H' => ∃ k, x = .bl k ∧ Q k H' := by
  obtain ⟨m, ρ, c, Φ, S, h, q⟩ := h
  refine ⟨m, ρ, c, asB Φ, S, h, fun d c' v H' m' hd C R L => ?_⟩
  cases d with
  | bl b => cases (show v = .bl b from R); exact ⟨b, rfl, q b c' H' m' hd C L⟩
  | _ => exact hd.elim
/-- an expression that gives a truth value, as a test -/
theorem pdt_val (h : PD X e ta) (he : ∀ whole, isTrue e X.env whole = (do let v ← whole; standAt e.pos; holding [v] (truthy v)) := by intro _; rfl) : PDt X e (dT ta) :=
  PT.imp (pt_val h he) fun σ H Q h => lift_T h
theorem pdt_cmp {op : CmpOp} {f : F2} {r : R2} (ho : OpR X (compareOp op) r) (l : L2f X.K f r) (ha : PD X a ta) (hb : PD X b tb) (hm : behindInMarks op b = false) : PDt X (.Compare a [op] [b] pos) (dT (dBin f ta tb)) :=
  PT.imp (pt_cmpR ho ha hb hm) fun σ H Q h => lift_bin l (lift_T h)
theorem pdt_eq (hr : Room k X.A) (ha : PD X a ta) (hb : PD X b tb) : PDt X (.Compare a [.Eq] [b] pos) (dT (dBin (fEq false) ta tb)) := pdt_cmp (op_eq.or (op_eqD hr.units)) l2_eq ha hb (nomark _)
theorem pdt_ne (hr : Room k X.A) (ha : PD X a ta) (hb : PD X b tb) : PDt X (.Compare a [.NotEq] [b] pos) (dT (dBin (fEq true) ta tb)) := pdt_cmp (op_ne.or (op_neD hr.units)) l2_ne ha hb (nomark _)
theorem pdt_lt (ha : PD X a ta) (hb : PD X b tb) : PDt X (.Compare a [.Lt] [b] pos) (dT (dBin fLt ta tb)) := pdt_cmp op_lt l2_cmp ha hb (nomark _)
theorem pdt_gt (ha : PD X a ta) (hb : PD X b tb) : PDt X (.Compare a [.Gt] [b] pos) (dT (dBin fGt ta tb)) := pdt_cmp op_gt l2_cmp ha hb (nomark _)
theorem pdt_ge (ha : PD X a ta) (hb : PD X b tb) : PDt X (.Compare a [.GtE] [b] pos) (dT (dBin fGe ta tb)) := pdt_cmp op_ge l2_cmp ha hb (nomark _)
theorem pdt_isn (ha : PD X a ta) (hb : PD X b tb) : PDt X (.Compare a [.Is] [b] pos) (dT (dBin (fIsN false) ta tb)) := pdt_cmp op_isN l2_isn ha hb (nomark _)
theorem pdt_in (hr : Room k X.A) (ha : PD X a ta) (hb : PD X b tb) (hm : behindInMarks .In b = false := by rfl) : PDt X (.Compare a [.In] [b] pos) (dT (dBin (fIn false) ta tb)) :=
  pdt_cmp (op_in_str.or (op_in_seq.or ((op_inD (by have := hr.un; omega)).or (op_inT (by have := hr.un; omega))))) l2_in ha hb hm
theorem pdt_nin (hr : Room k X.A) (ha : PD X a ta) (hb : PD X b tb) (hm : behindInMarks .NotIn b = false := by rfl) : PDt X (.Compare a [.NotIn] [b] pos) (dT (dBin (fIn true) ta tb)) :=
  pdt_cmp (op_notin_str.or (op_notIn_seq.or ((op_notInD (by have := hr.un; omega)).or (op_ninT (by have := hr.un; omega))))) l2_nin ha hb hm
theorem pdt_lele (ha : PD X a ta) (hb : PD X b tb) (hc : PD X cE tc) (hm : lastMarks [.LtE, .LtE] [b, cE] = false := by with_unfolding_all rfl) : PDt X (.Compare a [.LtE, .LtE] [b, cE] pos) (dT (dChain fLe fLe ta tb tc)) :=
  PT.imp (pt_chain op_le op_le ha hb hc hm) fun σ H Q h => lift_chain l2_cmp l2_cmp (lift_T h)
/- and, or, not, as tests -/
variable {tA tB : TDt} {rest : List Expr}
def dOr (t u : TDt) : TDt := fun ρ c Φ => t ρ c fun b c1 => match b with | true => Φ true c1 | false => u ρ c1 Φ
def dAnd (t u : TDt) : TDt := fun ρ c Φ => t ρ c fun b c1 => match b with | true => u ρ c1 Φ | false => Φ false c1
def dNot (t : TDt) : TDt := fun ρ c Φ => t ρ c fun b c1 => Φ (!b) c1
abbrev PDw (X : Cx) (e : Expr) (t : TDt) : Prop := PW X e (liftT X.K t)
theorem PDw.pt (h : PDw X e tA) : PDt X e tA := PW.pt h
theorem pdw_or1 (ha : PDt X a tA) : PDw X (.BoolOp .Or [a] pos) tA := pw_or1 ha
theorem pdw_and1 (ha : PDt X a tA) : PDw X (.BoolOp .And [a] pos) tA := pw_and1 ha
theorem pdw_or (ha : PDt X a tA) (hb : PDw X (.BoolOp .Or (b :: rest) pos) tB) : PDw X (.BoolOp .Or (a :: b :: rest) pos) (dOr tA tB) := PW.imp (pw_or ha hb) fun σ H Q ⟨m, ρ, c, Φ, S, h, q⟩ =>
  ⟨m, ρ, c, _, S, h, fun b c1 H1 m1 hx C1 L1 => by
    cases b with
    | true => exact q true c1 H1 m1 hx C1 L1
    | false => exact ⟨m1, ρ, c1, Φ, S.step L1 C1, hx, fun b' c' H' m' h' C' L' => q b' c' H' m' h' C' (L1.trans L')⟩⟩
theorem pdw_and (ha : PDt X a tA) (hb : PDw X (.BoolOp .And (b :: rest) pos) tB) : PDw X (.BoolOp .And (a :: b :: rest) pos) (dAnd tA tB) := PW.imp (pw_and ha hb) fun σ H Q ⟨m, ρ, c, Φ, S, h, q⟩ =>
  ⟨m, ρ, c, _, S, h, fun b c1 H1 m1 hx C1 L1 => by
    cases b with
    | false => exact q false c1 H1 m1 hx C1 L1
    | true => exact ⟨m1, ρ, c1, Φ, S.step L1 C1, hx, fun b' c' H' m' h' C' L' => q b' c' H' m' h' C' (L1.trans L')⟩⟩
theorem pdt_not (ha : PDt X a tA) : PDt X (.UnaryOp .Not a pos) (dNot tA) := PT.imp (pt_not ha) fun σ H Q ⟨m, ρ, c, Φ, S, h, q⟩ =>
  ⟨m, ρ, c, _, S, h, fun b c1 H1 m1 hx C1 L1 => q (!b) c1 H1 m1 hx C1 L1⟩
/-- .. as values -/
def dAndV (t u : TD) : TD := fun ρ c Φ => t ρ c fun d c1 => match d with | .bl true => u ρ c1 Φ | .bl false => Φ (.bl false) c1 | _ => False
def dNotV (t : TD) : TD := fun ρ c Φ => t ρ c fun d c1 => match d with | .bl b => Φ (.bl (!b)) c1 | _ => False
theorem pd_one {op} (h : PD X a ta) : PD X (.BoolOp op [a] pos) ta := pe_one h
theorem pd_and (ha : PD X a ta) (hb : PD X (.BoolOp .And (b :: rest) pos) tb) : PD X (.BoolOp .And (a :: b :: rest) pos) (dAndV ta tb) := PE.imp (pe_and ha hb) fun σ H Q ⟨m, ρ, c, Φ, S, h, q⟩ =>
  ⟨m, ρ, c, _, S, h, fun d c1 v H1 m1 hx C1 R1 L1 => by
    cases d with
    | bl bo =>
      refine ⟨bo, R1, ?_⟩
      cases bo with
      | true => rw [if_pos rfl]; exact ⟨m1, ρ, c1, Φ, S.step L1 C1, hx, fun d' c' v' H' m' h' C' R' L' => q d' c' v' H' m' h' C' R' (L1.trans L')⟩
      | false => rw [if_neg (by decide)]; exact q _ c1 _ H1 m1 hx C1 rfl L1
    | _ => exact hx.elim⟩
theorem pd_not (ha : PD X a ta) : PD X (.UnaryOp .Not a pos) (dNotV ta) := PE.imp (pe_not ha) fun σ H Q ⟨m, ρ, c, Φ, S, h, q⟩ =>
  ⟨m, ρ, c, _, S, h, fun d c1 v H1 m1 hx C1 R1 L1 => by
    cases d with
    | bl bo => exact ⟨bo, R1, q _ c1 _ H1 m1 hx C1 rfl L1⟩
    | _ => exact hx.elim⟩
def dNeg (t : TD) : TD := fun ρ c Φ => t ρ c fun d c1 => match d with | .int i => Φ (.int (-i)) c1 | _ => False
theorem pd_neg (ha : PD X a ta) : PD X (.UnaryOp .USub a pos) (dNeg ta) := PE.imp (pe_un un_neg ha) fun σ H Q ⟨m, ρ, c, Φ, S, h, q⟩ =>
  ⟨m, ρ, c, _, S, h, fun d c1 v H1 m1 hx C1 R1 L1 => by
    cases d with
    | int i => exact ⟨i, R1, q _ c1 _ H1 m1 hx C1 rfl L1⟩
    | _ => exact hx.elim⟩
/-- a if t else b -/
def dIf (t : TDt) (ta tb : TD) : TD := fun ρ c Φ => t ρ c fun b c1 => match b with | true => ta ρ c1 Φ | false => tb ρ c1 Φ
theorem pd_if {cE : Expr} (hc : PDt X cE tA) (ha : PD X a ta) (hb : PD X b tb) : PD X (.IfExp cE a b pos) (dIf tA ta tb) := PE.imp (pe_ifExp hc ha hb) fun σ H Q ⟨m, ρ, c, Φ, S, h, q⟩ =>
  ⟨m, ρ, c, _, S, h, fun b c1 H1 m1 hx C1 L1 => by
    cases b with
    | true => rw [if_pos rfl]; exact ⟨m1, ρ, c1, Φ, S.step L1 C1, hx, fun d' c' v' H' m' h' C' R' L' => q d' c' v' H' m' h' C' R' (L1.trans L')⟩
    | false => rw [if_neg (by decide)]; exact ⟨m1, ρ, c1, Φ, S.step L1 C1, hx, fun d' c' v' H' m' h' C' R' L' => q d' c' v' H' m' h' C' R' (L1.trans L')⟩⟩
end
end Cw

namespace Cw
open PySem PySem.Spec PyProof.Rows L2

/-! ### a[i], a[i:j] -/
def fIx : F2
  | .str z, .int i, c, Φ => z.length ≤ sizeLine ∧ match atI z.cps.toList i with
    | some k => Φ (.str ⟨#[k]⟩) c
    | none => False
  | x, .int i, c, Φ => match seqOf x with
    | some ds => (match atI ds i with
      | some d => Φ d c
      | none => False)
    | none => False
  | _, _, _, _ => False
def cutD {α : Type} (xs : List α) (lo hi : Option Int) : List α := (xs.drop (HT.sIx xs.length 0 lo)).take (HT.sIx xs.length xs.length hi - HT.sIx xs.length 0 lo)
def fSl (x : D) (lo hi : Option Int) (c : List Cell) (Φ : D → List Cell → Prop) : Prop := match x with
  | .str z => z.length ≤ sizeLine ∧ Φ (.str (cutS z lo hi)) c
  | .tup ds => Φ (.tup (cutD ds lo hi)) c
  | .lst ds => Φ (.lst (cutD ds lo hi)) c
  | .fl ds => Φ (.lst (cutD ds lo hi)) c
  | _ => False
abbrev TDo := Env → List Cell → (Option Int → List Cell → Prop) → Prop
def liftO (K : PySem.W.Frag) (t : TDo) : TO := fun σ H Q => ∃ (m : Ad) (ρ : Env) (c : List Cell) (Φ : Option Int → List Cell → Prop), SR K σ H m ρ c ∧ t ρ c Φ ∧
  ∀ b c' H' m', Φ b c' → CR K H' m' c' → Le m H m' H' → Q b H'
def dNoPart : TDo := fun _ c Φ => Φ none c
def dPart (t : TD) : TDo := fun ρ c Φ => t ρ c fun d c1 => match d with | .int i => Φ (some i) c1 | _ => False
def dSl (ta : TD) (tl th : TDo) : TD := fun ρ c Φ => ta ρ c fun x c1 => tl ρ c1 fun l c2 => th ρ c2 fun u c3 => fSl (vw c3 x) l u c3 Φ
section
variable {X : Cx} {a b e : Expr} {es : List Expr} {ta tb : TD} {tas : TDs} {pos p2 : Pos} {k : Nat} {lo hi : Option Expr} {tl th : TDo}
theorem RL.atI {K : PySem.W.Frag} {m : List Addr} {H : Hp} {ds : List D} {xs : List V} {i : Int} {d : D} (h : RL K m H ds xs) (e : L2.atI ds i = some d) : ∃ x, L2.atI xs i = some x ∧ R K m H d x := by
  unfold L2.atI at e ⊢
  rw [rlen h]
  cases hi : ixN ds.length i with
  | none => rw [hi] at e; cases e
  | some j =>
    rw [hi] at e
    obtain ⟨x, h1, h2⟩ := RL.get (i := j) h e
    exact ⟨x, h1, h2⟩
theorem seq_view {K : PySem.W.Frag} {m : Ad} {H : Hp} {x : D} {u : V} {ds : List D} (r : W K H m x u) (e : seqOf x = some ds) : ∃ p xs, u = .ref p ∧ (SqL K H p xs ∨ SqT K H p xs) ∧ RRL K H m ds xs := by
  cases x <;> first | (cases e; done) | skip
  · cases e; obtain ⟨p, xs, e1, h1, h2⟩ := r; exact ⟨p, xs, e1, .inr (ex_t (ex_hid m H) h1), h2⟩
  · cases e; obtain ⟨p, xs, e1, h1, h2⟩ := r; exact ⟨p, xs, e1, .inl (SqL.of h1), h2⟩
  · cases e; obtain ⟨p, xs, e1, h1, h2⟩ := r; exact ⟨p, xs, e1, .inl (ex_l (ex_hid m H) h1), h2⟩
  · cases e; obtain ⟨p, xs, e1, h1, h2⟩ := r; exact ⟨p, xs, e1, .inr (.inl (.inl (ex_hid m H _ _ h1))), h2⟩
theorem l2_ix {K : PySem.W.Frag} : L2f K fIx (rIx K) := by
  intro x y c Φ h H m u v Cc r1 r2 Q q
  have gen : ∀ i : Int, y = .int i → (match seqOf x with
    | some ds => (match atI ds i with
      | some d => Φ d c
      | none => False)
    | none => False) → rIx K u v H Q := by
    rintro i rfl h
    cases e1 : seqOf x with
    | none => rw [e1] at h; exact h.elim
    | some ds =>
      rw [e1] at h
      cases e2 : atI ds i with
      | none => simp only [e2] at h
      | some d =>
        simp only [e2] at h
        obtain ⟨p, xs, rfl, sq, rl⟩ := seq_view r1 e1
        obtain ⟨w, h3, h4⟩ := RL.atI rl e2
        rcases sq with sq | sq
        · exact .inl ⟨p, xs, i, w, rfl, r2, sq, h3, q.pure Cc h h4⟩
        · exact .inr (.inl ⟨p, xs, i, w, rfl, r2, sq, h3, q.pure Cc h h4⟩)
  cases y <;> first | (cases x <;> exact h.elim) | skip
  rename_i i
  cases x <;> first
    | exact gen i rfl h
    | (rename_i z
       cases (show u = V.str z from r1)
       obtain ⟨hz, h⟩ := h
       cases e : atI z.cps.toList i with
       | none => simp only [e] at h
       | some kk => simp only [e] at h; exact .inr (.inr ⟨z, i, kk, rfl, r2, hz, e, q.pure Cc h rfl⟩))
theorem pd_ix (ha : PD X a ta) (hb : PD X b tb) (hs : PlainIx b := by exact fun _ _ => rfl) : PD X (.Subscript a b pos) (dBin fIx ta tb) := PE.imp (pe_ix ix_seq ha hb hs) fun σ H Q h => lift_bin l2_ix h
theorem po_no : PO X none (liftO X.K dNoPart) := ⟨fun pins s σ H Q I h => po_none.run pins s σ H Q I (by obtain ⟨m, ρ, c, Φ, S, h, q⟩ := h; exact q none c H m h S.cr (Le.refl _ _))⟩
theorem po_so (h : PD X e ta) : PO X (some e) (liftO X.K (dPart ta)) := ⟨fun pins s σ H Q I h' => (po_some h).run pins s σ H Q I (by
  obtain ⟨m, ρ, c, Φ, S, h, q⟩ := h'
  exact ⟨m, ρ, c, _, S, h, fun d c1 v H1 m1 hx C1 R1 L1 => by
    cases d with
    | int i => exact ⟨i, R1, q _ c1 H1 m1 hx C1 L1⟩
    | _ => exact hx.elim⟩)⟩
theorem RL.cut {K : PySem.W.Frag} {m : List Addr} {H : Hp} {ds : List D} {xs : List V} {lo hi : Option Int} (h : RL K m H ds xs) : RL K m H (cutD ds lo hi) (cutV xs lo hi) := by
  unfold cutD cutV
  rw [rlen h]
  exact RL.take _ (RL.drop _ h)
theorem pd_sl (ha : PD X a ta) (hl : PO X lo (liftO X.K tl)) (hh : PO X hi (liftO X.K th)) : PD X (.Subscript a (.Slice lo hi none p2) pos) (dSl ta tl th) :=
  PE.imp (pe_slice (sl_list.or (sl_str.or sl_tupA)) ha hl hh) fun σ H Q ⟨m, ρ, c, Φ, S, h, q⟩ =>
  ⟨m, ρ, c, _, S, h, fun x c1 u H1 m1 hx C1 R1 L1 => ⟨m1, ρ, c1, _, S.step L1 C1, hx, fun l c2 H2 m2 hl C2 L2 => ⟨m2, ρ, c2, _, S.step (L1.trans L2) C2, hl, fun r c3 H3 m3 hr C3 L3 => by
    have w := W.vw C3 ((L2.trans L3).r R1)
    have L := L1.trans (L2.trans L3)
    have q' : KQ X.K H3 m3 Φ Q := fun d c' w H' m' hd C' R' L' => q d c' w H' m' hd C' R' (L.trans L')
    revert hr w
    generalize vw c3 x = x'
    intro hr w
    cases x' <;> first | exact hr.elim | skip
    · cases (show u = _ from w); exact .inr (.inl ⟨_, rfl, hr.1, q'.pure C3 hr.2 rfl⟩)
    · obtain ⟨p, xs, rfl, h1, h2⟩ := w
      refine .inr (.inr ⟨p, xs, rfl, ex_t (ex_hid m3 H3) h1, fun e => ?_, fun _ t ht => KQ.newT (X := X) q' C3 hr (RL.cut h2) ht⟩)
      have z : cutV xs l r = xs := by
        unfold cutV
        rw [e.1, e.2]
        simp
      have z2 := RL.cut (lo := l) (hi := r) h2
      rw [z] at z2
      exact q'.pure C3 hr ⟨p, xs, rfl, h1, z2⟩
    · obtain ⟨p, xs, rfl, h1, h2⟩ := w
      exact .inl ⟨p, xs, rfl, SqL.of h1, fun t ht => KQ.newL (X := X) q' C3 hr (RL.cut h2) ht⟩
    · obtain ⟨p, xs, rfl, h1, h2⟩ := w
      exact .inl ⟨p, xs, rfl, ex_l (ex_hid m3 H3) h1, fun t ht => KQ.newL (X := X) q' C3 hr (RL.cut h2) ht⟩⟩⟩⟩

end
end Cw

namespace Cw
open PySem PySem.Spec PyProof.Rows L2

/-! ### built-in functions -/
def un1 (f : F1) : Fs
  | [x], c, Φ => f x c Φ
  | _, _, _ => False
def un2 (f : F2) : Fs
  | [x, y], c, Φ => f x y c Φ
  | _, _, _ => False
theorem p1 {α β : Type} {F : α → β → Prop} {x : α} {us : List β} (h : Paired F [x] us) : ∃ u, us = [u] ∧ F x u := by
  cases h with | cons r t => cases t; exact ⟨_, rfl, r⟩
theorem p2' {α β : Type} {F : α → β → Prop} {x y : α} {us : List β} (h : Paired F [x, y] us) : ∃ u v, us = [u, v] ∧ F x u ∧ F y v := by
  cases h with | cons r t => cases t with | cons r2 t2 => cases t2; exact ⟨_, _, rfl, r, r2⟩
theorem lsf1 {K : PySem.W.Frag} {f : F1} {r : List V → Hp → VK → Prop} (h : L1f K f (fun u H Q => r [u] H Q)) : Lsf K (un1 f) r := by
  intro xs c Φ hx H m us C p Q q
  cases xs with
  | nil => exact hx.elim
  | cons x t =>
    cases t with
    | cons _ _ => exact hx.elim
    | nil => obtain ⟨u, rfl, r1⟩ := p1 p; exact h x c Φ hx H m u C r1 Q q
theorem lsf2 {K : PySem.W.Frag} {f : F2} {r : List V → Hp → VK → Prop} (h : L2f K f (fun u v H Q => r [u, v] H Q)) : Lsf K (un2 f) r := by
  intro xs c Φ hx H m us C p Q q
  cases xs with
  | nil => exact hx.elim
  | cons x t =>
    cases t with
    | nil => exact hx.elim
    | cons y t =>
      cases t with
      | cons _ _ => exact hx.elim
      | nil => obtain ⟨u, v, rfl, r1, r2⟩ := p2' p; exact h x y c Φ hx H m u v C r1 r2 Q q
theorem CallR.or {X : Cx} {f : Value} {r r' : List V → Hp → VK → Prop} (h : CallR X f r) (h' : CallR X f r') : CallR X f (fun xs H Q => r xs H Q ∨ r' xs H Q) := by
  intro pins s σ H xs us Q I rs q
  rcases q with q | q
  · exact h pins s σ H xs us Q I rs q
  · exact h' pins s σ H xs us Q I rs q
def fLen : F1
  | .str x, c, Φ => x.length ≤ sizeLine ∧ Φ (.int x.length) c
  | .tup ds, c, Φ => Φ (.int ds.length) c
  | .lst ds, c, Φ => Φ (.int ds.length) c
  | .fl ds, c, Φ => Φ (.int ds.length) c
  | _, _, _ => False
def fInt : F1
  | .int i, c, Φ => Φ (.int i) c
  | .str x, c, Φ => x.length ≤ 640 ∧ ∃ n, PySem.intText? x = some n ∧ Φ (.int n) c
  | _, _, _ => False
def fStr : F1
  | .int i, c, Φ => i.natAbs.log2 < 1920 ∧ Φ (.str (toString i)) c
  | .str x, c, Φ => Φ (.str x) c
  | _, _, _ => False
def fAbs : F1
  | .int i, c, Φ => Φ (.int (if i < 0 then -i else i)) c
  | _, _, _ => False
def fTuple : F1
  | .tup ds, c, Φ => Φ (.tup ds) c
  | .lst ds, c, Φ => Φ (.tup ds) c
  | .fl ds, c, Φ => Φ (.tup ds) c
  | _, _, _ => False
def fMax : F2
  | .int i, .int j, c, Φ => Φ (.int (if j > i then j else i)) c
  | _, _, _, _ => False
def fMin : F2
  | .int i, .int j, c, Φ => Φ (.int (if j < i then j else i)) c
  | _, _, _, _ => False
def fDivmod : F2
  | .int i, .int j, c, Φ => (0 < j ∧ j < 1073741824) ∧ Φ (.tup [.int (i / j), .int (i % j)]) c
  | _, _, _, _ => False
def bls : List D → Option (List Bool)
  | [] => some []
  | .bl b :: r => (bls r).map (b :: ·)
  | _ => none
def fAll : F1
  | .lst ds, c, Φ => ∃ bs, bls ds = some bs ∧ Φ (.bl (bs.all id)) c
  | _, _, _ => False
theorem bls_map {K : PySem.W.Frag} {m : List Addr} {H : Hp} : ∀ (ds : List D) (xs : List V) (bs : List Bool), RL K m H ds xs → bls ds = some bs → xs = bs.map V.bl
  | [], _, _, h, e => by cases e; exact h
  | d :: ds, _, bs, ⟨x, r, e1, h1, h2⟩, e => by
    subst e1
    cases d with
    | bl b =>
      change (bls ds).map (b :: ·) = some bs at e
      cases e2 : bls ds with
      | none => rw [e2] at e; cases e
      | some cs => rw [e2] at e; cases e; cases (show x = V.bl b from h1); rw [bls_map ds r cs h2 e2]; rfl
    | _ => cases e
section
variable {X : Cx} {e e2 : Expr} {ta tb : TD} {pos pp : Pos}
theorem l1_len {K : PySem.W.Frag} : L1f K fLen (fun u H Q => ∃ x n, [u] = [x] ∧ LenV K x H n ∧ Q (.int n) H) := by
  intro x c Φ h H m u C r Q q
  cases x <;> first | exact h.elim | skip
  · cases (show u = _ from r); exact ⟨_, _, rfl, ⟨h.1, rfl⟩, q.pure C h.2 rfl⟩
  · obtain ⟨p, xs, rfl, h1, h2⟩ := r
    exact ⟨.ref p, xs.length, rfl, .inr ⟨xs, ex_t (ex_hid m H) h1, rfl⟩, by rw [rlen h2]; exact q.pure C h rfl⟩
  · obtain ⟨p, xs, rfl, h1, h2⟩ := r
    exact ⟨.ref p, xs.length, rfl, .inl ⟨xs, SqL.of h1, rfl⟩, by rw [rlen h2]; exact q.pure C h rfl⟩
  · obtain ⟨p, xs, rfl, h1, h2⟩ := r
    exact ⟨.ref p, xs.length, rfl, .inl ⟨xs, ex_l (ex_hid m H) h1, rfl⟩, by rw [rlen h2]; exact q.pure C h rfl⟩
theorem pd_B1 {name id : String} {f : F1} {r : List V → Hp → VK → Prop} (cr : CallR X (.builtin id) r) (l : L1f X.K f (fun u H Q => r [u] H Q)) (hv : bootBuiltins (Str.ofString name) = some (.builtin id)) (hn : Str.ofString name ≠ "__name__") (hd : (Str.ofString name == ("__debug__" : Str)) = false)
    (ha : PD X e ta) (hg : Gl X (Str.ofString name)) (hm : X.mg (Str.ofString name) = none) (he : starEach [e] X.env = (false, eval e X.env) :: starEach [] X.env) (hpl : (backTo pos (starEach [] X.env)).any (·.1) = false) :
    PD X (.Call (.Name (Str.ofString name) pp) [e] [] pos) (dCB (un1 f) (dCons ta dNil)) := PE.imp (pe_callB cr hg hm hv (pds_cons ha pds_nil he) hn hd he hpl) fun σ H Q h => lift_cb (lsf1 l) h
theorem pd_T1 {name id : String} {f : F1} {r : List V → Hp → VK → Prop} (cr : CallR X (.type id) r) (l : L1f X.K f (fun u H Q => r [u] H Q)) (hv : bootBuiltins (Str.ofString name) = some (.type id)) (hn : Str.ofString name ≠ "__name__") (hd : (Str.ofString name == ("__debug__" : Str)) = false)
    (ha : PD X e ta) (hg : Gl X (Str.ofString name)) (hm : X.mg (Str.ofString name) = none) (he : starEach [e] X.env = (false, eval e X.env) :: starEach [] X.env) (hpl : (backTo pos (starEach [] X.env)).any (·.1) = false) :
    PD X (.Call (.Name (Str.ofString name) pp) [e] [] pos) (dCB (un1 f) (dCons ta dNil)) := PE.imp (pe_callTy cr hg hm hv (pds_cons ha pds_nil he) hn hd he hpl) fun σ H Q h => lift_cb (lsf1 l) h
theorem pd_B2 {name id : String} {f : F2} {r : List V → Hp → VK → Prop} (cr : CallR X (.builtin id) r) (l : L2f X.K f (fun u v H Q => r [u, v] H Q)) (hv : bootBuiltins (Str.ofString name) = some (.builtin id)) (hn : Str.ofString name ≠ "__name__") (hd : (Str.ofString name == ("__debug__" : Str)) = false)
    (ha : PD X e ta) (hb : PD X e2 tb) (hg : Gl X (Str.ofString name)) (hm : X.mg (Str.ofString name) = none) (he : starEach [e, e2] X.env = (false, eval e X.env) :: starEach [e2] X.env) (he2 : starEach [e2] X.env = (false, eval e2 X.env) :: starEach [] X.env) (hpl : (backTo pos (starEach [e2] X.env)).any (·.1) = false) :
    PD X (.Call (.Name (Str.ofString name) pp) [e, e2] [] pos) (dCB (un2 f) (dCons ta (dCons tb dNil))) := PE.imp (pe_callB cr hg hm hv (pds_cons ha (pds_cons hb pds_nil he2) he) hn hd he hpl) fun σ H Q h => lift_cb (lsf2 l) h
theorem l1_int {K : PySem.W.Frag} : L1f K fInt (fun u H Q => ((∃ i, [u] = [.int i] ∧ Q (.int i) H) ∨ ∃ k, [u] = [.bl k] ∧ Q (.int (if k then 1 else 0)) H) ∨ (∃ a n, [u] = [.str a] ∧ PySem.intText? a = some n ∧ a.length ≤ 640 ∧ Q (.int n) H)) := by
  intro x c Φ h H m u C r Q q
  cases x <;> first | exact h.elim | skip
  · cases (show u = _ from r); exact .inl (.inl ⟨_, rfl, q.pure C h rfl⟩)
  · cases (show u = _ from r)
    obtain ⟨hz, n, e, h⟩ := h
    exact .inr ⟨_, n, rfl, e, hz, q.pure C h rfl⟩
theorem l1_str {K : PySem.W.Frag} : L1f K fStr (fun u H Q => (∃ i, [u] = [.int i] ∧ i.natAbs.log2 < 1920 ∧ Q (.str (toString i)) H) ∨ (∃ a, [u] = [.str a] ∧ Q (.str a) H)) := by
  intro x c Φ h H m u C r Q q
  cases x <;> first | exact h.elim | skip
  · cases (show u = _ from r); exact .inl ⟨_, rfl, h.1, q.pure C h.2 rfl⟩
  · cases (show u = _ from r); exact .inr ⟨_, rfl, q.pure C h rfl⟩
theorem l1_abs {K : PySem.W.Frag} : L1f K fAbs (fun u H Q => ∃ i, [u] = [.int i] ∧ Q (.int (if i < 0 then -i else i)) H) := by
  intro x c Φ h H m u C r Q q
  cases x <;> first | exact h.elim | skip
  cases (show u = _ from r); exact ⟨_, rfl, q.pure C h rfl⟩
theorem l2_max {K : PySem.W.Frag} : L2f K fMax (fun u v H Q => ∃ i j, [u, v] = [.int i, .int j] ∧ Q (.int (if j > i then j else i)) H) := by
  intro x y c Φ h H m u v C r1 r2 Q q
  cases x <;> cases y <;> first | exact h.elim | skip
  cases (show u = _ from r1); cases (show v = _ from r2); exact ⟨_, _, rfl, q.pure C h rfl⟩
theorem l2_min {K : PySem.W.Frag} : L2f K fMin (fun u v H Q => ∃ i j, [u, v] = [.int i, .int j] ∧ Q (.int (if j < i then j else i)) H) := by
  intro x y c Φ h H m u v C r1 r2 Q q
  cases x <;> cases y <;> first | exact h.elim | skip
  cases (show u = _ from r1); cases (show v = _ from r2); exact ⟨_, _, rfl, q.pure C h rfl⟩
theorem l2_divmod {X : Cx} : L2f X.K fDivmod (fun u v H Q => ∃ i j, [u, v] = [.int i, .int j] ∧ CDiv i j ∧ ∀ p, H p = none → Q (.ref p) (upd H p (.tup [.int (i / j), .int (i % j)]))) := by
  intro x y c Φ h H m u v C r1 r2 Q q
  cases x <;> cases y <;> first | exact h.elim | skip
  cases (show u = _ from r1); cases (show v = _ from r2)
  exact ⟨_, _, rfl, h.1, fun t ht => KQ.newT (X := X) q C h.2 ⟨_, _, rfl, rfl, _, _, rfl, rfl, rfl⟩ ht⟩
theorem l1_tuple {X : Cx} : L1f X.K fTuple (fun u H Q => ∃ p ys, [u] = [.ref p] ∧ ((SqL X.K H p ys ∧ ∀ l, H l = none → Q (.ref l) (upd H l (.tup ys))) ∨ (SqT X.K H p ys ∧ Q (.ref p) H))) := by
  intro x c Φ h H m u C r Q q
  cases x <;> first | exact h.elim | skip
  · obtain ⟨p, xs, rfl, h1, h2⟩ := r
    exact ⟨p, xs, rfl, .inr ⟨ex_t (ex_hid m H) h1, q.pure C h ⟨p, xs, rfl, h1, h2⟩⟩⟩
  · obtain ⟨p, xs, rfl, h1, h2⟩ := r
    exact ⟨p, xs, rfl, .inl ⟨SqL.of h1, fun t ht => KQ.newT (X := X) q C h h2 ht⟩⟩
  · obtain ⟨p, xs, rfl, h1, h2⟩ := r
    exact ⟨p, xs, rfl, .inl ⟨ex_l (ex_hid m H) h1, fun t ht => KQ.newT (X := X) q C h h2 ht⟩⟩
theorem l1_all {K : PySem.W.Frag} : L1f K fAll (fun u H Q => rAll K [u] H Q) := by
  intro x c Φ h H m u C r Q q
  cases x <;> first | exact h.elim | skip
  obtain ⟨p, xs, rfl, h1, h2⟩ := r
  obtain ⟨bs, e, h⟩ := h
  exact ⟨p, bs, rfl, SqL.of (by rw [h1, bls_map _ _ _ h2 e]), q.pure C h rfl⟩
end
end Cw

namespace Cw
open PySem PySem.Spec PyProof.Rows L2
section
variable {X : Cx} {e e2 o : Expr} {ta tb : TD} {pos pp apos : Pos}
theorem pd_len (ha : PD X e ta) (hm : X.mg "len" = none) (hg : Gl X "len" := by rfl) (he : starEach [e] X.env = (false, eval e X.env) :: starEach [] X.env := by rfl) (hpl : (backTo pos (starEach [] X.env)).any (·.1) = false := by rfl) :
    PD X (.Call (.Name "len" pp) [e] [] pos) (dCB (un1 fLen) (dCons ta dNil)) := pd_B1 call_len l1_len boot_len (by decide) (by decide) ha hg hm he hpl
theorem pd_intc (ha : PD X e ta) (hm : X.mg "int" = none) (hg : Gl X "int" := by rfl) (he : starEach [e] X.env = (false, eval e X.env) :: starEach [] X.env := by rfl) (hpl : (backTo pos (starEach [] X.env)).any (·.1) = false := by rfl) :
    PD X (.Call (.Name "int" pp) [e] [] pos) (dCB (un1 fInt) (dCons ta dNil)) := pd_T1 (CallR.or call_int1 call_int_str) l1_int boot_int (by decide) (by decide) ha hg hm he hpl
theorem pd_strc (ha : PD X e ta) (hm : X.mg "str" = none) (hg : Gl X "str" := by rfl) (he : starEach [e] X.env = (false, eval e X.env) :: starEach [] X.env := by rfl) (hpl : (backTo pos (starEach [] X.env)).any (·.1) = false := by rfl) :
    PD X (.Call (.Name "str" pp) [e] [] pos) (dCB (un1 fStr) (dCons ta dNil)) := pd_T1 (CallR.or call_str_int SkE.call_str_str) l1_str boot_str (by decide) (by decide) ha hg hm he hpl
theorem pd_abs (ha : PD X e ta) (hm : X.mg "abs" = none) (hg : Gl X "abs" := by rfl) (he : starEach [e] X.env = (false, eval e X.env) :: starEach [] X.env := by rfl) (hpl : (backTo pos (starEach [] X.env)).any (·.1) = false := by rfl) :
    PD X (.Call (.Name "abs" pp) [e] [] pos) (dCB (un1 fAbs) (dCons ta dNil)) := pd_B1 call_abs l1_abs boot_abs (by decide) (by decide) ha hg hm he hpl
theorem pd_max (hc : X.calm = true) (ha : PD X e ta) (hb : PD X e2 tb) (hm : X.mg "max" = none) (hg : Gl X "max" := by rfl) (he : starEach [e, e2] X.env = (false, eval e X.env) :: starEach [e2] X.env := by rfl) (he2 : starEach [e2] X.env = (false, eval e2 X.env) :: starEach [] X.env := by rfl) (hpl : (backTo pos (starEach [e2] X.env)).any (·.1) = false := by rfl) :
    PD X (.Call (.Name "max" pp) [e, e2] [] pos) (dCB (un2 fMax) (dCons ta (dCons tb dNil))) := pd_B2 (call_max2 hc) l2_max boot_max (by decide) (by decide) ha hb hg hm he he2 hpl
theorem pd_min (hc : X.calm = true) (ha : PD X e ta) (hb : PD X e2 tb) (hm : X.mg "min" = none) (hg : Gl X "min" := by rfl) (he : starEach [e, e2] X.env = (false, eval e X.env) :: starEach [e2] X.env := by rfl) (he2 : starEach [e2] X.env = (false, eval e2 X.env) :: starEach [] X.env := by rfl) (hpl : (backTo pos (starEach [e2] X.env)).any (·.1) = false := by rfl) :
    PD X (.Call (.Name "min" pp) [e, e2] [] pos) (dCB (un2 fMin) (dCons ta (dCons tb dNil))) := pd_B2 (call_min2 hc) l2_min boot_min (by decide) (by decide) ha hb hg hm he he2 hpl
theorem pd_divmod (ha : PD X e ta) (hb : PD X e2 tb) (hm : X.mg "divmod" = none) (hg : Gl X "divmod" := by rfl) (he : starEach [e, e2] X.env = (false, eval e X.env) :: starEach [e2] X.env := by rfl) (he2 : starEach [e2] X.env = (false, eval e2 X.env) :: starEach [] X.env := by rfl) (hpl : (backTo pos (starEach [e2] X.env)).any (·.1) = false := by rfl) :
    PD X (.Call (.Name "divmod" pp) [e, e2] [] pos) (dCB (un2 fDivmod) (dCons ta (dCons tb dNil))) := pd_B2 call_divmod l2_divmod boot_divmod (by decide) (by decide) ha hb hg hm he he2 hpl
theorem pd_tuplec (ha : PD X e ta) (hm : X.mg "tuple" = none) (hg : Gl X "tuple" := by rfl) (he : starEach [e] X.env = (false, eval e X.env) :: starEach [] X.env := by rfl) (hpl : (backTo pos (starEach [] X.env)).any (·.1) = false := by rfl) :
    PD X (.Call (.Name "tuple" pp) [e] [] pos) (dCB (un1 fTuple) (dCons ta dNil)) := pd_T1 call_tuple_of l1_tuple boot_tuple (by decide) (by decide) ha hg hm he hpl
theorem pd_all (hc : X.calm = true) (ha : PD X e ta) (hm : X.mg "all" = none) (hg : Gl X "all" := by rfl) (he : starEach [e] X.env = (false, eval e X.env) :: starEach [] X.env := by rfl) (hpl : (backTo pos (starEach [] X.env)).any (·.1) = false := by rfl) :
    PD X (.Call (.Name "all" pp) [e] [] pos) (dCB (un1 fAll) (dCons ta dNil)) := pd_B1 (cr_all hc) l1_all boot_all (by decide) (by decide) ha hg hm he hpl

/-! ### methods of texts -/
def fSplit : F2
  | .str a, .str b, c, Φ => (b.length == 0) = false ∧ a.length + 2 ≤ sizeLine ∧ Φ (.lst ((Txt.split a b).map .str)) c
  | _, _, _, _ => False
def txts : List D → Option (List Str)
  | [] => some []
  | .str x :: r => (txts r).map (x :: ·)
  | _ => none
def fJoin : F2
  | .str a, .lst ds, c, Φ => ∃ ys, txts ds = some ys ∧ (ys.map (·.length)).sum + ys.length * a.length ≤ 16777216 ∧ Φ (.str (Txt.join a ys)) c
  | .str a, .tup ds, c, Φ => ∃ ys, txts ds = some ys ∧ (ys.map (·.length)).sum + ys.length * a.length ≤ 16777216 ∧ Φ (.str (Txt.join a ys)) c
  | _, _, _, _ => False
def fStarts : F2
  | .str a, .str b, c, Φ => Φ (.bl (Txt.startswith a b)) c
  | _, _, _, _ => False
theorem txts_map {K : PySem.W.Frag} {m : List Addr} {H : Hp} : ∀ (ds : List D) (xs : List V) (bs : List Str), RL K m H ds xs → txts ds = some bs → xs = bs.map V.str
  | [], _, _, h, e => by cases e; exact h
  | d :: ds, _, bs, ⟨x, r, e1, h1, h2⟩, e => by
    subst e1
    cases d with
    | str b =>
      change (txts ds).map (b :: ·) = some bs at e
      cases e2 : txts ds with
      | none => rw [e2] at e; cases e
      | some cs => rw [e2] at e; cases e; cases (show x = V.str b from h1); rw [txts_map ds r cs h2 e2]; rfl
    | _ => cases e
theorem rl_txts {K : PySem.W.Frag} {m : List Addr} {H : Hp} : ∀ (ys : List Str), RL K m H (ys.map D.str) (ys.map V.str)
  | [] => rfl
  | y :: ys => ⟨_, _, rfl, rfl, rl_txts ys⟩
/-- o.m(e), o a text -/
def dM1 (f : F2) (to te : TD) : TD := fun ρ c Φ => to ρ c fun x c1 => ∃ z, x = .str z ∧ te ρ c1 fun y c2 => f (.str z) (vw c2 y) c2 Φ
theorem lift_m1 {K : PySem.W.Frag} {f : F2} {r : V → List V → Hp → VK → Prop} {σ : L2.St} {H : Hp} {Q : VK} (l : L2f K f (fun u v H Q => r u [v] H Q)) (h : lift K (dM1 f ta tb) σ H Q) : tM1 r (lift K ta) (lift K tb) σ H Q := by
  obtain ⟨m, ρ, c, Φ, S, h, q⟩ := h
  refine ⟨m, ρ, c, _, S, h, fun x c1 u H1 m1 hx C1 R1 L1 => ?_⟩
  obtain ⟨z, rfl, hx⟩ := hx
  refine ⟨⟨z, R1⟩, m1, ρ, c1, _, S.step L1 C1, hx, fun y c2 v H2 m2 hy C2 R2 L2 => ?_⟩
  exact l _ _ c2 Φ hy H2 m2 u v C2 R1 (W.vw C2 R2) Q fun d c' w H' m' hd C' R' L' => q d c' w H' m' hd C' R' (L1.trans (L2.trans L'))
theorem pd_split (ho : PD X o ta) (he : PD X e tb) (hs : starEach [e] X.env = [(false, eval e X.env)] := by rfl) (hbase : attributeBase o "split" X.env (eval o X.env) = eval o X.env := by rfl) (hline : (apos.endLine == pos.line) = true := by rfl) :
    PD X (.Call (.Attribute o "split" apos) [e] [] pos) (dM1 fSplit ta tb) := PE.imp (pe_split ho he hs hbase hline) fun σ H Q h => lift_m1 (by
      intro x y c Φ h H m u v C r1 r2 Q q
      cases x <;> cases y <;> first | exact h.elim | skip
      cases (show u = _ from r1); cases (show v = _ from r2)
      exact ⟨_, _, rfl, rfl, h.1, h.2.1, fun p hp => KQ.newL (X := X) q C h.2.2 (rl_txts _) hp⟩) h
theorem pd_join (ho : PD X o ta) (he : PD X e tb) (hs : starEach [e] X.env = [(false, eval e X.env)] := by rfl) (hbase : attributeBase o "join" X.env (eval o X.env) = eval o X.env := by rfl) (hline : (apos.endLine == pos.line) = true := by rfl) :
    PD X (.Call (.Attribute o "join" apos) [e] [] pos) (dM1 fJoin ta tb) := PE.imp (pe_join ho he hs hbase hline) fun σ H Q h => lift_m1 (by
      intro x y c Φ h H m u v C r1 r2 Q q
      cases x <;> cases y <;> first | exact h.elim | skip
      · cases (show u = _ from r1)
        obtain ⟨p, xs, rfl, h1, h2⟩ := r2
        obtain ⟨ys, e1, e2, h⟩ := h
        exact ⟨_, p, ys, rfl, rfl, .inr (by rw [← txts_map _ _ _ h2 e1]; exact ex_t (ex_hid m H) h1), e2, q.pure C h rfl⟩
      · cases (show u = _ from r1)
        obtain ⟨p, xs, rfl, h1, h2⟩ := r2
        obtain ⟨ys, e1, e2, h⟩ := h
        exact ⟨_, p, ys, rfl, rfl, .inl (by rw [← txts_map _ _ _ h2 e1]; exact SqL.of h1), e2, q.pure C h rfl⟩) h
theorem pd_starts (ho : PD X o ta) (he : PD X e tb) (hs : starEach [e] X.env = [(false, eval e X.env)] := by rfl) (hbase : attributeBase o "startswith" X.env (eval o X.env) = eval o X.env := by rfl) (hline : (apos.endLine == pos.line) = true := by rfl) :
    PD X (.Call (.Attribute o "startswith" apos) [e] [] pos) (dM1 fStarts ta tb) := PE.imp (pe_m1 F.slot_str_startswith F.type_str_startswith mt_startswith ho he hs hbase hline) fun σ H Q h => lift_m1 (by
      intro x y c Φ h H m u v C r1 r2 Q q
      cases x <;> cases y <;> first | exact h.elim | skip
      cases (show u = _ from r1); cases (show v = _ from r2)
      exact ⟨_, _, rfl, rfl, q.pure C h rfl⟩) h

/-! ### xs.append(e), xs a cell -/
def dAppend (to te : TD) : TD := fun ρ c Φ => to ρ c fun x c1 => ∃ k, x = .cell k ∧ (∃ ds, c1[k]? = some (.lst ds)) ∧ te ρ c1 fun y c2 => ∃ ds, c2[k]? = some (.lst ds) ∧ ds.length < sizeLine ∧ Φ .non (c2.set k (.lst (ds ++ [y])))
theorem cell_put {K : PySem.W.Frag} {m : Ad} {H : Hp} {c : List Cell} {k : Nat} {a : Addr} {o : HO} {ce : Cell} (C : CR K H m c) (hk : m.ix[k]? = some a) (hc : CellAt K m (upd H a o) a ce) : CR K (upd H a o) m (c.set k ce) ∧ Le m H m (upd H a o) := by
  have ha : a ∈ m.ix := List.mem_of_getElem? hk
  have l : Le m H m (upd H a o) := ⟨fun _ _ e => e, by rw [hid_mut ha]; exact Ex.refl _, rfl, fun b hb => .inl (upd_ne fun e => C.dj a ha (by rw [← e]; exact hb)), fun _ h => .inl h, fun _ h => upd_none h⟩
  refine ⟨⟨by rw [List.length_set]; exact C.len, C.nd, fun j ce' e => ?_, fun b hb => ?_, C.dj, C.tk' l⟩, l⟩
  · by_cases hj : k = j
    · subst hj
      have hl : k < c.length := by rw [← C.len]; exact (List.getElem?_eq_some_iff.mp hk).1
      rw [List.getElem?_set_self hl] at e
      cases e
      exact ⟨a, hk, hc⟩
    · rw [List.getElem?_set_ne hj] at e
      obtain ⟨b, h1, h2⟩ := C.at_ j ce' e
      have ne : b ≠ a := fun z => by
        subst z
        have h3 := (List.getElem?_eq_some_iff.mp hk)
        have h4 := (List.getElem?_eq_some_iff.mp h1)
        exact hj ((List.getElem_inj C.nd).mp (h3.2.trans h4.2.symm))
      exact ⟨b, h1, h2.step l fun o' e' => by rw [upd_ne ne]; exact e'⟩
  · obtain ⟨o', h3, h4⟩ := C.hs b hb
    exact ⟨o', by rw [upd_ne fun e => C.dj a ha (by rw [← e]; exact hb)]; exact h3, h4⟩
theorem pd_append (ho : PD X o ta) (he : PD X e tb)
    (hbase : attributeBase o "append" X.env (eval o X.env) = eval o X.env := by rfl)
    (hfew : ((backTo pos (starEach [e] X.env)).all (fun x => !x.1) && (backToKw pos (keywordEach [] X.env)).all (fun x => x.1.isSome) && decide ([e].length + ([] : List Keyword).length + (if ([] : List Keyword).isEmpty then 0 else 1) < 30)) = true := by rfl)
    (hline : (apos.endLine == pos.line) = true := by rfl) (hs : starEach [e] X.env = (false, eval e X.env) :: starEach [] X.env := by rfl) (hplain : (backTo pos (starEach [] X.env)).any (·.1) = false := by rfl) :
    PD X (.Call (.Attribute o "append" apos) [e] [] pos) (dAppend ta tb) :=
  PE.imp (pe_bm PySem.F.plainAttrs_list PySem.F.slot_list_append PySem.F.type_list_append mt_append ho (pds_cons he pds_nil hs) hbase hfew hline hs hplain) fun σ H Q ⟨m, ρ, c, Φ, S, h, q⟩ =>
  ⟨m, ρ, c, _, S, h, fun x c1 u H1 m1 hx C1 R1 L1 => by
    obtain ⟨k, rfl, ⟨ds, hk⟩, hx⟩ := hx
    obtain ⟨a, ha, rfl⟩ := R1
    obtain ⟨b, hb, xs, h1, h2⟩ := C1.at_ k _ hk
    rw [ha] at hb; cases hb
    refine ⟨.inl ⟨rfl, xs, SqL.of h1⟩, m1, ρ, c1, _, S.step L1 C1, (show dCons tb dNil ρ c1 (fun ys c2 => ∃ y, ys = [y] ∧ ∃ ds, c2[k]? = some (.lst ds) ∧ ds.length < sizeLine ∧ Φ .non (c2.set k (.lst (ds ++ [y])))) from ?_), fun ys c2 vs H2 m2 hy C2 R2 L2 => ?_⟩
    · show tb ρ c1 _
      have e : (fun x c1 => dNil ρ c1 fun xs c2 => ∃ y, x :: xs = [y] ∧ ∃ ds, c2[k]? = some (.lst ds) ∧ ds.length < sizeLine ∧ Φ .non (c2.set k (.lst (ds ++ [y])))) = fun y c2 => ∃ ds, c2[k]? = some (.lst ds) ∧ ds.length < sizeLine ∧ Φ .non (c2.set k (.lst (ds ++ [y]))) := by
        funext y c2
        apply propext
        constructor
        · rintro ⟨z, hz, r⟩; cases hz; exact r
        · intro r; exact ⟨y, rfl, r⟩
      rw [e]; exact hx
    · obtain ⟨y, rfl, es, hk2, hl, hq⟩ := hy
      obtain ⟨v, r, rfl, rv, rr⟩ := R2
      cases (show r = [] from rr)
      obtain ⟨b, hb, xs2, h3, h4⟩ := C2.at_ k _ hk2
      rw [L2.pre k a ha] at hb; cases hb
      refine ⟨a, xs2, v, rfl, rfl, h3, by rw [rlen h4]; exact hl, ?_⟩
      have hm : a ∈ m2.ix := List.mem_of_getElem? (L2.pre k a ha)
      have z := cell_put (o := .lst (xs2 ++ [v])) (ce := .lst (es ++ [y])) C2 (L2.pre k a ha) ⟨_, upd_same, by show RL _ _ (hid m2 _) _ _; rw [hid_mut hm]; exact RL.append h4 ⟨v, [], rfl, rv, rfl⟩⟩
      exact q .non _ .non _ m2 hq z.1 rfl (L1.trans (L2.trans z.2))⟩
end
end Cw

namespace Cw
open PySem PySem.Spec PyProof.Rows L2

/-! ### statements -/
structure DEnds where
  nx : Env → List Cell → Prop
  rt : D → List Cell → Prop
  bk : Env → List Cell → Prop := fun _ _ => False
  ct : Env → List Cell → Prop := fun _ _ => False
abbrev TSD := DEnds → Env → List Cell → Prop
abbrev KN (K : PySem.W.Frag) (H : Hp) (m : Ad) (Φ : Env → List Cell → Prop) (Q : L2.St → Hp → Prop) : Prop := ∀ σ' H' m' ρ' c', Φ ρ' c' → SR K σ' H' m' ρ' c' → Le m H m' H' → Q σ' H'
def liftS (K : PySem.W.Frag) (t : TSD) : TS := fun Dn σ H => ∃ (m : Ad) (ρ : Env) (c : List Cell) (De : DEnds), SR K σ H m ρ c ∧ t De ρ c ∧
  KN K H m De.nx Dn.nx ∧ KQ K H m De.rt Dn.rt ∧ KN K H m De.bk Dn.bk ∧ KN K H m De.ct Dn.ct
abbrev PSD (X : Cx) (s : Stmt) (t : TSD) : Prop := PS X s (liftS X.K t)
abbrev PSDs (X : Cx) (s : List Stmt) (t : TSD) : Prop := PSs X s (liftS X.K t)
theorem KN.le {K : PySem.W.Frag} {H H1 : Hp} {m m1 : Ad} {Φ : Env → List Cell → Prop} {Q : L2.St → Hp → Prop} (k : KN K H m Φ Q) (l : Le m H m1 H1) : KN K H1 m1 Φ Q := fun σ' H' m' ρ' c' h s l' => k σ' H' m' ρ' c' h s (l.trans l')
theorem KQ.le {K : PySem.W.Frag} {H H1 : Hp} {m m1 : Ad} {Φ : D → List Cell → Prop} {Q : VK} (k : KQ K H m Φ Q) (l : Le m H m1 H1) : KQ K H1 m1 Φ Q := fun d c' w H' m' h C R l' => k d c' w H' m' h C R (l.trans l')
def dNext : TSD := fun D ρ c => D.nx ρ c
def dSeq (t u : TSD) : TSD := fun D ρ c => t { D with nx := u D } ρ c
section
variable {X : Cx} {st : Stmt} {rest : List Stmt} {t u : TSD} {e e2 o : Expr} {ta tb : TD} {pos pos' pp apos : Pos} {tA : TDt}
theorem psd_nil : PSDs X [] dNext := PSs.imp pss_nil fun Dn σ H ⟨m, ρ, c, De, S, h, n, r, b, k⟩ => n σ H m ρ c h S (Le.refl _ _)
theorem psd_cons (h1 : PSD X st t) (h2 : PSDs X rest u) : PSDs X (st :: rest) (dSeq t u) := PSs.imp (pss_cons h1 h2) fun Dn σ H ⟨m, ρ, c, De, S, h, n, r, b, k⟩ =>
  ⟨m, ρ, c, { De with nx := u De }, S, h, fun σ' H' m' ρ' c' h' S' l => ⟨m', ρ', c', De, S', h', n.le l, r.le l, b.le l, k.le l⟩, r, b, k⟩
theorem psd_one (h1 : PSD X st t) : PSDs X [st] t := pss_one h1
def dRet (ta : TD) : TSD := fun D ρ c => ta ρ c D.rt
theorem psd_ret (h : PD X e ta) : PSD X (.Return (some e) pos) (dRet ta) := PS.imp (ps_ret h) fun Dn σ H ⟨m, ρ, c, De, S, h, n, r, b, k⟩ => ⟨m, ρ, c, De.rt, S, h, r⟩
def dDrop (ta : TD) : TSD := fun D ρ c => ta ρ c fun _ c1 => D.nx ρ c1
theorem psd_expr (h : PD X e ta) (hs : swapsWith e none pos.line X.env = pure false := by rfl) : PSD X (.Expr e pos) (dDrop ta) := PS.imp (ps_expr h hs) fun Dn σ H ⟨m, ρ, c, De, S, h, n, r, b, k⟩ =>
  ⟨m, ρ, c, _, S, h, fun d c' w H' m' hd C R L => n σ H' m' ρ c' hd (S.step L C) L⟩
def dIfS (tc : TDt) (t u : TSD) : TSD := fun D ρ c => tc ρ c fun b c1 => match b with | true => t D ρ c1 | false => u D ρ c1
theorem psd_if {cE : Expr} {a b : List Stmt} (hc : PDt X cE tA) (ha : PSDs X a t) (hb : PSDs X b u) : PSD X (.If cE a b pos) (dIfS tA t u) := PS.imp (ps_if hc ha hb) fun Dn σ H ⟨m, ρ, c, De, S, h, n, r, b, k⟩ =>
  ⟨m, ρ, c, _, S, h, fun bo c1 H1 m1 hx C1 L1 => by
    cases bo with
    | true => rw [if_pos rfl]; exact ⟨m1, ρ, c1, De, S.step L1 C1, hx, n.le L1, r.le L1, b.le L1, k.le L1⟩
    | false => rw [if_neg (by decide)]; exact ⟨m1, ρ, c1, De, S.step L1 C1, hx, n.le L1, r.le L1, b.le L1, k.le L1⟩⟩
def dNever : TSD := fun _ _ _ => False
theorem psd_never : PSD X st dNever := PS.imp ps_never fun Dn σ H ⟨m, ρ, c, De, S, h, _⟩ => h
/-! ### targets -/
theorem SR.set {K : PySem.W.Frag} {σ : L2.St} {H : Hp} {m : Ad} {ρ : Env} {c : List Cell} {i : Nat} {d : D} {v : V} (S : SR K σ H m ρ c) (r : RR K H m d v) : SR K (σ.set i (some v)) H m (ρ.set i (some d)) c := by
  refine ⟨S.cr, by rw [List.length_set, List.length_set]; exact S.len, fun j d' e => ?_⟩
  by_cases hj : i = j
  · subst hj
    have hl := (List.getElem?_eq_some_iff.mp e).1
    rw [List.length_set] at hl
    rw [List.getElem?_set_self hl] at e
    cases e
    exact ⟨v, by rw [List.getElem?_set_self (by rw [← S.len]; exact hl)], r⟩
  · rw [List.getElem?_set_ne hj] at e
    obtain ⟨w, h1, h2⟩ := S.sl j d' e
    exact ⟨w, by rw [List.getElem?_set_ne hj]; exact h1, h2⟩
def dSet (i : Nat) (ta : TD) : TSD := fun D ρ c => ta ρ c fun d c1 => D.nx (ρ.set i (some d)) c1
theorem psd_set {i : Nat} {x : Str} (hN : X.N.Nodup) (h : PD X e ta) (hi : X.N[i]? = some x := by rfl) (hx : Loc X.env.scope x := by first | exact Or.inl rfl | exact Or.inr rfl) (hs : swapsWith e (some (.Name x pos')) pos.line X.env = pure false := by rfl)
    (hf : X.fn x = true ∨ X.env.scope.names.lookup x = some .local := by first | exact .inl rfl | exact .inr rfl) : PSD X (.Assign [.Name x pos'] e pos) (dSet i ta) :=
  PS.imp (ps_set hN hi hx h hs hf) fun Dn σ H ⟨m, ρ, c, De, S, h, n, r, b, k⟩ => ⟨m, ρ, c, _, S, h, fun d c' w H' m' hd C R L => n _ H' m' _ c' hd ((S.step L C).set R) L⟩
abbrev TGD := D → Env → List Cell → (Env → List Cell → Prop) → Prop
abbrev TGDs := List D → Env → List Cell → (Env → List Cell → Prop) → Prop
def liftG (K : PySem.W.Frag) (t : TGD) : TG := fun v σ H Q => ∃ (m : Ad) (ρ : Env) (c : List Cell) (d : D) (Φ : Env → List Cell → Prop), SR K σ H m ρ c ∧ RR K H m d v ∧ t d ρ c Φ ∧ KN K H m Φ Q
def liftGs (K : PySem.W.Frag) (t : TGDs) : TGs := fun vs σ H Q => ∃ (m : Ad) (ρ : Env) (c : List Cell) (ds : List D) (Φ : Env → List Cell → Prop), SR K σ H m ρ c ∧ RRL K H m ds vs ∧ t ds ρ c Φ ∧ KN K H m Φ Q
abbrev PGD (X : Cx) (e : Expr) (t : TGD) : Prop := PG X e (liftG X.K t)
abbrev PGDs (X : Cx) (es : List Expr) (t : TGDs) : Prop := PGs X es (liftGs X.K t)
theorem PG.imp {t t' : TG} (h : PG X e t) (i : ∀ v σ H Q, t' v σ H Q → t v σ H Q) : PG X e t' := ⟨fun pins s σ H v u Q I r w => h.run pins s σ H v u Q I r (i v σ H Q w)⟩
theorem PGs.imp {es : List Expr} {t t' : TGs} (h : PGs X es t) (i : ∀ v σ H Q, t' v σ H Q → t v σ H Q) : PGs X es t' := ⟨fun pins s σ H v u Q I r w => h.run pins s σ H v u Q I r (i v σ H Q w)⟩
def gNm (i : Nat) : TGD := fun d ρ c Φ => Φ (ρ.set i (some d)) c
theorem pgd_name {i : Nat} {x : Str} (hN : X.N.Nodup) (hi : X.N[i]? = some x := by rfl) (hx : Loc X.env.scope x := by first | exact Or.inl rfl | exact Or.inr rfl) (hf : X.fn x = true ∨ X.env.scope.names.lookup x = some .local := by first | exact .inl rfl | exact .inr rfl) : PGD X (.Name x pos) (gNm i) :=
  PG.imp (pg_name hN hi hx hf) fun v σ H Q ⟨m, ρ, c, d, Φ, S, r, h, n⟩ => n _ H m _ c h (S.set r) (Le.refl _ _)
def gNl : TGDs := fun ds ρ c Φ => ds = [] ∧ Φ ρ c
def gCn (t : TGD) (u : TGDs) : TGDs := fun ds ρ c Φ => match ds with
  | d :: r => t d ρ c fun ρ1 c1 => u r ρ1 c1 Φ
  | [] => False
theorem pgds_nil : PGDs X [] gNl := PGs.imp pgs_nil fun vs σ H Q ⟨m, ρ, c, ds, Φ, S, r, h, n⟩ => by
  obtain ⟨rfl, h⟩ := h
  exact ⟨r, n σ H m ρ c h S (Le.refl _ _)⟩
theorem pgds_cons {es : List Expr} {t : TGD} {u : TGDs} (h1 : PGD X e t) (h2 : PGDs X es u) (hs : (assignEach (e :: es) X.env).map (·.2) = assign e X.env :: (assignEach es X.env).map (·.2) := by rfl) : PGDs X (e :: es) (gCn t u) :=
  PGs.imp (pgs_cons h1 h2 hs) fun vs σ H Q ⟨m, ρ, c, ds, Φ, S, r, h, n⟩ => by
    cases ds with
    | nil => exact h.elim
    | cons d ds =>
      obtain ⟨v, vr, rfl, r1, r2⟩ := r
      exact ⟨v, vr, rfl, m, ρ, c, d, _, S, r1, h, fun σ' H' m' ρ' c' h' S' l => ⟨m', ρ', c', ds, Φ, S', l.rl r2, h', n.le l⟩⟩
def gTp (k : Nat) (t : TGDs) : TGD := fun d ρ c Φ => match d with
  | .tup ds => ds.length = k ∧ t ds ρ c Φ
  | .ttp ds => ds.length = k ∧ t ds ρ c Φ
  | _ => False
theorem pgd_tup {es : List Expr} {k : Nat} {t : TGDs} {n : Nat} (hc : X.calm = true) (h : PGDs X es t) (hn : (assignEach es X.env).length = n := by rfl) (hst : (assignEach es X.env).findIdx? (·.1) = none := by rfl) : PGD X (.Tuple es k pos) (gTp n t) :=
  PG.imp (pg_tup hc h hn hst) fun v σ H Q ⟨m, ρ, c, d, Φ, S, r, h, nn⟩ => by
    cases d <;> first | exact h.elim | skip
    · obtain ⟨a, xs, rfl, h1, h2⟩ := r
      exact ⟨a, xs, rfl, ex_t (ex_hid m H) h1, by rw [rlen h2]; exact h.1, m, ρ, c, _, Φ, S, h2, h.2, nn⟩
    · obtain ⟨a, xs, rfl, h1, h2⟩ := r
      exact ⟨a, xs, rfl, .inl (.inl (ex_hid m H _ _ h1)), by rw [rlen h2]; exact h.1, m, ρ, c, _, Φ, S, h2, h.2, nn⟩
/-- xs[i] = .., xs a cell -/
def gSb (to ti : TD) : TGD := fun d ρ c Φ => to ρ c fun x c1 => ∃ k, x = .cell k ∧ ti ρ c1 fun y c2 => ∃ i ds j, y = .int i ∧ c2[k]? = some (.lst ds) ∧ ixN ds.length i = some j ∧ Φ ρ (c2.set k (.lst (ds.set j d)))
theorem pgd_sub {i : Expr} (ho : PD X o ta) (hi : PD X i tb)
    (ha : ∀ v, assign (.Subscript o i pos) X.env v = (do
      let ov ← holding [v] (eval o X.env)
      let iv ← holding [v, ov] (eval i X.env)
      standAt pos
      holding [v, ov, iv] (setItem ov iv v)
      release [v, ov, iv] []) := by intro _; rfl) : PGD X (.Subscript o i pos) (gSb ta tb) :=
  PG.imp (pg_sub ho hi set_list ha) fun v σ H Q ⟨m, ρ, c, d, Φ, S, r, h, n⟩ =>
  ⟨m, ρ, c, _, S, h, fun x c1 u H1 m1 hx C1 R1 L1 => by
    obtain ⟨k, rfl, hx⟩ := hx
    obtain ⟨a, ha, rfl⟩ := R1
    refine ⟨m1, ρ, c1, _, S.step L1 C1, hx, fun y c2 w H2 m2 hy C2 R2 L2 => ?_⟩
    obtain ⟨i', ds, j, rfl, hk, hj, hq⟩ := hy
    obtain ⟨b, hb, xs, h1, h2⟩ := C2.at_ k _ hk
    rw [L2.pre k a ha] at hb; cases hb
    refine ⟨a, xs, i', j, rfl, R2, h1, by rw [rlen h2]; exact hj, ?_⟩
    have hm : a ∈ m2.ix := List.mem_of_getElem? (L2.pre k a ha)
    have z := cell_put (o := .lst (xs.set j v)) (ce := .lst (ds.set j d)) C2 (L2.pre k a ha) ⟨_, upd_same, by show RL _ _ (hid m2 _) _ _; rw [hid_mut hm]; exact RL.set ((L1.trans L2).r r) j h2⟩
    exact n σ _ m2 ρ _ hq ((S.step (L1.trans L2) C2).step z.2 z.1) ((L1.trans L2).trans z.2)⟩
def dAsg (te : TD) (g : TGD) : TSD := fun D ρ c => te ρ c fun d c1 => g d ρ c1 D.nx
theorem psd_asg {tg : Expr} {g : TGD} (he : PD X e ta) (hg : PGD X tg g) (hs : swapsWithSole [tg] e pos.line X.env = pure false := by rfl) (hw : swappedStores [tg] e X.env = pure none := by rfl) (h1 : (assignEach [tg] X.env).map (·.2) = [assign tg X.env] := by rfl) :
    PSD X (.Assign [tg] e pos) (dAsg ta g) := PS.imp (ps_asg he hg hs hw h1) fun Dn σ H ⟨m, ρ, c, De, S, h, n, r, b, k⟩ =>
  ⟨m, ρ, c, _, S, h, fun d c' w H' m' hd C R L => ⟨m', ρ, c', d, _, S.step L C, R, hd, n.le L⟩⟩
/-- a, b = x, y -/
def dPar (i j : Nat) (ta tb : TD) : TSD := fun D ρ c => ta ρ c fun x c1 => tb ρ c1 fun y c2 => D.nx ((ρ.set i (some x)).set j (some y)) c2
theorem psd_par {i j : Nat} {x y : Str} {a b : Expr} {px py pt : Pos} {kt k2 pt2} (hc : X.calm = true) (hN : X.N.Nodup) (ha : PD X a ta) (hb : PD X b tb) (hi : X.N[i]? = some x := by rfl) (hj : X.N[j]? = some y := by rfl) (hij : i ≠ j := by decide)
    (hx : X.env.scope.names.lookup x = some .local := by rfl) (hy : X.env.scope.names.lookup y = some .local := by rfl)
    (hs2 : starEach (a :: [b]) X.env = (false, eval a X.env) :: starEach [b] X.env := by rfl) (hs1 : starEach (b :: []) X.env = (false, eval b X.env) :: starEach [] X.env := by rfl)
    (hw : swappedStores [.Tuple [.Name x px, .Name y py] kt pt] (.Tuple [a, b] k2 pt2) X.env = pure (some [x, y]) := by rfl)
    (hs : swapsWithSole [.Tuple [.Name x px, .Name y py] kt pt] (.Tuple [a, b] k2 pt2) pos.line X.env = pure false := by rfl) :
    PSD X (.Assign [.Tuple [.Name x px, .Name y py] kt pt] (.Tuple [a, b] k2 pt2) pos) (dPar i j ta tb) :=
  PS.imp (ps_par hc hN hi hj hij hx hy (pds_cons ha (pds_cons hb pds_nil hs1) hs2) hw hs) fun Dn σ H ⟨m, ρ, c, De, S, h, n, r, b, k⟩ =>
  ⟨m, ρ, c, (fun ds c2 => ∃ x y, ds = [x, y] ∧ De.nx ((ρ.set i (some x)).set j (some y)) c2), S, (show ta ρ c fun x c1 => tb ρ c1 fun y c2 => ∃ x' y', [x, y] = [x', y'] ∧ De.nx ((ρ.set i (some x')).set j (some y')) c2 by
    have e : (fun x c1 => tb ρ c1 fun y c2 => ∃ x' y', [x, y] = [x', y'] ∧ De.nx ((ρ.set i (some x')).set j (some y')) c2) = fun x c1 => tb ρ c1 fun y c2 => De.nx ((ρ.set i (some x)).set j (some y)) c2 := by
      funext x c1
      congr 1
      funext y c2
      apply propext
      constructor
      · rintro ⟨x', y', e, h⟩; cases e; exact h
      · intro h; exact ⟨x, y, rfl, h⟩
    rw [e]; exact h), fun ds c' vs H' m' hd C R L => by
      obtain ⟨x, y, rfl, hd⟩ := hd
      obtain ⟨v, r', rfl, rv, w, r'', rfl, rw', rr⟩ := R
      cases (show r'' = [] from rr)
      exact ⟨v, w, rfl, n _ H' m' _ c' hd (((S.step L C).set rv).set rw') L⟩⟩
end
end Cw

namespace Cw
open PySem PySem.Spec PyProof.Rows L2

/-! ### what is walked -/
structure Walks (K : PySem.W.Frag) (J : It) (m : Ad) (H : Hp) (ds : List D) : Prop where
  go : ∀ (i : Nat) m' H' c', Le m H m' H' → CR K H' m' c' → i < ds.length → J.go i H'
  stop : ∀ (i : Nat) m' H' c', Le m H m' H' → CR K H' m' c' → ds.length ≤ i → J.stop i H'
  yld : ∀ (i : Nat) m' H' c' x H2, Le m H m' H' → CR K H' m' c' → i < ds.length → J.yld i H' x H2 → ∃ d, ds[i]? = some d ∧ CR K H2 m' c' ∧ Le m' H' m' H2 ∧ RR K H2 m' d x
def liftI (K : PySem.W.Frag) (t : TDs) : TI := fun σ H R => ∃ (m : Ad) (ρ : Env) (c : List Cell) (Φ : List D → List Cell → Prop), SR K σ H m ρ c ∧ t ρ c Φ ∧
  ∀ ds c' J H' m', Φ ds c' → CR K H' m' c' → Walks K J m' H' ds → Le m H m' H' → R J H'
abbrev PID (X : Cx) (tg iter : Expr) (t : TDs) : Prop := PI X tg iter (liftI X.K t)
theorem PI.imp {X : Cx} {tg iter : Expr} {t t' : TI} (h : PI X tg iter t) (i : ∀ σ H R, t' σ H R → t σ H R) : PI X tg iter t' := ⟨fun pins s σ H R I w => h.run pins s σ H R I (i σ H R w)⟩
theorem RL.at {K : PySem.W.Frag} {m : List Addr} {H : Hp} {ds : List D} {xs : List V} {i : Nat} (h : RL K m H ds xs) (hi : i < ds.length) : ∃ d x, ds[i]? = some d ∧ xs[i]? = some x ∧ R K m H d x := by
  obtain ⟨x, h1, h2⟩ := RL.get (i := i) (d := ds[i]) h (List.getElem?_eq_getElem hi)
  exact ⟨_, x, List.getElem?_eq_getElem hi, h1, h2⟩
/-- the items of a list, of a tuple -/
theorem walks_list {K : PySem.W.Frag} {m : Ad} {H : Hp} {a : Addr} {ds : List D} {xs : List V} (h : SqL K (hid m H) a xs) (r : RRL K H m ds xs) : Walks K (Itl K a) m H ds where
  go := fun i m' H' c' l C hi => by
    obtain ⟨d, x, _, h2, _⟩ := RL.at r hi
    exact ⟨xs, x, ex_l (l.ex.trans (ex_hid m' H')) h, h2⟩
  stop := fun i m' H' c' l C hi => ⟨xs, ex_l (l.ex.trans (ex_hid m' H')) h, by rw [rlen r]; exact hi⟩
  yld := fun i m' H' c' x H2 l C hi ⟨e, y⟩ => by
    subst e
    obtain ⟨d, z, h1, h2, h3⟩ := RL.at r hi
    have := y xs (ex_l (l.ex.trans (ex_hid m' _)) h)
    rw [h2] at this; cases this
    exact ⟨d, h1, C, Le.refl _ _, l.r h3⟩
theorem walks_tup {K : PySem.W.Frag} {m : Ad} {H : Hp} {a : Addr} {ds : List D} {xs : List V} (h : SqT K (hid m H) a xs) (r : RRL K H m ds xs) : Walks K (Itt K a) m H ds where
  go := fun i m' H' c' l C hi => by
    obtain ⟨d, x, _, h2, _⟩ := RL.at r hi
    exact ⟨xs, x, ex_t (l.ex.trans (ex_hid m' H')) h, h2⟩
  stop := fun i m' H' c' l C hi => ⟨xs, ex_t (l.ex.trans (ex_hid m' H')) h, by rw [rlen r]; exact hi⟩
  yld := fun i m' H' c' x H2 l C hi ⟨e, y⟩ => by
    subst e
    obtain ⟨d, z, h1, h2, h3⟩ := RL.at r hi
    have := y xs (ex_t (l.ex.trans (ex_hid m' _)) h)
    rw [h2] at this; cases this
    exact ⟨d, h1, C, Le.refl _ _, l.r h3⟩
def chars (z : Str) : List D := z.cps.toList.map fun k => .str ⟨#[k]⟩
theorem walks_str {K : PySem.W.Frag} {m : Ad} {H : Hp} {z : Str} : Walks K (Its z) m H (chars z) where
  go := fun i m' H' c' l C hi => by
    show i < z.cps.size
    simpa [chars] using hi
  stop := fun i m' H' c' l C hi => by
    show z.cps.size ≤ i
    simpa [chars] using hi
  yld := fun i m' H' c' x H2 l C hi ⟨e, k, hk, hx⟩ => by
    subst e; subst hx
    refine ⟨.str ⟨#[k]⟩, ?_, C, Le.refl _ _, rfl⟩
    unfold chars
    rw [List.getElem?_map, Array.getElem?_toList, hk]
    rfl
def rng (lo : Int) (n : Nat) : List D := (List.range n).map fun i => .int (lo + (i : Nat))
theorem rng_len (lo : Int) (n : Nat) : (rng lo n).length = n := by simp [rng]
theorem walks_rng {K : PySem.W.Frag} {m : Ad} {H : Hp} {lo : Int} {n : Nat} : Walks K (Itr lo n) m H (rng lo n) where
  go := fun i m' H' c' l C hi => by rw [rng_len] at hi; exact hi
  stop := fun i m' H' c' l C hi => by rw [rng_len] at hi; exact hi
  yld := fun i m' H' c' x H2 l C hi ⟨e, hx⟩ => by
    subst e; subst hx
    rw [rng_len] at hi
    exact ⟨.int (lo + i), by unfold rng; rw [List.getElem?_map, List.getElem?_range hi]; rfl, C, Le.refl _ _, rfl⟩
section
variable {X : Cx} {tg iter e e2 o a b : Expr} {ta tb : TD} {tA : TDt} {pos pp : Pos} {ti : TDs}
def dIterL (ta : TD) : TDs := fun ρ c Φ => ta ρ c fun x c1 => match x with
  | .lst ds => Φ ds c1
  | .fl ds => Φ ds c1
  | _ => False
def dIterT (ta : TD) : TDs := fun ρ c Φ => ta ρ c fun x c1 => match x with
  | .tup ds => Φ ds c1
  | _ => False
def dIterS (ta : TD) : TDs := fun ρ c Φ => ta ρ c fun x c1 => match x with
  | .str z => Φ (chars z) c1
  | _ => False
theorem pid_list (h : PD X iter ta) : PID X tg iter (dIterL ta) := PI.imp (pi_list h) fun σ H R ⟨m, ρ, c, Φ, S, h, q⟩ =>
  ⟨m, ρ, c, _, S, h, fun d c1 v H1 m1 hx C1 R1 L1 => by
    cases d <;> first | exact hx.elim | skip
    · obtain ⟨a, xs, rfl, h1, h2⟩ := R1
      exact ⟨a, rfl, ⟨xs, SqL.of (ex_hid m1 H1 a _ h1)⟩, q _ c1 _ H1 m1 hx C1 (walks_list (SqL.of h1) h2) L1⟩
    · obtain ⟨a, xs, rfl, h1, h2⟩ := R1
      exact ⟨a, rfl, ⟨xs, ex_l (ex_hid m1 H1) h1⟩, q _ c1 _ H1 m1 hx C1 (walks_list h1 h2) L1⟩⟩
theorem pid_tup (h : PD X iter ta) : PID X tg iter (dIterT ta) := PI.imp (pi_tup h) fun σ H R ⟨m, ρ, c, Φ, S, h, q⟩ =>
  ⟨m, ρ, c, _, S, h, fun d c1 v H1 m1 hx C1 R1 L1 => by
    cases d <;> first | exact hx.elim | skip
    obtain ⟨a, xs, rfl, h1, h2⟩ := R1
    exact ⟨a, rfl, ⟨xs, ex_t (ex_hid m1 H1) h1⟩, q _ c1 _ H1 m1 hx C1 (walks_tup h1 h2) L1⟩⟩
theorem pid_str (h : PD X iter ta) : PID X tg iter (dIterS ta) := PI.imp (pi_str h) fun σ H R ⟨m, ρ, c, Φ, S, h, q⟩ =>
  ⟨m, ρ, c, _, S, h, fun d c1 v H1 m1 hx C1 R1 L1 => by
    cases d <;> first | exact hx.elim | skip
    exact ⟨_, R1, q _ c1 _ H1 m1 hx C1 walks_str L1⟩⟩
def dRng1 (ta : TD) : TDs := fun ρ c Φ => ta ρ c fun x c1 => match x with
  | .int j => (-(2 ^ 62) ≤ j ∧ j < 2 ^ 62) ∧ Φ (rng 0 j.toNat) c1
  | _ => False
theorem pid_range1 (h : PD X e ta) (hm : X.mg "range" = none) (hg : Gl X "range" := by rfl) (hs : starEach [e] X.env = [(false, eval e X.env)] := by rfl) : PID X tg (.Call (.Name "range" pp) [e] [] pos) (dRng1 ta) :=
  PI.imp (pi_range1 hg hm (pds_cons h pds_nil hs) hs) fun σ H R ⟨m, ρ, c, Φ, S, h, q⟩ =>
  ⟨m, ρ, c, (fun ds c1 => ∃ j, ds = [.int j] ∧ (-(2 ^ 62) ≤ j ∧ j < 2 ^ 62) ∧ Φ (rng 0 j.toNat) c1), S, (show ta ρ c fun x c1 => ∃ j, [x] = [.int j] ∧ (-(2 ^ 62) ≤ j ∧ j < 2 ^ 62) ∧ Φ (rng 0 j.toNat) c1 by
    have e : (fun x c1 => ∃ j, [x] = [D.int j] ∧ (-(2 ^ 62) ≤ j ∧ j < 2 ^ 62) ∧ Φ (rng 0 j.toNat) c1) = fun x c1 => match x with
      | .int j => (-(2 ^ 62) ≤ j ∧ j < 2 ^ 62) ∧ Φ (rng 0 j.toNat) c1
      | _ => False := by
      funext x c1
      apply propext
      constructor
      · rintro ⟨j, e, h⟩; cases e; exact h
      · intro h; cases x <;> first | exact h.elim | exact ⟨_, rfl, h⟩
    rw [e]; exact h), fun ds c' vs H' m' hd C R' L => by
      obtain ⟨j, rfl, ⟨h1, h2⟩, hd⟩ := hd
      obtain ⟨v, r', rfl, rv, rr⟩ := R'
      cases (show r' = [] from rr)
      cases (show v = V.int j from rv)
      exact ⟨j, rfl, h1, h2, q _ c' _ H' m' hd C walks_rng L⟩⟩
/-! ### for -/
def forD (g : TGD) (tb : TSD) (De : DEnds) : List D → Env → List Cell → Prop
  | [], ρ, c => De.nx ρ c
  | d :: ds, ρ, c => g d ρ c fun ρ1 c1 => tb ⟨forD g tb De ds, De.rt, De.nx, forD g tb De ds⟩ ρ1 c1
def dFor (ti : TDs) (g : TGD) (tb : TSD) : TSD := fun De ρ c => ti ρ c fun ds c1 => forD g tb De ds ρ c1
theorem psd_for {body : List Stmt} {g : TGD} {tb : TSD} (hp : PassesOwn (model X.prog X.w) X.A X.env X.xe) (hc : X.calm = true) (hi : PID X tg iter ti) (hg : PGD X tg g) (hb : PSDs X body tb) (hs : ∀ x, foldedSetIterable iter X.env x = pure x := by intro _; rfl) :
    PSD X (.For tg iter body [] pos) (dFor ti g tb) := PS.imp (ps_for hp hc hi hg hb hs) fun Dn σ H ⟨m, ρ, c, De, S, h, n, r, b, k⟩ =>
  ⟨m, ρ, c, _, S, h, fun ds c1 J H1 m1 hx C1 wk L1 =>
    ⟨fun i mm σ' H' => mm = ds.length - i ∧ i ≤ ds.length ∧ ∃ m' ρ' c', Le m1 H1 m' H' ∧ SR X.K σ' H' m' ρ' c' ∧ forD g tb De (ds.drop i) ρ' c',
     ⟨ds.length, by simp, Nat.zero_le _, m1, ρ, c1, Le.refl _ _, S.step L1 C1, by simpa using hx⟩, by
      rintro i mm σ' H' ⟨rfl, hi, m', ρ', c', l, S', hf⟩
      by_cases hlt : i < ds.length
      · refine .inr ⟨wk.go i m' H' c' l S'.cr hlt, fun σ2 H2 => ∃ m2 ρ2 c2, Le m1 H1 m2 H2 ∧ SR X.K σ2 H2 m2 ρ2 c2 ∧ forD g tb De (ds.drop (i + 1)) ρ2 c2, fun σ2 H2 ⟨m2, ρ2, c2, l2, S2, h2⟩ => ⟨ds.length - (i + 1), by omega, rfl, hlt, m2, ρ2, c2, l2, S2, h2⟩, fun x H2 y => ?_⟩
        obtain ⟨d, hd, C2, l2, rx⟩ := wk.yld i m' H' c' x H2 l S'.cr hlt y
        have e : ds.drop i = d :: ds.drop (i + 1) := by
          rw [List.drop_eq_getElem_cons hlt]
          congr 1
          have := List.getElem?_eq_getElem hlt
          rw [hd] at this
          exact (Option.some.inj this).symm
        rw [e] at hf
        have L2 := L1.trans (l.trans l2)
        refine ⟨m', ρ', c', d, _, S'.step l2 C2, rx, hf, fun σ3 H3 m3 ρ3 c3 h3 S3 l3 => ?_⟩
        have L3 := L2.trans l3
        refine ⟨m3, ρ3, c3, _, S3, h3, fun σ4 H4 m4 ρ4 c4 h4 S4 l4 => ?_, r.le L3, fun σ4 H4 m4 ρ4 c4 h4 S4 l4 => n σ4 H4 m4 ρ4 c4 h4 S4 (L3.trans l4), fun σ4 H4 m4 ρ4 c4 h4 S4 l4 => ?_⟩
        · exact ⟨m4, ρ4, c4, (l.trans l2).trans (l3.trans l4), S4, h4⟩
        · exact ⟨m4, ρ4, c4, (l.trans l2).trans (l3.trans l4), S4, h4⟩
      · have ei : i = ds.length := by omega
        subst ei
        refine .inl ⟨wk.stop _ m' H' c' l S'.cr (Nat.le_refl _), ?_⟩
        rw [List.drop_length] at hf
        exact n σ' H' m' ρ' c' hf S' (L1.trans l)⟩⟩
end
end Cw

namespace Cw
open PySem PySem.Spec PyProof.Rows L2

/-! ### data that names cells below n alone -/
mutual
def okD (n : Nat) : D → Bool
  | .cell k => Nat.blt k n
  | .tup ds => okDs n ds
  | .lst ds => okDs n ds
  | .fl ds => okDs n ds
  | .ins _ _ ds => okDs n ds
  | .dct _ ds => okDs n ds
  | .dcT _ ds => okDs n ds
  | .exc _ _ _ _ ds => okDs n ds
  | .exm _ _ ds => okDs n ds
  | .ttp ds => okDs n ds
  | .fn _ ds _ => okDs n ds
  | .insA _ _ _ ds => okDs n ds
  | _ => true
def okDs (n : Nat) : List D → Bool
  | [] => true
  | d :: ds => okD n d && okDs n ds
end
def okC (n : Nat) : Cell → Bool
  | .lst ds => okDs n ds
  | .obj _ _ ds => okDs n ds
  | .dct _ ds => okDs n ds
  | .dcT _ ds => okDs n ds
def okCs (n : Nat) : List Cell → Bool
  | [] => true
  | c :: cs => okC n c && okCs n cs
section
variable {K : PySem.W.Frag} {ix ix' : List Addr} {H H' : Hp} {n : Nat}
mutual
theorem R.low (e : Ex H H') (p : ∀ (k : Nat) a, k < n → ix[k]? = some a → ix'[k]? = some a) : ∀ (d : D) (v : V), okD n d = true → R K ix H d v → R K ix' H' d v
  | .non, _, _, h => h
  | .bl _, _, _, h => h
  | .int _, _, _, h => h
  | .str _, _, _, h => h
  | .tup ds, _, k, ⟨a, xs, e1, h1, h2⟩ => ⟨a, xs, e1, ex_t e h1, RL.low e p ds xs (by simpa [okD] using k) h2⟩
  | .lst ds, _, k, ⟨a, xs, e1, h1, h2⟩ => ⟨a, xs, e1, e a _ h1, RL.low e p ds xs (by simpa [okD] using k) h2⟩
  | .fl ds, _, k, ⟨a, xs, e1, h1, h2⟩ => ⟨a, xs, e1, ex_l e h1, RL.low e p ds xs (by simpa [okD] using k) h2⟩
  | .cell j, _, k, ⟨a, h1, h2⟩ => ⟨a, p j a (by simpa [okD] using k) h1, h2⟩
  | .ins _ _ ds, _, k, ⟨a, dx, fs, e1, h1, h2, h3⟩ => ⟨a, dx, fs, e1, e a _ h1, h2, RL.low e p ds _ (by simpa [okD] using k) h3⟩
  | .dct _ ds, _, k, ⟨a, kvs, e1, h1, h2, h3⟩ => ⟨a, kvs, e1, ex_rd e h1, h2, RL.low e p ds _ (by simpa [okD] using k) h3⟩
  | .dcT _ ds, _, k, ⟨a, kvs, e1, h1, h2, h3⟩ => ⟨a, kvs, e1, ex_rd e h1, h2, RL.low e p ds _ (by simpa [okD] using k) h3⟩
  | .exc _ dd _ _ ds, _, k, ⟨fs, e1, h1, h5, h6⟩ => ⟨fs, e1, e dd _ h1, h5, RL.low e p ds _ (by simpa [okD] using k) h6⟩
  | .exm _ _ ds, _, k, ⟨a, od, fs, e1, h1, h2, h5, h6⟩ => ⟨a, od, fs, e1, e a _ h1, h2.map (fun b z => e b _ z), h5, RL.low e p ds _ (by simpa [okD] using k) h6⟩
  | .ttp ds, _, k, ⟨a, xs, e1, h1, h2⟩ => ⟨a, xs, e1, e a _ h1, RL.low e p ds xs (by simpa [okD] using k) h2⟩
  | .fn L ds vs, _, k, ⟨e1, h1, h2, h3⟩ => ⟨e1, e _ _ h1, e _ _ h2, RL.low e p ds vs (by simpa [okD] using k) h3⟩
  | .insA a _ _ ds, _, k, ⟨dx, fs, e1, h1, h2, h3⟩ => ⟨dx, fs, e1, e a _ h1, h2, RL.low e p ds _ (by simpa [okD] using k) h3⟩
  | .raw _, _, _, h => h
theorem RL.low (e : Ex H H') (p : ∀ (k : Nat) a, k < n → ix[k]? = some a → ix'[k]? = some a) : ∀ (ds : List D) (xs : List V), okDs n ds = true → RL K ix H ds xs → RL K ix' H' ds xs
  | [], _, _, h => h
  | d :: ds, _, k, ⟨x, r, e1, h1, h2⟩ => by
    have k' : okD n d = true ∧ okDs n ds = true := by simpa [okDs] using k
    exact ⟨x, r, e1, R.low e p d x k'.1 h1, RL.low e p ds r k'.2 h2⟩
end
theorem okCs_at : ∀ {c : List Cell} {k : Nat} {ce : Cell}, okCs n c = true → c[k]? = some ce → okC n ce = true
  | [], _, _, _, e => by simp at e
  | x :: c, 0, _, h, e => by
    have h' : okC n x = true ∧ okCs n c = true := by simpa [okCs] using h
    simp at e; subst e; exact h'.1
  | x :: c, k + 1, _, h, e => by
    have h' : okC n x = true ∧ okCs n c = true := by simpa [okCs] using h
    exact okCs_at h'.2 (by simpa using e)
theorem okDs_map {α : Type} {n : Nat} {f : α → D} (h : ∀ x, okD n (f x) = true) : ∀ xs : List α, okDs n (xs.map f) = true
  | [] => rfl
  | x :: xs => by simp [okDs, h x, okDs_map h xs]
theorem okDs_of {n : Nat} : ∀ {ds : List D}, (∀ d ∈ ds, okD n d = true) → okDs n ds = true
  | [], _ => rfl
  | d :: ds, h => by
    show (okD n d && okDs n ds) = true
    rw [h d List.mem_cons_self, okDs_of fun x hx => h x (List.mem_cons_of_mem _ hx)]; rfl
end
/-- the last cell is no longer mutable -/
theorem CR.pop {K : PySem.W.Frag} {H : Hp} {m : Ad} {p : Addr} {c : List Cell} {ce : Cell} (C : CR K H (m.push p) (c ++ [ce])) (hk : okCs c.length c = true) : CR K H m c ∧ H p ≠ none ∧ CellAt K (m.push p) H p ce ∧ p ∉ m.ix ∧ p ∉ m.hd := by
  have hl : m.ix.length = c.length := by have := C.len; simp [Ad.push] at this; exact this
  have nd : (m.ix ++ [p]).Nodup := C.nd
  have hp : p ∉ m.ix := fun z => by
    rw [List.nodup_append] at nd
    exact nd.2.2 p z p (by simp) rfl
  have last : (m.push p).ix[c.length]? = some p := by
    show (m.ix ++ [p])[c.length]? = some p
    rw [← hl]; simp
  obtain ⟨a, h1, h2⟩ := C.at_ c.length ce (by simp)
  rw [last] at h1; cases h1
  have hex : Ex (hid (m.push p) H) (hid m H) := fun b o e => by
    obtain ⟨⟨h3, h4⟩, h5⟩ := hid_some e
    rw [hid_of ⟨fun z => h3 (List.mem_append_left _ z), h4⟩]; exact h5
  refine ⟨⟨hl, (List.nodup_append.mp nd).1, fun k ce' e => ?_, fun b hb => C.hs b hb, fun a ha => C.dj a (List.mem_append_left _ ha), fun q hq => ⟨(C.tk q hq).1, (C.tk q hq).2.keep rfl hex⟩⟩, fun z => ?_, h2, hp, fun z => C.dj p (List.mem_append_right _ (by simp)) z⟩
  · have hk' := (List.getElem?_eq_some_iff.mp e).1
    obtain ⟨a, h3, h4⟩ := C.at_ k ce' (by rw [List.getElem?_append_left hk']; exact e)
    have h5 : m.ix[k]? = some a := by
      have z : (m.ix ++ [p])[k]? = some a := h3
      rw [List.getElem?_append_left (by rw [hl]; exact hk')] at z; exact z
    refine ⟨a, h5, ?_⟩
    have low : ∀ (j : Nat) a, j < c.length → (m.push p).ix[j]? = some a → m.ix[j]? = some a := fun j a hj z => by
      have z : (m.ix ++ [p])[j]? = some a := z
      rw [List.getElem?_append_left (by rw [hl]; exact hj)] at z; exact z
    have ok := okCs_at hk e
    cases ce' with
    | lst ds => obtain ⟨xs, h6, h7⟩ := h4; exact ⟨xs, h6, RL.low hex low ds xs ok h7⟩
    | obj C' ns ds => obtain ⟨dx, fs, h6, h7, h8⟩ := h4; exact ⟨dx, fs, h6, h7, RL.low hex low ds _ ok h8⟩
    | dct ks ds => obtain ⟨kvs, h6, h7, h8⟩ := h4; exact ⟨kvs, h6, h7, RL.low hex low ds _ ok h8⟩
    | dcT ks ds => obtain ⟨kvs, h6, h7, h8⟩ := h4; exact ⟨kvs, h6, h7, RL.low hex low ds _ ok h8⟩
  · obtain ⟨o, h6⟩ := h2.obj
    rw [z] at h6; cases h6
theorem low_push {m : Ad} {p : Addr} {c : List Cell} (hl : m.ix.length = c.length) (j : Nat) (a : Addr) (hj : j < c.length) (z : (m.push p).ix[j]? = some a) : m.ix[j]? = some a := by
  have z : (m.ix ++ [p])[j]? = some a := z
  rw [List.getElem?_append_left (by rw [hl]; exact hj)] at z; exact z
theorem ex_pop {m : Ad} {p : Addr} {H : Hp} : Ex (hid (m.push p) H) (hid m H) := fun b o e => by
  obtain ⟨⟨h3, h4⟩, h5⟩ := hid_some e
  rw [hid_of ⟨fun z => h3 (List.mem_append_left _ z), h4⟩]; exact h5

theorem Ad.ext' {m m' : Ad} (h1 : m.ix = m'.ix) (h2 : m.hd = m'.hd) : m = m' := by cases m; cases m'; simp only at h1 h2; subst h1; subst h2; rfl
theorem ix_same {m m' : Ad} (p : ∀ (k : Nat) a, m.ix[k]? = some a → m'.ix[k]? = some a) (h : m'.ix.length = m.ix.length) : m'.ix = m.ix := by
  apply List.ext_getElem?
  intro k
  by_cases hk : k < m.ix.length
  · have := List.getElem?_eq_getElem hk
    rw [this, p k _ this]
  · rw [List.getElem?_eq_none (by omega), List.getElem?_eq_none (by omega)]
theorem ex_cut {m m' : Ad} {H : Hp} (p : ∀ (k : Nat) a, m.ix[k]? = some a → m'.ix[k]? = some a) (h : m'.hd = m.hd) : Ex (hid m' H) (hid m H) := fun b o e => by
  obtain ⟨⟨h1, h2⟩, h3⟩ := hid_some e
  rw [hid_of ⟨fun z => ?_, by rw [← h]; exact h2⟩]
  · exact h3
  · obtain ⟨k, hk⟩ := List.mem_iff_getElem?.mp z
    exact h1 (List.mem_of_getElem? (p k b hk))
theorem low_cut {m m' : Ad} {n : Nat} (p : ∀ (k : Nat) a, m.ix[k]? = some a → m'.ix[k]? = some a) (hn : m.ix.length = n) (j : Nat) (a : Addr) (hj : j < n) (z : m'.ix[j]? = some a) : m.ix[j]? = some a := by
  have := List.getElem?_eq_getElem (l := m.ix) (i := j) (by omega)
  rw [this]
  rw [p j _ this] at z
  exact z
theorem CR.cut {K : PySem.W.Frag} {H : Hp} {m m' : Ad} {c : List Cell} {n : Nat} (C : CR K H m' c) (p : ∀ (k : Nat) a, m.ix[k]? = some a → m'.ix[k]? = some a) (hd : m'.hd = m.hd) (hn : m.ix.length = n) (hk : okCs n (c.take n) = true) : CR K H m (c.take n) := by
  have hlen : n ≤ m'.ix.length := by
    by_cases h0 : n = 0
    · omega
    · have h1 := List.getElem?_eq_getElem (l := m.ix) (i := n - 1) (by omega)
      have := (List.getElem?_eq_some_iff.mp (p _ _ h1)).1
      omega
  have hlc : n ≤ c.length := by rw [← C.len]; exact hlen
  have pre : m.ix = m'.ix.take n := by
    apply List.ext_getElem?
    intro k
    by_cases hk : k < n
    · have := List.getElem?_eq_getElem (l := m.ix) (i := k) (by omega)
      rw [List.getElem?_take_of_lt hk, this, p k _ this]
    · rw [List.getElem?_eq_none (by omega), List.getElem?_eq_none (by rw [List.length_take]; omega)]
  refine ⟨by rw [List.length_take]; omega, by rw [pre]; exact C.nd.sublist (List.take_sublist _ _), fun k ce e => ?_, fun b hb => C.hs b (by rw [hd]; exact hb), fun a ha hb => C.dj a (by rw [pre] at ha; exact List.mem_of_mem_take ha) (by rw [hd]; exact hb), fun q hq => ⟨by rw [← hd]; exact (C.tk q hq).1, (C.tk q hq).2.keep rfl (ex_cut p hd)⟩⟩
  have hkn : k < n := by
    have := (List.getElem?_eq_some_iff.mp e).1
    rw [List.length_take] at this; omega
  have ok := okCs_at hk e
  rw [List.getElem?_take_of_lt hkn] at e
  obtain ⟨a, h1, h2⟩ := C.at_ k ce e
  refine ⟨a, low_cut p hn k a hkn h1, ?_⟩
  cases ce with
  | lst ds => obtain ⟨xs, h3, h4⟩ := h2; exact ⟨xs, h3, RL.low (ex_cut p hd) (low_cut p hn) ds xs ok h4⟩
  | obj C' ns ds => obtain ⟨dx, fs, h3, h4, h5⟩ := h2; exact ⟨dx, fs, h3, h4, RL.low (ex_cut p hd) (low_cut p hn) ds _ ok h5⟩
  | dct ks ds => obtain ⟨kvs, h3, h4, h5⟩ := h2; exact ⟨kvs, h3, h4, RL.low (ex_cut p hd) (low_cut p hn) ds _ ok h5⟩
  | dcT ks ds => obtain ⟨kvs, h3, h4, h5⟩ := h2; exact ⟨kvs, h3, h4, RL.low (ex_cut p hd) (low_cut p hn) ds _ ok h5⟩
theorem beq_t {a b : Nat} (h : Nat.beq a b = true) : a = b := Nat.eq_of_beq_eq_true h
theorem CR.same {K : PySem.W.Frag} {H H4 : Hp} {m m4 : Ad} {c3 : List Cell} (h : c3.length = m.ix.length) (C4 : CR K H4 m4 c3) (l4 : Le m H m4 H4) : m4 = m :=
  Ad.ext' (ix_same l4.pre (by rw [C4.len, h])) l4.hd
/-- cells beyond the n-th are let go -/
theorem CR.letgo {K : PySem.W.Frag} {H H4 : Hp} {m m4 : Ad} {c3 : List Cell} {n : Nat} {y : D} {v : V} (hn : m.ix.length = n) (C4 : CR K H4 m4 c3) (r : RR K H4 m4 y v) (l4 : Le m H m4 H4) (hk : okCs n (c3.take n) = true) (hy : okD n y = true) :
    CR K H4 m (c3.take n) ∧ RR K H4 m y v ∧ Le m H m H4 :=
  ⟨C4.cut l4.pre l4.hd hn hk, R.low (ex_cut l4.pre l4.hd) (low_cut l4.pre hn) y v hy r, ⟨fun _ _ e => e, l4.ex.trans (ex_cut l4.pre l4.hd), rfl, l4.hk' (ex_cut l4.pre l4.hd), fun _ h => .inl h, l4.al⟩⟩
/-- the cells behind a turn's part: as many as ahead, the new list the last -/
def inner (n : Nat) (acc : List D) (y : D) (c : List Cell) (Q : List Cell → Prop) : Prop := c[n]? = some (.lst acc) ∧ match Nat.beq c.length (n + 1) with
  | true => Q (c.take n)
  | false => okCs (n + 1) (c.take (n + 1)) = true ∧ okD (n + 1) y = true ∧ Q (c.take n)
/-- what inner says, over the heap -/
theorem inner_ok {K : PySem.W.Frag} {H H4 : Hp} {m m4 : Ad} {c3 : List Cell} {n : Nat} {acc : List D} {y : D} {v : V} {Q : List Cell → Prop} (hn : m.ix.length = n + 1) (h : inner n acc y c3 Q) (C4 : CR K H4 m4 c3) (r : RR K H4 m4 y v) (l4 : Le m H m4 H4) :
    CR K H4 m (c3.take n ++ [.lst acc]) ∧ RR K H4 m y v ∧ Le m H m H4 ∧ Q (c3.take n) ∧ (c3.take n).length = n := by
  obtain ⟨h1, h2⟩ := h
  have hlt := (List.getElem?_eq_some_iff.mp h1).1
  have ht : c3.take (n + 1) = c3.take n ++ [.lst acc] := by
    rw [List.take_add_one, h1]; rfl
  cases e : Nat.beq c3.length (n + 1) with
  | true =>
    rw [e] at h2
    have e1 := beq_t e
    have em := CR.same (by rw [hn]; exact e1) C4 l4
    subst em
    have : c3 = c3.take n ++ [.lst acc] := by rw [← ht, List.take_of_length_le (by omega)]
    rw [← this]
    exact ⟨C4, r, l4, h2, by rw [List.length_take]; omega⟩
  | false =>
    rw [e] at h2
    obtain ⟨a, b, c⟩ := CR.letgo hn C4 r l4 h2.1 h2.2.1
    rw [ht] at a
    exact ⟨a, b, c, h2.2.2, by rw [List.length_take]; omega⟩

/-! ### [e for x in ..] -/
def lcD (i : Nat) (tt : TDt) (te : TD) : List D → List D → Env → List Cell → (List D → List Cell → Prop) → Prop
  | [], acc, _, c, Φ => okCs c.length c = true ∧ okDs c.length acc = true ∧ Φ acc c
  | d :: ds, acc, ρ, c, Φ => tt (ρ.set i (some d)) (c ++ [.lst acc]) fun b c2 => match b with
    | true => te (ρ.set i (some d)) c2 fun y c3 => acc.length < sizeLine ∧ inner c.length acc y c3 fun c4 => lcD i tt te ds (acc ++ [y]) ρ c4 Φ
    | false => inner c.length acc .non c2 fun c4 => lcD i tt te ds acc ρ c4 Φ
def dLc (ti : TDs) (i : Nat) (tt : TDt) (te : TD) : TD := fun ρ c Φ => ti ρ c fun ds c1 => lcD i tt te ds [] ρ c1 fun xs c2 => Φ (.lst xs) c2
theorem wipe1 {σ : L2.St} {i : Nat} : wipe σ [i] = σ.set i none := rfl
theorem SR.blk {K : PySem.W.Frag} {σ : L2.St} {H : Hp} {m : Ad} {ρ : Env} {c : List Cell} {i : Nat} {d : D} {v : V} (S : SR K σ H m ρ c) (r : RR K H m d v) : SR K ((wipe σ [i]).set i (some v)) H m (ρ.set i (some d)) c := by
  have e : (wipe σ [i]).set i (some v) = σ.set i (some v) := by rw [wipe1, List.set_set]
  rw [e]; exact S.set r
/-- the loop of a comprehension -/
theorem lc_walk {K : PySem.W.Frag} {J : It} {m : Ad} {H1 : Hp} {ds : List D} {σ : L2.St} {ρ : Env} {c : List Cell} {i : Nat} {tt : TDt} {te : TD} {Φ : List D → List Cell → Prop} {Qd : Addr → Hp → Prop} (wk : Walks K J m H1 ds) (S : SR K σ H1 m ρ c) (h : lcD i tt te ds [] ρ c Φ)
    (q : ∀ p xs c' H', Φ xs c' → CR K H' m c' → RR K H' m (.lst xs) (.ref p) → Le m H1 m H' → Qd p H') : ∀ p, H1 p = none → ∃ W : Nat → Nat → Hp → Prop, (∃ mm, W 0 mm (upd H1 p (.lst []))) ∧ ∀ j mm H, W j mm H →
      (J.stop j H ∧ Qd p H) ∨ (J.go j H ∧ ∃ Nx : Hp → Prop, (∀ H', Nx H' → ∃ m', m' < mm ∧ W (j + 1) m' H') ∧ ∀ x H', J.yld j H x H' → gName i x (wipe σ [i]) H' fun σ2 H2 => wipe σ2 [i] = wipe σ [i] ∧ liftT K tt σ2 H2 fun b H3 =>
        if b = true then lift K te σ2 H3 fun y H4 => ∃ acc, H4 p = some (.lst acc) ∧ acc.length < sizeLine ∧ Nx (upd H4 p (.lst (acc ++ [y]))) else Nx H3) := by
  intro p hp
  have z0 := cell_new (ce := .lst []) (o := .lst []) S.cr hp ⟨[], upd_same, rfl⟩
  -- the state behind a number of turns
  refine ⟨fun j mm H => mm = ds.length - j ∧ j ≤ ds.length ∧ ∃ c' acc, c'.length = c.length ∧ CR K H (m.push p) (c' ++ [.lst acc]) ∧ Le m H1 (m.push p) H ∧ lcD i tt te (ds.drop j) acc ρ c' Φ,
    ⟨ds.length, by simp, Nat.zero_le _, c, [], rfl, z0.1, z0.2.1, by simpa using h⟩, ?_⟩
  rintro j mm H ⟨rfl, hj, c', acc, hl, C, l, hf⟩
  by_cases hlt : j < ds.length
  · have wk' := wk
    refine .inr ⟨wk.go j (m.push p) H _ l C hlt, fun H' => ∃ c' acc, c'.length = c.length ∧ CR K H' (m.push p) (c' ++ [.lst acc]) ∧ Le m H1 (m.push p) H' ∧ lcD i tt te (ds.drop (j + 1)) acc ρ c' Φ, fun H' w => ⟨ds.length - (j + 1), by omega, rfl, hlt, w⟩, fun x H2 y => ?_⟩
    obtain ⟨d, hd, C2, l2, rx⟩ := wk.yld j (m.push p) H _ x H2 l C hlt y
    have e : ds.drop j = d :: ds.drop (j + 1) := by
      rw [List.drop_eq_getElem_cons hlt]
      congr 1
      have := List.getElem?_eq_getElem hlt
      rw [hd] at this
      exact (Option.some.inj this).symm
    rw [e] at hf
    have L2 := l.trans l2
    have S2 : SR K ((wipe σ [i]).set i (some x)) H2 (m.push p) (ρ.set i (some d)) (c' ++ [.lst acc]) := (S.step L2 C2).blk rx
    refine ⟨by rw [wipe1, wipe1, List.set_set, List.set_set], m.push p, _, _, _, S2, hf, fun b c2 H3 m3 hb C3 l3 => ?_⟩
    have hmn : (m.push p).ix.length = c'.length + 1 := by
      have := C2.len
      simp at this
      exact this
    cases b with
    | false =>
      dsimp only
      rw [if_neg (by decide)]
      obtain ⟨z1, _, z2, z3, z4⟩ := inner_ok (v := .non) hmn hb C3 rfl l3
      exact ⟨c2.take c'.length, acc, by rw [z4, hl], z1, L2.trans z2, z3⟩
    | true =>
      dsimp only
      rw [if_pos rfl]
      refine ⟨m3, _, c2, _, S2.step l3 C3, hb, fun y c3 v H4 m4 hy C4 R4 l4 => ?_⟩
      obtain ⟨hsz, hin⟩ := hy
      obtain ⟨z1, z5, z2, z3, z4⟩ := inner_ok hmn hin C4 R4 (l3.trans l4)
      obtain ⟨a, h5, xs, h6, h7⟩ := z1.at_ c'.length (.lst acc) (by rw [List.getElem?_append_right (by omega), z4]; simp)
      have last : (m.push p).ix[c'.length]? = some p := by
        show (m.ix ++ [p])[c'.length]? = some p
        rw [hl, ← S.cr.len]; simp
      rw [last] at h5; cases h5
      refine ⟨xs, h6, by rw [rlen h7]; exact hsz, ?_⟩
      have hm : p ∈ (m.push p).ix := List.mem_of_getElem? last
      have z := cell_put (o := .lst (xs ++ [v])) (ce := .lst (acc ++ [y])) z1 last ⟨_, upd_same, by show RL _ _ (hid (m.push p) _) _ _; rw [hid_mut hm]; exact RL.append h7 ⟨v, [], rfl, z5, rfl⟩⟩
      have ec : (c3.take c'.length ++ [Cell.lst acc]).set c'.length (.lst (acc ++ [y])) = c3.take c'.length ++ [.lst (acc ++ [y])] := by
        rw [List.set_append_right _ _ (by omega), z4]; simp
      rw [ec] at z
      exact ⟨c3.take c'.length, acc ++ [y], by rw [z4, hl], z.1, (L2.trans z2).trans z.2, z3⟩
  · have ej : j = ds.length := by omega
    subst ej
    rw [List.drop_length] at hf
    obtain ⟨h1, h2, h3⟩ := hf
    obtain ⟨C', _, ⟨xs, h4, h5⟩, hp1, hp2⟩ := C.pop h1
    refine .inl ⟨wk.stop _ (m.push p) H _ l C (Nat.le_refl _), q p acc c' H h3 C' ⟨p, xs, rfl, by rw [hid_of ⟨hp1, hp2⟩]; exact h4, RL.low ex_pop (low_push C'.len) acc xs h2 h5⟩ ⟨fun _ _ e => e, l.ex.trans ex_pop, rfl, l.hk' ex_pop, fun _ h => .inl h, l.al⟩⟩
section
variable {X : Cx} {tg iter e elt : Expr} {ta te : TD} {tt : TDt} {pos pp tp : Pos} {ti : TDs} {ifs : List Expr} {scope : Scope} {x y : Str} {i j : Nat}
abbrev PTD (X : Cx) (ifs : List Expr) (t : TDt) : Prop := PTs X ifs (liftT X.K t)
def dYes : TDt := fun _ c Φ => Φ true c
theorem ptd_nil : PTD X [] dYes := ⟨fun pins s σ H Q I ⟨m, ρ, c, Φ, S, h, q⟩ => pts_nil.run pins s σ H Q I (q true c H m h S.cr (Le.refl _ _))⟩
theorem ptd_one (h : PDt X e tt) : PTD X [e] tt := pts_one h
theorem pd_lc (hc : X.calm = true) (hN : X.N.Nodup) (hi : PID X (.Name x tp) iter ti) (ok : blkC X.N X.env.scope scope [(x, i)] = true)
    (hg : ∀ (s : Shared) (H : Hp) (C : Addr) (cl : List (Str × Addr)) (fp : List Addr), PG (X.blk s H scope (compEnvC scope cl C X.env) fp) (.Name x tp) (gName i))
    (ht : ∀ (s : Shared) (H : Hp) (C : Addr) (cl : List (Str × Addr)) (fp : List Addr), PTD (X.blk s H scope (compEnvC scope cl C X.env) fp) ifs tt)
    (he : ∀ (s : Shared) (H : Hp) (C : Addr) (cl : List (Str × Addr)) (fp : List Addr), PD (X.blk s H scope (compEnvC scope cl C X.env) fp) elt te) (hs : ∀ x, foldedSetIterable iter X.env x = pure x := by intro _; rfl) :
    PD X (.ListComp elt [⟨.Name x tp, iter, ifs, 0⟩] scope pos) (dLc ti i tt te) :=
  PE.imp (pe_lc (own := [(x, i)]) hc hN hi (blkOk_by ok) hg ht he hs) fun σ H Q ⟨m, ρ, c, Φ, S, h, q⟩ =>
    ⟨m, ρ, c, _, S, h, fun ds c1 J H1 m1 hx C1 wk L1 => lc_walk wk (S.step L1 C1) hx fun p xs c' H' h' C' R' l' => q _ c' _ H' m1 h' C' R' (L1.trans l')⟩
/-- y = [e for x in ..] -/
theorem psd_setLc {spos py : Pos} (hc : X.calm = true) (hN : X.N.Nodup) (hy : X.N[j]? = some y) (hyl : X.env.scope.names.lookup y = some .local)
    (hsw : swapsWith (.ListComp elt [⟨.Name x tp, iter, ifs, 0⟩] scope pos) (some (.Name y py)) spos.line X.env = pure true)
    (hi : PID X (.Name x tp) iter ti) (ok : blkC X.N X.env.scope scope [(x, i)] = true)
    (hg : ∀ (s : Shared) (H : Hp) (C : Addr) (cl : List (Str × Addr)) (fp : List Addr), PG (X.blk s H scope (compEnvC scope cl C X.env) fp) (.Name x tp) (gName i))
    (ht : ∀ (s : Shared) (H : Hp) (C : Addr) (cl : List (Str × Addr)) (fp : List Addr), PTD (X.blk s H scope (compEnvC scope cl C X.env) fp) ifs tt)
    (he : ∀ (s : Shared) (H : Hp) (C : Addr) (cl : List (Str × Addr)) (fp : List Addr), PD (X.blk s H scope (compEnvC scope cl C X.env) fp) elt te) (hs : ∀ x, foldedSetIterable iter X.env x = pure x := by intro _; rfl) :
    PSD X (.Assign [.Name y py] (.ListComp elt [⟨.Name x tp, iter, ifs, 0⟩] scope pos) spos) (dSet j (dLc ti i tt te)) :=
  PS.imp (ps_setLc (i := j) (own := [(x, i)]) hc hN hy hyl hsw hi (blkOk_by ok) hg ht he hs) fun Dn σ H ⟨m, ρ, c, De, S, h, n, r, b, k⟩ =>
    ⟨m, ρ, c, _, S, h, fun ds c1 J H1 m1 hx C1 wk L1 => lc_walk wk (S.step L1 C1) hx fun p xs c' H' h' C' R' l' => n _ H' m1 _ c' h' ((S.step (L1.trans l') C').set R') (L1.trans l')⟩
end
end Cw

namespace Cw
open PySem PySem.Spec PyProof.Rows L2

/-! ### what a def promises, over data -/
abbrev Pm := List Cell → List D → (D → List Cell → Prop) → Prop
def spD (K : PySem.W.Frag) (n0 np : Nat) (S : Pm) : Sp := fun vs H Q _ => ∃ (m : Ad) (c : List Cell) (ds : List D) (Φ : D → List Cell → Prop), c.length = n0 ∧ ds.length = np ∧ CR K H m c ∧ RRL K H m ds vs ∧ S c ds Φ ∧
  ∀ d c' w H', Φ d c' → CR K H' m c' → RR K H' m d w → Le m H m H' → Q w H'
/-- a cell beyond the n0-th is let go: what it held stays -/
def melt1 (n0 : Nat) (c : List Cell) : D → Option D
  | .cell k => match c[k]? with
    | some (.lst es) => if Nat.ble n0 k && okDs n0 es then some (.lst es) else none
    | _ => none
  | d => if okD n0 d then some d else none
def melts (n0 : Nat) (c : List Cell) : List D → Option (List D)
  | [] => some []
  | d :: ds => match melt1 n0 c d, melts n0 c ds with
    | some e, some es => some (e :: es)
    | _, _ => none
def retD (n0 : Nat) (Φ : D → List Cell → Prop) (d : D) (c : List Cell) : Prop := match Nat.beq c.length n0 with
  | true => Φ d c
  | false => okCs n0 (c.take n0) = true ∧ match d with
    | .cell k => match c[k]? with
      | some (.dct ks ds) => ∃ es, Nat.ble n0 k = true ∧ melts n0 c ds = some es ∧ Φ (.dct ks es) (c.take n0)
      | _ => ∃ ds, c[k]? = some (.lst ds) ∧ Nat.ble n0 k = true ∧ okDs n0 ds = true ∧ Φ (.lst ds) (c.take n0)
    | .dct ks ds => ∃ es, melts n0 c ds = some es ∧ Φ (.dct ks es) (c.take n0)
    | d => okD n0 d = true ∧ Φ d (c.take n0)
def startD (N : List Str) (ds : List D) : Env := ds.map some ++ List.replicate (N.length - ds.length) none
theorem melt_ok {K : PySem.W.Frag} {H' : Hp} {m m' : Ad} {c' : List Cell} {n0 : Nat} (hn : m.ix.length = n0) (pre : ∀ (k : Nat) a, m.ix[k]? = some a → m'.ix[k]? = some a) (hd : m'.hd = m.hd) (C : CR K H' m' c') (ex : Ex (hid m' H') (hid m H')) :
    ∀ {d e : D} {v : V}, melt1 n0 c' d = some e → RR K H' m' d v → RR K H' m e v := by
  have gen : ∀ {d e : D} {v : V}, (if okD n0 d then some d else none) = some e → RR K H' m' d v → RR K H' m e v := fun {d e v} h r => by
    by_cases hk : okD n0 d = true
    · rw [if_pos hk] at h; cases h
      exact R.low ex (low_cut pre hn) _ v hk r
    · rw [if_neg hk] at h; cases h
  intro d e v h r
  cases d with
  | cell k =>
    obtain ⟨a, h5, rfl⟩ := r
    have h : (match c'[k]? with
      | some (.lst es) => if Nat.ble n0 k && okDs n0 es then some (D.lst es) else none
      | _ => none) = some e := h
    cases e1 : c'[k]? with
    | none => rw [e1] at h; cases h
    | some ce =>
      rw [e1] at h
      cases ce with
      | lst es =>
        have h : (if Nat.ble n0 k && okDs n0 es then some (D.lst es) else none) = some e := h
        by_cases hb : (Nat.ble n0 k && okDs n0 es) = true
        · rw [if_pos hb] at h
          cases h
          obtain ⟨b1, b2⟩ := Bool.and_eq_true_iff.mp hb
          obtain ⟨b, h6, xs, h7, h8⟩ := C.at_ k _ e1
          rw [h5] at h6; cases h6
          refine ⟨a, xs, rfl, ?_, RL.low ex (low_cut pre hn) es xs b2 h8⟩
          rw [hid_of ⟨fun z => ?_, fun z => C.dj a (List.mem_of_getElem? h5) (by rw [hd]; exact z)⟩]
          · exact h7
          · obtain ⟨j, hj⟩ := List.mem_iff_getElem?.mp z
            have hj2 := pre j a hj
            have e1 := (List.getElem?_eq_some_iff.mp h5)
            have e2 := (List.getElem?_eq_some_iff.mp hj2)
            have : k = j := (List.getElem_inj C.nd).mp (e1.2.trans e2.2.symm)
            subst this
            have := (List.getElem?_eq_some_iff.mp hj).1
            have := Nat.le_of_ble_eq_true b1
            omega
        · rw [if_neg hb] at h; cases h
      | obj _ _ _ => cases h
      | dct _ _ => cases h
      | dcT _ _ => cases h
  | non => exact gen (d := .non) h r
  | bl b => exact gen (d := .bl b) h r
  | int i => exact gen (d := .int i) h r
  | str x => exact gen (d := .str x) h r
  | tup ds => exact gen (d := .tup ds) h r
  | lst ds => exact gen (d := .lst ds) h r
  | fl ds => exact gen (d := .fl ds) h r
  | ins C' ns ds => exact gen (d := .ins C' ns ds) h r
  | dct _ _ => exact gen (d := .dct _ _) h r
  | dcT _ _ => exact gen (d := .dcT _ _) h r
  | exc a dd C' ns ds => exact gen (d := .exc a dd C' ns ds) h r
  | exm C' ns ds => exact gen (d := .exm C' ns ds) h r
  | ttp ds => exact gen (d := .ttp ds) h r
  | fn L ds vs => exact gen (d := .fn L ds vs) h r
  | insA a C' ns ds => exact gen (d := .insA a C' ns ds) h r
  | raw v => exact gen (d := .raw v) h r
theorem melts_ok {K : PySem.W.Frag} {H' : Hp} {m m' : Ad} {c' : List Cell} {n0 : Nat} (hn : m.ix.length = n0) (pre : ∀ (k : Nat) a, m.ix[k]? = some a → m'.ix[k]? = some a) (hd : m'.hd = m.hd) (C : CR K H' m' c') (ex : Ex (hid m' H') (hid m H')) :
    ∀ {ds es : List D} {vs : List V}, melts n0 c' ds = some es → RRL K H' m' ds vs → RRL K H' m es vs
  | [], es, vs, h, r => by cases h; exact r
  | d :: ds, es, vs, h, r => by
    obtain ⟨x, t, rfl, r1, r2⟩ := r
    unfold melts at h
    cases e1 : melt1 n0 c' d with
    | none => rw [e1] at h; cases h
    | some e =>
      cases e2 : melts n0 c' ds with
      | none => rw [e1, e2] at h; cases h
      | some es' =>
        rw [e1, e2] at h; cases h
        exact ⟨x, t, rfl, melt_ok hn pre hd C ex e1 r1, melts_ok hn pre hd C ex e2 r2⟩
theorem ret_ok {K : PySem.W.Frag} {H H' : Hp} {m m' : Ad} {c' : List Cell} {Φ : D → List Cell → Prop} {d : D} {v : V} {Q : VK} {n0 : Nat} (hn : m.ix.length = n0) (q : ∀ d c' w H', Φ d c' → CR K H' m c' → RR K H' m d w → Le m H m H' → Q w H')
    (h : retD n0 Φ d c') (C : CR K H' m' c') (r : RR K H' m' d v) (l : Le m H m' H') : Q v H' := by
  unfold retD at h
  cases e : Nat.beq c'.length n0 with
  | true =>
    rw [e] at h
    have e1 := ix_same l.pre (by rw [C.len, beq_t e, hn])
    have em : m' = m := Ad.ext' e1 l.hd
    subst em
    exact q d c' v H' h C r l
  | false =>
    rw [e] at h
    obtain ⟨hk, h⟩ := h
    have C' := C.cut l.pre l.hd hn hk
    have ex : Ex (hid m' H') (hid m H') := ex_cut l.pre l.hd
    have l' : Le m H m H' := ⟨fun _ _ e => e, l.ex.trans ex, rfl, l.hk' ex, fun _ h => .inl h, l.al⟩
    have gen : ∀ d', okD n0 d' = true ∧ Φ d' (c'.take n0) → RR K H' m' d' v → Q v H' := fun d' ⟨h1, h2⟩ r => q d' _ v H' h2 C' (R.low ex (low_cut l.pre hn) d' v h1 r) l'
    cases d with
    | cell k =>
      have lst : (∃ ds, c'[k]? = some (.lst ds) ∧ Nat.ble n0 k = true ∧ okDs n0 ds = true ∧ Φ (.lst ds) (c'.take n0)) → Q v H' := fun h => by
        obtain ⟨ds, h1, h2, h3, h4⟩ := h
        obtain ⟨a, h5, rfl⟩ := r
        obtain ⟨b, h6, xs, h7, h8⟩ := C.at_ k _ h1
        rw [h5] at h6; cases h6
        refine q (.lst ds) _ (.ref a) H' h4 C' ⟨a, xs, rfl, ?_, RL.low ex (low_cut l.pre hn) ds xs h3 h8⟩ l'
        rw [hid_of ⟨fun z => ?_, fun z => C.dj a (List.mem_of_getElem? h5) (by rw [l.hd]; exact z)⟩]
        · exact h7
        · obtain ⟨j, hj⟩ := List.mem_iff_getElem?.mp z
          have hj2 := l.pre j a hj
          have e1 := (List.getElem?_eq_some_iff.mp h5)
          have e2 := (List.getElem?_eq_some_iff.mp hj2)
          have : k = j := (List.getElem_inj C.nd).mp (e1.2.trans e2.2.symm)
          subst this
          have := (List.getElem?_eq_some_iff.mp hj).1
          have := Nat.le_of_ble_eq_true h2
          omega
      have h : (match c'[k]? with
        | some (.dct ks ds) => ∃ es, Nat.ble n0 k = true ∧ melts n0 c' ds = some es ∧ Φ (.dct ks es) (c'.take n0)
        | _ => ∃ ds, c'[k]? = some (.lst ds) ∧ Nat.ble n0 k = true ∧ okDs n0 ds = true ∧ Φ (.lst ds) (c'.take n0)) := h
      cases e1 : c'[k]? with
      | none => rw [e1] at h lst; exact lst h
      | some ce =>
        cases ce with
        | lst es => rw [e1] at h lst; exact lst h
        | obj _ _ _ => rw [e1] at h lst; exact lst h
        | dcT _ _ => rw [e1] at h lst; exact lst h
        | dct ks ds =>
          rw [e1] at h
          obtain ⟨es, h2, h3, h4⟩ := h
          obtain ⟨a, h5, rfl⟩ := r
          obtain ⟨b, h6, kvs, h7, h8, h9⟩ := C.at_ k _ e1
          rw [h5] at h6; cases h6
          refine q (.dct ks es) _ (.ref a) H' h4 C' ⟨a, kvs, rfl, .inl ?_, h8, melts_ok hn l.pre l.hd C ex h3 h9⟩ l'
          rw [hid_of ⟨fun z => ?_, fun z => C.dj a (List.mem_of_getElem? h5) (by rw [l.hd]; exact z)⟩]
          · exact h7
          · obtain ⟨j, hj⟩ := List.mem_iff_getElem?.mp z
            have hj2 := l.pre j a hj
            have e1 := (List.getElem?_eq_some_iff.mp h5)
            have e2 := (List.getElem?_eq_some_iff.mp hj2)
            have : k = j := (List.getElem_inj C.nd).mp (e1.2.trans e2.2.symm)
            subst this
            have := (List.getElem?_eq_some_iff.mp hj).1
            have := Nat.le_of_ble_eq_true h2
            omega
    | non => exact gen _ h r
    | bl b => exact gen _ h r
    | int i => exact gen _ h r
    | str x => exact gen _ h r
    | tup ds => exact gen _ h r
    | lst ds => exact gen _ h r
    | fl ds => exact gen _ h r
    | ins C' ns ds => exact gen _ h r
    | exc a dd C' ns ds => exact gen _ h r
    | exm C' ns ds => exact gen _ h r
    | ttp ds => exact gen _ h r
    | fn L ds vs => exact gen _ h r
    | dct ks ds =>
      obtain ⟨es, h1, h2⟩ := h
      obtain ⟨a, kvs, rfl, h3, h4, h5⟩ := r
      exact q (.dct ks es) _ (.ref a) H' h2 C' ⟨a, kvs, rfl, ex_rd ex h3, h4, melts_ok hn l.pre l.hd C ex h1 h5⟩ l'
    | dcT ks ds => exact gen _ h r
    | insA a C' ns ds => exact gen _ h r
    | raw w => exact gen _ h r
theorem start_slots {K : PySem.W.Frag} {H : Hp} {m : Ad} {c : List Cell} {N : List Str} {ds : List D} {vs : List V} (C : CR K H m c) (r : RRL K H m ds vs) : SR K (L2.start N vs) H m (startD N ds) c := by
  have hl := RL.length r
  refine ⟨C, by unfold startD L2.start; rw [List.length_append, List.length_append, List.length_map, List.length_map, List.length_replicate, List.length_replicate, hl], fun i d e => ?_⟩
  unfold startD at e
  by_cases hi : i < ds.length
  · rw [List.getElem?_append_left (by simpa using hi), List.getElem?_map] at e
    cases e1 : ds[i]? with
    | none => rw [e1] at e; cases e
    | some d' =>
      rw [e1] at e; cases e
      obtain ⟨x, h1, h2⟩ := RL.get r e1
      refine ⟨x, ?_, h2⟩
      unfold L2.start
      rw [List.getElem?_append_left (by simp; omega), List.getElem?_map, h1]; rfl
  · rw [List.getElem?_append_right (by simpa using hi)] at e
    rw [List.getElem?_replicate] at e
    split at e <;> cases e
section
variable {P : Program} {w : World} {K : PySem.W.Frag} {mg : Str → Option Value} {base : Heap}
/-- THE RULE for a def, over data -/
theorem fnD {x qual : Str} {st : Stmt} {f : Addr} {fd : FuncData} {N ps : List Str} {k n0 : Nat} {S : Pm} (F : Fun K x qual st f fd) (Sc : FnScope N ps (defScope st))
    (hbody : ∀ (cdv : Value) (A : Around) (outer : List PySem.Env) (s : Shared) (H : Hp) (E : XK), Room k (A.deeper (envOfC qual (defScope st) s.heap.objs.size f cdv)) →
      ∃ ts, PSDs (cxOf CX0 P w K mg base N qual (defScope st) f cdv A outer s H E).nox (defBody st) ts ∧
        ∀ c ds Φ, c.length = n0 → ds.length = ps.length → S c ds Φ → ts ⟨fun _ c' => retD n0 Φ .non c', retD n0 Φ, fun _ _ => False, fun _ _ => False⟩ (startD N ds) c) :
    FnOk P w K mg base CX0 (k + 1) f fd ps (spD K n0 ps.length S) := by
  refine F.ok Sc (fun vs H Q E h => ?_) (fun cdv A outer s H vs Q E hr h => ?_)
  · obtain ⟨m, c, ds, Φ, h1, h2, C, r, _⟩ := h
    rw [← RL.length r]; exact h2
  · obtain ⟨m, c, ds, Φ, h1, h2, C, r, hS, q⟩ := h
    obtain ⟨ts, hp, ht⟩ := hbody cdv A outer s H E hr
    have hn : m.ix.length = n0 := by rw [C.len]; exact h1
    exact ⟨_, hp, m, startD N ds, c, _, start_slots C r, ht c ds Φ h1 h2 hS, fun σ' H' m' ρ' c' h' S' l => ret_ok hn q h' S'.cr rfl l, fun d c' v H' m' h' C' r' l => ret_ok hn q h' C' r' l, fun _ _ _ _ _ z => z.elim, fun _ _ _ _ _ z => z.elim⟩
end

/-! ### calls -/
/-- nothing that may change is handed in -/
def callP (S : Pm) (ds : List D) (c : List Cell) (Φ : D → List Cell → Prop) : Prop := okDs 0 ds = true ∧ S [] ds fun d _ => Φ d c
/-- the first argument is a mutable object -/
def callM (S : Pm) (ds : List D) (c : List Cell) (Φ : D → List Cell → Prop) : Prop := match ds with
  | .cell k :: r => ∃ ce, c[k]? = some ce ∧ okC 0 ce = true ∧ okDs 0 r = true ∧ S [ce] (.cell 0 :: r) fun d c' => match c' with
    | [ce'] => okC 0 ce' = true ∧ okD 0 d = true ∧ Φ d (c.set k ce')
    | _ => False
  | _ => False
section
variable {K : PySem.W.Frag} {m : Ad} {H : Hp} {c : List Cell}
def Ad.none (m : Ad) : Ad := ⟨[], m.hd ++ m.ix⟩
theorem hid_none (m : Ad) (H : Hp) : hid m.none H = hid m H := by
  funext b
  unfold hid Ad.none
  by_cases h : b ∈ m.ix
  · simp [h]
  · by_cases h2 : b ∈ m.hd <;> simp [h, h2]
theorem _root_.Cw.TabK.of_hid {m m' : Ad} {H : Hp} {P : Addr} (t : TabK m H P) (e : hid m H = hid m' H) : TabK m' H P := t.keep rfl (by rw [e]; exact Ex.refl _)
theorem CR.tk_none (C : CR K H m c) : ∀ p ∈ tabsK K, p ∈ m.none.hd ∧ TabK m.none H p := fun p hp => ⟨List.mem_append_left _ (C.tk p hp).1, (C.tk p hp).2.of_hid (hid_none m H).symm⟩
theorem sp_pure {S : Pm} {np : Nat} {ds : List D} {vs : List V} {Φ : D → List Cell → Prop} {Q : VK} {E : XK} (C : CR K H m c) (r : RRL K H m ds vs) (hl : ds.length = np) (h : callP S ds c Φ) (q : KQ K H m Φ Q) : spD K 0 np S vs H Q E := by
  obtain ⟨ok, hS⟩ := h
  have hall : ∀ b ∈ m.hd ++ m.ix, ∃ o, H b = some o ∧ Mu o := fun b hb => by
    rcases List.mem_append.mp hb with z | z
    · exact C.hs b z
    · obtain ⟨k, hk⟩ := List.mem_iff_getElem?.mp z
      obtain ⟨ce, _, h2⟩ := C.some_at hk
      exact h2.mu
  have C0 : CR K H m.none [] := ⟨rfl, List.nodup_nil, fun k ce e => by simp at e, hall, fun a ha => (by cases ha), C.tk_none⟩
  refine ⟨m.none, [], ds, _, rfl, hl, C0, ?_, hS, fun d c' w H' hd C' r' l => ?_⟩
  · show RL K [] (hid m.none H) ds vs
    rw [hid_none]
    exact RL.low (n := 0) (Ex.refl _) (fun k a hk => absurd hk (Nat.not_lt_zero _)) ds vs ok r
  · have hex : Ex (hid m H) (hid m H') := by
      have := l.ex
      rw [hid_none, hid_none] at this
      exact this
    have l' : Le m H m H' := ⟨fun _ _ e => e, hex, rfl, fun b hb => (l.hk b (List.mem_append_left _ hb)).imp id fun z => ⟨z.1, fun t => by
      have := z.2 (t.of_hid (hid_none m H).symm)
      exact this.of_hid (hid_none m H')⟩, fun _ h => .inl h, l.al⟩
    refine q d c w H' m hd ⟨C.len, C.nd, fun k ce e => ?_, fun b hb => l'.hs hb (C.hs b hb), C.dj, C.tk' l'⟩ ?_ l'
    · obtain ⟨a, h1, h2⟩ := C.at_ k ce e
      exact ⟨a, h1, h2.step l' fun o e' => l.kcell (List.mem_append_right _ (List.mem_of_getElem? h1)) h2 e'⟩
    · have r2 : R K [] (hid m.none H') d w := r'
      rw [hid_none] at r2
      exact R.mono (Ex.refl _) (fun k a e => by simp at e) d w r2
def Ad.one (m : Ad) (k : Nat) (a : Addr) : Ad := ⟨[a], m.hd ++ m.ix.eraseIdx k⟩
theorem hid_one {k : Nat} {a : Addr} (hk : m.ix[k]? = some a) (H : Hp) : hid (m.one k a) H = hid m H := by
  funext b
  unfold hid Ad.one
  have e : b ∈ m.ix ↔ b = a ∨ b ∈ m.ix.eraseIdx k := by
    obtain ⟨hlt, he⟩ := List.getElem?_eq_some_iff.mp hk
    constructor
    · intro h
      by_cases hb : b = a
      · exact .inl hb
      · refine .inr ?_
        rw [List.mem_eraseIdx_iff_getElem?]
        obtain ⟨j, hj⟩ := List.mem_iff_getElem?.mp h
        exact ⟨j, fun z => by subst z; rw [hk] at hj; exact hb (Option.some.inj hj).symm, hj⟩
    · rintro (rfl | h)
      · exact List.mem_of_getElem? hk
      · exact List.mem_of_mem_eraseIdx h
  have e2 : (b ∈ [a] ∨ b ∈ m.hd ++ m.ix.eraseIdx k) ↔ (b ∈ m.ix ∨ b ∈ m.hd) := by
    rw [List.mem_singleton, List.mem_append, e]
    constructor
    · rintro (h | h | h)
      · exact .inl (.inl h)
      · exact .inr h
      · exact .inl (.inr h)
    · rintro ((h | h) | h)
      · exact .inl h
      · exact .inr (.inr h)
      · exact .inr (.inl h)
  by_cases h : b ∈ m.ix ∨ b ∈ m.hd
  · rw [if_pos (e2.mpr h), if_pos h]
  · rw [if_neg (fun z => h (e2.mp z)), if_neg h]
theorem sp_one {S : Pm} {np : Nat} {ds : List D} {vs : List V} {Φ : D → List Cell → Prop} {Q : VK} {E : XK} (C : CR K H m c) (r : RRL K H m ds vs) (hl : ds.length = np) (h : callM S ds c Φ) (q : KQ K H m Φ Q) : spD K 1 np S vs H Q E := by
  unfold callM at h
  cases ds with
  | nil => exact h.elim
  | cons d0 rest =>
    cases d0 <;> first | exact h.elim | skip
    rename_i k
    obtain ⟨v, vr, e1, ⟨a, hk, e2⟩, rr⟩ := r
    obtain ⟨ce, hce, ok1, ok2, hS⟩ := h
    subst e1; subst e2
    have hnd : a ∉ m.ix.eraseIdx k := fun z => by
      rw [List.mem_eraseIdx_iff_getElem?] at z
      obtain ⟨j, hj, hja⟩ := z
      have e1 := List.getElem?_eq_some_iff.mp hk
      have e2 := List.getElem?_eq_some_iff.mp hja
      exact hj ((List.getElem_inj C.nd).mp (e2.2.trans e1.2.symm))
    have hall : ∀ b ∈ m.hd ++ m.ix.eraseIdx k, ∃ o, H b = some o ∧ Mu o := fun b hb => by
      rcases List.mem_append.mp hb with z | z
      · exact C.hs b z
      · obtain ⟨j, hj⟩ := List.mem_iff_getElem?.mp (List.mem_of_mem_eraseIdx z)
        obtain ⟨ce, _, h2⟩ := C.some_at hj
        exact h2.mu
    obtain ⟨b, hb, hat⟩ := C.at_ k ce hce
    rw [hk] at hb; cases hb
    have low : ∀ (j : Nat) (x : Addr), j < 0 → m.ix[j]? = some x → (m.one k a).ix[j]? = some x := fun j x hj => absurd hj (Nat.not_lt_zero _)
    have hat1 : CellAt K (m.one k a) H a ce := by
      cases ce with
      | lst es => obtain ⟨xs, h3, h4⟩ := hat; exact ⟨xs, h3, by show RL K _ (hid (m.one k a) H) es xs; rw [hid_one hk]; exact RL.low (Ex.refl _) low es xs ok1 h4⟩
      | obj C' ns es => obtain ⟨dx, fs, h3, h4, h5⟩ := hat; exact ⟨dx, fs, h3, h4, by show RL K _ (hid (m.one k a) H) es _; rw [hid_one hk]; exact RL.low (Ex.refl _) low es _ ok1 h5⟩
      | dct ks es => obtain ⟨kvs, h3, h4, h5⟩ := hat; exact ⟨kvs, h3, h4, by show RL K _ (hid (m.one k a) H) es _; rw [hid_one hk]; exact RL.low (Ex.refl _) low es _ ok1 h5⟩
      | dcT ks es => obtain ⟨kvs, h3, h4, h5⟩ := hat; exact ⟨kvs, h3, h4, by show RL K _ (hid (m.one k a) H) es _; rw [hid_one hk]; exact RL.low (Ex.refl _) low es _ ok1 h5⟩
    have C0 : CR K H (m.one k a) [ce] := ⟨rfl, by simp [Ad.one], fun j ce' e => by
      have hj : j = 0 := by
        have := (List.getElem?_eq_some_iff.mp e).1
        simp at this; exact this
      subst hj
      simp at e; subst e
      exact ⟨a, rfl, hat1⟩, hall, fun x hx => by
        have : x = a := by simpa [Ad.one] using hx
        subst this
        intro z
        rcases List.mem_append.mp z with z | z
        · exact C.dj x (List.mem_of_getElem? hk) z
        · exact hnd z, fun p hp => ⟨List.mem_append_left _ (C.tk p hp).1, (C.tk p hp).2.of_hid (hid_one hk H).symm⟩⟩
    refine ⟨m.one k a, [ce], .cell 0 :: rest, _, rfl, hl, C0, ⟨.ref a, vr, rfl, ⟨a, rfl, rfl⟩, ?_⟩, hS, fun d c' w H' hd C' r' l => ?_⟩
    · show RL K [a] (hid (m.one k a) H) rest vr
      rw [hid_one hk]
      exact RL.low (n := 0) (Ex.refl _) (fun k a hk => absurd hk (Nat.not_lt_zero _)) rest vr ok2 rr
    · cases c' with
      | nil => exact hd.elim
      | cons ce' t =>
        cases t with
        | cons _ _ => exact hd.elim
        | nil =>
          obtain ⟨ok3, ok4, hΦ⟩ := hd
          have hex : Ex (hid m H) (hid m H') := by
            have := l.ex
            rw [hid_one hk, hid_one hk] at this
            exact this
          have l' : Le m H m H' := ⟨fun _ _ e => e, hex, rfl, fun b hb => (l.hk b (List.mem_append_left _ hb)).imp id fun z => ⟨z.1, fun t => by
            have := z.2 (t.of_hid (hid_one hk H).symm)
            exact this.of_hid (hid_one hk H')⟩, fun _ h => .inl h, l.al⟩
          obtain ⟨b, hb, hat'⟩ := C'.at_ 0 ce' rfl
          cases hb
          have hat2 : CellAt K m H' a ce' := by
            cases ce' with
            | lst es => obtain ⟨xs, h3, h4⟩ := hat'; exact ⟨xs, h3, by have h4 : RL K _ (hid (m.one k a) H') es xs := h4; rw [hid_one hk] at h4; exact RL.low (n := 0) (Ex.refl _) (fun k a hk => absurd hk (Nat.not_lt_zero _)) es xs ok3 h4⟩
            | obj C' ns es => obtain ⟨dx, fs, h3, h5, h4⟩ := hat'; exact ⟨dx, fs, h3, h5, by have h4 : RL K _ (hid (m.one k a) H') es _ := h4; rw [hid_one hk] at h4; exact RL.low (n := 0) (Ex.refl _) (fun k a hk => absurd hk (Nat.not_lt_zero _)) es _ ok3 h4⟩
            | dct ks es => obtain ⟨kvs, h3, h5, h4⟩ := hat'; exact ⟨kvs, h3, h5, by have h4 : RL K _ (hid (m.one k a) H') es _ := h4; rw [hid_one hk] at h4; exact RL.low (n := 0) (Ex.refl _) (fun k a hk => absurd hk (Nat.not_lt_zero _)) es _ ok3 h4⟩
            | dcT ks es => obtain ⟨kvs, h3, h5, h4⟩ := hat'; exact ⟨kvs, h3, h5, by have h4 : RL K _ (hid (m.one k a) H') es _ := h4; rw [hid_one hk] at h4; exact RL.low (n := 0) (Ex.refl _) (fun k a hk => absurd hk (Nat.not_lt_zero _)) es _ ok3 h4⟩
          refine q d _ w H' m hΦ ⟨by rw [List.length_set]; exact C.len, C.nd, fun j ce2 e => ?_, fun b hb => l'.hs hb (C.hs b hb), C.dj, C.tk' l'⟩ ?_ l'
          · by_cases hj : k = j
            · subst hj
              rw [List.getElem?_set_self (by rw [← C.len]; exact (List.getElem?_eq_some_iff.mp hk).1)] at e
              cases e
              exact ⟨a, hk, hat2⟩
            · rw [List.getElem?_set_ne hj] at e
              obtain ⟨b, h1, h2⟩ := C.at_ j ce2 e
              exact ⟨b, h1, h2.step l' fun o e' => l.kcell (List.mem_append_right _ (by rw [List.mem_eraseIdx_iff_getElem?]; exact ⟨j, fun z => hj z.symm, h1⟩)) h2 e'⟩
          · have r2 : R K [a] (hid (m.one k a) H') d w := r'
            rw [hid_one hk] at r2
            exact R.low (n := 0) (Ex.refl _) (fun k a hk => absurd hk (Nat.not_lt_zero _)) d w ok4 r2
end
section
variable {X : Cx} {CX : CXT} {k np : Nat} {f C : Addr} {fd : FuncData} {ps : List Str} {S : Pm} {E : XK} {x : Str} {p pos apos : Pos} {e o : Expr} {es : List Expr} {ta : TD} {tas : TDs}
def dCallP (S : Pm) (np : Nat) (t : TDs) : TD := fun ρ c Φ => t ρ c fun ds c1 => ds.length = np ∧ callP S ds c1 Φ
def dCallM (S : Pm) (np : Nat) (t : TDs) : TD := fun ρ c Φ => t ρ c fun ds c1 => ds.length = np ∧ callM S ds c1 Φ
theorem pd_callP (F : FnOk X.prog X.w X.K X.mg X.base CX k f fd ps (spD X.K 0 np S)) (hr : Room k X.A) (hm : X.mg x = some (.ref f)) (hk : PySem.W.keepIn X.K (.ref f) = true) (hb : Binds X.K fd ps []) (hx : Passes CX X E)
    (ha : PDs X (e :: es) tas) (hg : Gl X x := by rfl) (hdb : (x == ("__debug__" : Str)) = false := by decide) (he : starEach (e :: es) X.env = (false, eval e X.env) :: starEach es X.env := by rfl) (hpl : (backTo pos (starEach es X.env)).any (·.1) = false := by rfl) :
    PD X (.Call (.Name x p) (e :: es) [] pos) (dCallP S np tas) := PE.imp (pe_call F hr hg hm hk hb .nil hx ha hdb he hpl) fun σ H Q ⟨m, ρ, c, Φ, S', h, q⟩ =>
    ⟨m, ρ, c, _, S', h, fun ds c1 vs H1 m1 ⟨hl, hc⟩ C1 R1 L1 => by show spD _ _ _ _ (_ ++ []) _ _ _; rw [List.append_nil]; exact sp_pure C1 R1 hl hc (KQ.le (K := X.K) q L1)⟩
theorem pd_callM (F : FnOk X.prog X.w X.K X.mg X.base CX k f fd ps (spD X.K 1 np S)) (hr : Room k X.A) (hm : X.mg x = some (.ref f)) (hk : PySem.W.keepIn X.K (.ref f) = true) (hb : Binds X.K fd ps []) (hx : Passes CX X E)
    (ha : PDs X (e :: es) tas) (hg : Gl X x := by rfl) (hdb : (x == ("__debug__" : Str)) = false := by decide) (he : starEach (e :: es) X.env = (false, eval e X.env) :: starEach es X.env := by rfl) (hpl : (backTo pos (starEach es X.env)).any (·.1) = false := by rfl) :
    PD X (.Call (.Name x p) (e :: es) [] pos) (dCallM S np tas) := PE.imp (pe_call F hr hg hm hk hb .nil hx ha hdb he hpl) fun σ H Q ⟨m, ρ, c, Φ, S', h, q⟩ =>
    ⟨m, ρ, c, _, S', h, fun ds c1 vs H1 m1 ⟨hl, hc⟩ C1 R1 L1 => by show spD _ _ _ _ (_ ++ []) _ _ _; rw [List.append_nil]; exact sp_one C1 R1 hl hc (KQ.le (K := X.K) q L1)⟩
end
end Cw

namespace Cw
open PySem PySem.Spec PyProof.Rows L2
/-! ### a module's constants -/
section
variable {X : Cx} {x : Str} {pos : Pos}
theorem pd_gs {z : Str} (h : ∃ t, X.mg x = some (.str z t)) (hg : Gl X x := by rfl) (hd : (x == ("__debug__" : Str)) = false := by decide) : PD X (.Name x pos) (dC (.str z)) := by
  obtain ⟨t, h⟩ := h
  exact pd_c (v := .str z) (pe_glob hg h ⟨_, rfl⟩ hd) fun _ _ => rfl
theorem pd_gi {z : Int} (h : ∃ t, X.mg x = some (.int z t)) (hg : Gl X x := by rfl) (hd : (x == ("__debug__" : Str)) = false := by decide) : PD X (.Name x pos) (dC (.int z)) := by
  obtain ⟨t, h⟩ := h
  exact pd_c (v := .int z) (pe_glob hg h ⟨_, rfl⟩ hd) fun _ _ => rfl
def TupK (K : PySem.W.Frag) (mg : Str → Option Value) (x : Str) (ys : List Str) : Prop := ∃ a, mg x = some (.ref a) ∧ ∀ H, SqT K H a (ys.map V.str)
theorem pd_gtt {ys : List Str} (h : TupK X.K X.mg x ys) (hg : Gl X x := by rfl) (hd : (x == ("__debug__" : Str)) = false := by decide) : PD X (.Name x pos) (dC (.tup (ys.map .str))) := by
  obtain ⟨a, h, hs⟩ := h
  exact pd_c (v := .ref a) (pe_glob hg h rfl hd) fun m H => ⟨a, _, rfl, hs H, rl_txts ys⟩
end
end Cw

namespace Cw
open PySem PySem.Spec PyProof.Rows L2
/-! ### isinstance -/
inductive Ty where
  | non | bl | int | str | tup | lst | dct | ins (C : Addr)
def Ty.val : Ty → Value
  | .non => .type "NoneType"
  | .bl => .type "bool"
  | .int => .type "int"
  | .str => .type "str"
  | .tup => .type "tuple"
  | .lst => .type "list"
  | .dct => .type "dict"
  | .ins C => .ref C
def tyD : D → Option Ty
  | .non => some .non
  | .bl _ => some .bl
  | .int _ => some .int
  | .str _ => some .str
  | .tup _ => some .tup
  | .lst _ => some .lst
  | .dct _ _ => some .dct
  | .ins C _ _ => some (.ins C)
  | _ => none
/-- what the written part knows of an own class, for isinstance -/
structure ClsI (K : PySem.W.Frag) (C : Addr) : Prop where
  cl : Cls K C
  ha : PySem.W.findIn K (.ref C) "__class__" = some (some (.builtin "object.__class__"))
  hn : PySem.W.specialIn K (.builtin "object.__class__") "__get__" = some (some (.builtin "getset_descriptor.__get__"))
  tk : PySem.W.takesIn K (.builtin "object.__class__") = some true
  mr : PySem.W.mroIn K C (.type "object") = some true
/-- the answers g of isinstance(x, the class u) -/
structure IsiT (K : PySem.W.Frag) (u : Value) (g : Ty → Option Bool) : Prop where
  ok : ∀ t b, g t = some b → PySem.W.kitOne K t.val u = some b
  ins : ∀ C b, g (.ins C) = some b → ClsI K C
def fIsi (g : Ty → Option Bool) : F2
  | x, .raw _, c, Φ => ∃ t b, tyD x = some t ∧ g t = some b ∧ Φ (.bl b) c
  | _, _, _, _ => False
theorem l2_isi {K : PySem.W.Frag} {v0 : V} {u0 : Value} {g : Ty → Option Bool} (T : IsiT K u0 g) (cv : ClsV v0 u0) {x : D} {c : List Cell} {Φ : D → List Cell → Prop} {H : Hp} {m : Ad} {u : V} (C : CR K H m c) (r : W K H m x u) {Q : VK} (q : KQ K H m Φ Q)
    (h : fIsi g x (.raw v0) c Φ) : rIsi K [u, v0] H Q := by
  obtain ⟨t, b, e1, e2, h⟩ := h
  have z : TyX K H u t.val → rIsi K [u, v0] H Q := fun z => ⟨u, v0, t.val, u0, b, rfl, cv, z, T.ok t b e2, q.pure C h rfl⟩
  cases x <;> first | (cases e1; done) | skip
  · cases e1; cases (show u = _ from r); exact z (.base .non)
  · cases e1; cases (show u = _ from r); exact z (.base (.bl _))
  · cases e1; cases (show u = _ from r); exact z (.base (.int _))
  · cases e1; cases (show u = _ from r); exact z (.base (.str _))
  · cases e1
    obtain ⟨a, xs, rfl, h1, h2⟩ := r
    rcases ex_t (ex_hid m H) h1 with (h1 | ⟨o, h1⟩) | ⟨o, its, n, hk, hc, _⟩
    · exact z (.base (.tup h1))
    · exact z (.fTuple h1)
    · exact z (.kTuple hk hc)
  · cases e1
    obtain ⟨a, xs, rfl, h1, h2⟩ := r
    exact z (.base (.lst h1))
  · cases e1
    obtain ⟨a, dx, fs, rfl, h1, _⟩ := r
    have ci := T.ins _ b e2
    exact z (.base (.ins h1 ci.cl ci.ha ci.hn ci.tk ci.mr))
  · cases e1
    obtain ⟨a, kvs, rfl, h1, _⟩ := r
    rcases h1 with h1 | ⟨o, h1⟩
    · exact z (.base (.dK h1))
    · exact z (.fDict h1)
section
variable {X : Cx} {e e2 : Expr} {ta : TD} {pos pp : Pos}
theorem pd_isi {v0 : V} {u0 : Value} {g : Ty → Option Bool} (T : IsiT X.K u0 g) (cv : ClsV v0 u0) (ha : PD X e ta) (hb : PE X e2 (tC v0)) (hm : X.mg "isinstance" = none) (hg : Gl X "isinstance" := by rfl)
    (he : starEach [e, e2] X.env = (false, eval e X.env) :: starEach [e2] X.env := by rfl) (he2 : starEach [e2] X.env = (false, eval e2 X.env) :: starEach [] X.env := by rfl) (hpl : (backTo pos (starEach [e2] X.env)).any (·.1) = false := by rfl) :
    PD X (.Call (.Name "isinstance" pp) [e, e2] [] pos) (dBin (fIsi g) ta (dC (.raw v0))) :=
  PE.imp (pe_callB call_isi hg hm boot_isinstance (pds_cons ha (pds_cons (pd_c (d := .raw v0) hb fun _ _ => rfl) pds_nil he2) he) (by decide) (by decide) he hpl) fun σ H Q ⟨m, ρ, c, Φ, S, h, q⟩ =>
  ⟨m, ρ, c, (fun ds c1 => ∃ x, ds = [x, .raw v0] ∧ fIsi g (vw c1 x) (.raw v0) c1 Φ), S, (show ta ρ c fun x c1 => ∃ y, [x, .raw v0] = [y, .raw v0] ∧ fIsi g (vw c1 y) (.raw v0) c1 Φ by
    have e : (fun x c1 => ∃ y, [x, D.raw v0] = [y, .raw v0] ∧ fIsi g (vw c1 y) (.raw v0) c1 Φ) = fun x c1 => fIsi g (vw c1 x) (vw c1 (.raw v0)) c1 Φ := by
      funext x c1
      apply propext
      constructor
      · rintro ⟨y, e, h⟩; cases e; exact h
      · intro h; exact ⟨x, rfl, h⟩
    rw [e]; exact h), fun ds c1 vs H1 m1 ⟨x, e1, hx⟩ C1 R1 L1 => by
      subst e1
      obtain ⟨u, r, rfl, ru, v, r', rfl, rv, rr⟩ := R1
      cases (show r' = [] from rr)
      cases (show v = v0 from rv)
      exact l2_isi T cv C1 (W.vw C1 ru) (KQ.le q L1) hx⟩
end
def gStr : Ty → Option Bool
  | .str => some true
  | .ins _ => none
  | _ => some false
theorem isi_str {K : PySem.W.Frag} : IsiT K (.type "str") gStr := ⟨fun t b h => by cases t <;> cases h <;> exact kit_ty (by decide +kernel), fun C b h => by cases h⟩
end Cw

namespace Cw
open PySem PySem.Spec PyProof.Rows L2

/-! ### a def that hands back a new list of flat items -/
abbrev Pn := List D → (List D → Prop) → Prop
def spN (K : PySem.W.Frag) (np : Nat) (S : Pn) : Sp := fun vs H Q _ => ∃ (m : Ad) (ds : List D) (Φ : List D → Prop), ds.length = np ∧ CR K H m [] ∧ RRL K H m ds vs ∧ S ds Φ ∧
  ∀ xs p ws H', Φ xs → xs.all flatD = true → CR K H' m [] → H p = none → H' p = some (.lst ws) → RRL K H' m xs ws → Le m H m H' → Q (.ref p) H'
def retN (Φ : List D → Prop) (d : D) (c : List Cell) : Prop := match d with
  | .cell k => ∃ xs, c[k]? = some (.lst xs) ∧ xs.all flatD = true ∧ Φ xs
  | _ => False
theorem flat_any {K : PySem.W.Frag} {ix ix' : List Addr} {H H' : Hp} : ∀ {ds : List D} {vs : List V}, ds.all flatD = true → RL K ix H ds vs → RL K ix' H' ds vs
  | [], _, _, h => h
  | d :: ds, _, f, ⟨x, r, e1, h1, h2⟩ => by
    rw [List.all_cons, Bool.and_eq_true] at f
    refine ⟨x, r, e1, ?_, flat_any f.2 h2⟩
    cases d <;> first | exact absurd (show false = true from f.1) Bool.false_ne_true | exact h1
theorem nil_of {K : PySem.W.Frag} {H : Hp} {m : Ad} (C : CR K H m []) : m.ix = [] := by
  have := C.len
  exact List.length_eq_zero_iff.mp this
section
variable {P : Program} {w : World} {K : PySem.W.Frag} {mg : Str → Option Value} {base : Heap}
theorem fnN {x qual : Str} {st : Stmt} {f : Addr} {fd : FuncData} {N ps : List Str} {k : Nat} {S : Pn} (F : Fun K x qual st f fd) (Sc : FnScope N ps (defScope st))
    (hbody : ∀ (cdv : Value) (A : Around) (outer : List PySem.Env) (s : Shared) (H : Hp) (E : XK), Room k (A.deeper (envOfC qual (defScope st) s.heap.objs.size f cdv)) →
      ∃ ts, PSDs (cxOf CX0 P w K mg base N qual (defScope st) f cdv A outer s H E).nox (defBody st) ts ∧
        ∀ ds Φ, ds.length = ps.length → S ds Φ → ts ⟨fun _ _ => False, retN Φ, fun _ _ => False, fun _ _ => False⟩ (startD N ds) []) :
    FnOk P w K mg base CX0 (k + 1) f fd ps (spN K ps.length S) := by
  refine F.ok Sc (fun vs H Q E h => ?_) (fun cdv A outer s H vs Q E hr h => ?_)
  · obtain ⟨m, ds, Φ, h2, C, r, _⟩ := h
    rw [← RL.length r]; exact h2
  · obtain ⟨m, ds, Φ, h2, C, r, hS, q⟩ := h
    obtain ⟨ts, hp, ht⟩ := hbody cdv A outer s H E hr
    refine ⟨_, hp, m, startD N ds, [], _, start_slots C r, ht ds Φ h2 hS, fun _ _ _ _ _ z => z.elim, fun d c' v H' m' h' C' r' l => ?_, fun _ _ _ _ _ z => z.elim, fun _ _ _ _ _ z => z.elim⟩
    unfold retN at h'
    cases d <;> first | exact h'.elim | skip
    rename_i j
    obtain ⟨xs, h3, h4, h5⟩ := h'
    obtain ⟨a, h6, rfl⟩ := r'
    obtain ⟨b, h7, ws, h8, h9⟩ := C'.at_ j _ h3
    rw [h6] at h7; cases h7
    have hix := nil_of C
    have fresh : H a = none := (l.fr a (List.mem_of_getElem? h6)).elim (fun z => by rw [hix] at z; cases z) id
    have l' : Le m H m H' := ⟨fun _ _ e => e, l.ex.trans (ex_cut l.pre l.hd), rfl, l.hk' (ex_cut l.pre l.hd), fun _ h => .inl h, l.al⟩
    exact q xs a ws H' h5 h4 ⟨by rw [hix]; rfl, C.nd, fun k ce e => by simp at e, fun b hb => C'.hs b (by rw [l.hd]; exact hb), C.dj, C.tk' l'⟩ fresh h8 (flat_any h4 h9) l'
end
section
variable {K : PySem.W.Frag} {m : Ad} {H : Hp} {c : List Cell}
theorem hall (C : CR K H m c) : ∀ b ∈ m.hd ++ m.ix, ∃ o, H b = some o ∧ Mu o := fun b hb => by
  rcases List.mem_append.mp hb with z | z
  · exact C.hs b z
  · obtain ⟨k, hk⟩ := List.mem_iff_getElem?.mp z
    obtain ⟨ce, _, h2⟩ := C.some_at hk
    exact h2.mu
theorem Le.of_none {H' : Hp} (l : Le m.none H m.none H') : Le m H m H' := by
  have hex : Ex (hid m H) (hid m H') := by
    have := l.ex
    rw [hid_none, hid_none] at this
    exact this
  exact ⟨fun _ _ e => e, hex, rfl, fun b hb => (l.hk b (List.mem_append_left _ hb)).imp id fun z => ⟨z.1, fun t => by
      have := z.2 (t.of_hid (hid_none m H).symm)
      exact this.of_hid (hid_none m H')⟩, fun _ h => .inl h, l.al⟩
theorem CR.of_none {H' : Hp} (C : CR K H m c) (l : Le m.none H m.none H') : CR K H' m c := by
  have l' := l.of_none
  refine ⟨C.len, C.nd, fun k ce e => ?_, fun b hb => l'.hs hb (C.hs b hb), C.dj, C.tk' l'⟩
  · obtain ⟨a, h1, h2⟩ := C.at_ k ce e
    exact ⟨a, h1, h2.step l' fun o e' => l.kcell (List.mem_append_right _ (List.mem_of_getElem? h1)) h2 e'⟩
theorem sp_new {S : Pn} {np : Nat} {ds : List D} {vs : List V} {Φ : D → List Cell → Prop} {Q : VK} {E : XK} (C : CR K H m c) (r : RRL K H m ds vs) (hl : ds.length = np) (ok : okDs 0 ds = true) (hS : S ds fun xs => Φ (.cell c.length) (c ++ [.lst xs])) (q : KQ K H m Φ Q) : spN K np S vs H Q E := by
  have C0 : CR K H m.none [] := ⟨rfl, List.nodup_nil, fun k ce e => by simp at e, hall C, fun a ha => (by cases ha), C.tk_none⟩
  refine ⟨m.none, ds, _, hl, C0, ?_, hS, fun xs p ws H' hd hf C' hp hp' r' l => ?_⟩
  · show RL K [] (hid m.none H) ds vs
    rw [hid_none]
    exact RL.low (n := 0) (Ex.refl _) (fun k a hk => absurd hk (Nat.not_lt_zero _)) ds vs ok r
  · have l' := l.of_none
    have C1 := C.of_none l
    have hn := hid_new hp C
    have ex1 : Ex (hid m H) (hid (m.push p) H') := fun b o e => by
      have e1 := l'.ex b o e
      obtain ⟨⟨h1, h2⟩, h3⟩ := hid_some e1
      rw [hid_of (m := m.push p) ⟨fun z => ?_, h2⟩]
      · exact h3
      · rcases List.mem_append.mp (show b ∈ m.ix ++ [p] from z) with z | z
        · exact h1 z
        · have : b = p := by simpa using z
          subst this
          have := (hid_some e).2
          rw [hp] at this; cases this
    have l2 : Le m H (m.push p) H' := ⟨push_pre, ex1, rfl, fun b hb => (l.hk b (List.mem_append_left _ hb)).imp id fun z => ⟨z.1, fun t => by
      have := z.2 (t.of_hid (hid_none m H).symm)
      exact (this.of_hid (hid_none m H')).push hp' fun _ z => nomatch z⟩, fun a ha => (List.mem_append.mp (show a ∈ m.ix ++ [p] from ha)).elim .inl fun z => .inr (by
      have : a = p := by simpa using z
      subst this; exact hp), l'.al⟩
    have last : (m.push p).ix[c.length]? = some p := by
      show (m.ix ++ [p])[c.length]? = some p
      rw [← C.len]; simp
    refine q (.cell c.length) _ (.ref p) H' (m.push p) hd ⟨by simp [Ad.push, C.len], ?_, fun k ce e => ?_, fun b hb => C1.hs b hb, fun a ha => ?_, C.tk' l2⟩ ⟨p, last, rfl⟩ l2
    · show (m.ix ++ [p]).Nodup
      rw [List.nodup_append]
      refine ⟨C.nd, by simp, fun a ha b hb e => ?_⟩
      have : b = p := by simpa using hb
      subst this; subst e
      exact hn.1 ha
    · by_cases hk : k < c.length
      · rw [List.getElem?_append_left hk] at e
        obtain ⟨a, h1, h2⟩ := C.at_ k ce e
        exact ⟨a, push_pre k a h1, h2.step l2 fun o' e' => l.kcell (List.mem_append_right _ (List.mem_of_getElem? h1)) h2 e'⟩
      · have hk' : k = c.length := by
          have := (List.getElem?_eq_some_iff.mp e).1
          simp at this; omega
        subst hk'
        simp at e; subst e
        exact ⟨p, last, ws, hp', flat_any hf r'⟩
    · rcases List.mem_append.mp (show a ∈ m.ix ++ [p] from ha) with z | z
      · exact C.dj a z
      · have : a = p := by simpa using z
        subst this
        exact hn.2
end
section
variable {X : Cx} {CX : CXT} {k np : Nat} {f C fI : Addr} {fd : FuncData} {ps : List Str} {S : Pm} {Sn : Pn} {E : XK} {x : Str} {p pos apos : Pos} {e o : Expr} {es : List Expr} {ta tv : TD} {tas : TDs}
def dCallN (S : Pn) (np : Nat) (t : TDs) : TD := fun ρ c Φ => t ρ c fun ds c1 => ds.length = np ∧ okDs 0 ds = true ∧ S ds fun xs => Φ (.cell c1.length) (c1 ++ [.lst xs])
theorem pd_callN (F : FnOk X.prog X.w X.K X.mg X.base CX k f fd ps (spN X.K np Sn)) (hr : Room k X.A) (hm : X.mg x = some (.ref f)) (hk : PySem.W.keepIn X.K (.ref f) = true) (hb : Binds X.K fd ps []) (hx : Passes CX X E)
    (ha : PDs X (e :: es) tas) (hg : Gl X x := by rfl) (hdb : (x == ("__debug__" : Str)) = false := by decide) (he : starEach (e :: es) X.env = (false, eval e X.env) :: starEach es X.env := by rfl) (hpl : (backTo pos (starEach es X.env)).any (·.1) = false := by rfl) :
    PD X (.Call (.Name x p) (e :: es) [] pos) (dCallN Sn np tas) := PE.imp (pe_call F hr hg hm hk hb .nil hx ha hdb he hpl) fun σ H Q ⟨m, ρ, c, Φ, S', h, q⟩ =>
    ⟨m, ρ, c, _, S', h, fun ds c1 vs H1 m1 ⟨hl, ok, hc⟩ C1 R1 L1 => by show spN _ _ _ (_ ++ []) _ _ _; rw [List.append_nil]; exact sp_new C1 R1 hl ok hc (KQ.le (K := X.K) q L1)⟩

/-! ### objects: attributes, properties, the making -/
def lookF (f : Str) : List Str → List D → Option D
  | n :: ns, d :: ds => if f = n then some d else lookF f ns ds
  | _, _ => none
theorem lookF_at {K : PySem.W.Frag} {m : List Addr} {H : Hp} {f : Str} : ∀ {ns : List Str} {ds : List D} {fs : List (Str × V)} {d : D}, fs.map (·.1) = ns → RL K m H ds (fs.map (·.2)) → lookF f ns ds = some d → ∃ v, fs.lookup f = some v ∧ R K m H d v
  | n :: ns, d0 :: ds, (a, v) :: fs, d, e1, ⟨x, r, e2, h1, h2⟩, e => by
    simp only [List.map_cons, List.cons.injEq] at e1 e2
    obtain ⟨rfl, e1⟩ := e1
    obtain ⟨rfl, rfl⟩ := e2
    unfold lookF at e
    by_cases hf : f = a
    · rw [if_pos hf] at e; cases e
      exact ⟨v, by rw [hf]; simp [List.lookup], h1⟩
    · rw [if_neg hf] at e
      obtain ⟨u, h3, h4⟩ := lookF_at e1 h2 e
      refine ⟨u, ?_, h4⟩
      have hb : (f == a) = false := by simpa using hf
      simp only [List.lookup, hb]; exact h3
  | [], _, _, _, _, _, e => by simp [lookF] at e
  | _ :: _, [], _, _, _, _, e => by simp [lookF] at e
  | _ :: _, _ :: _, [], _, e1, _, _ => by simp at e1
/-- o.f of an object of the class at C -/
def dFld (C : Addr) (f : Str) (ta : TD) : TD := fun ρ c Φ => ta ρ c fun x c1 => match vw c1 x with
  | .ins C' ns ds => C' = C ∧ ∃ d, lookF f ns ds = some d ∧ Φ d c1
  | _ => False
theorem pd_fld {f : Str} (cl : Cls X.K C) (na : NoAttr X.K C f) (h : PD X e ta) (hb : attributeBase e f X.env (eval e X.env) = eval e X.env := by rfl) : PD X (.Attribute e f pos) (dFld C f ta) :=
  PE.imp (pe_fld h hb) fun σ H Q ⟨m, ρ, c, Φ, S, h, q⟩ =>
  ⟨m, ρ, c, _, S, h, fun x c1 u H1 m1 hx C1 R1 L1 => by
    have w := W.vw C1 R1
    revert hx w
    generalize vw c1 x = x'
    intro hx w
    cases x' <;> first | exact hx.elim | skip
    obtain ⟨rfl, d, hd, hΦ⟩ := hx
    obtain ⟨a, dx, fs, rfl, h1, h2, h3⟩ := w
    obtain ⟨v, h4, h5⟩ := lookF_at h2 h3 hd
    exact ⟨a, _, dx, fs, v, rfl, h1, cl, na, h4, q d c1 v H1 m1 hΦ C1 h5 L1⟩⟩
/-- o.f = e, o a mutable object -/
def setF (f : Str) (d : D) : List Str → List D → List Str × List D
  | n :: ns, x :: ds => if n = f then (n :: ns, d :: ds) else ((n :: (setF f d ns ds).1), (x :: (setF f d ns ds).2))
  | _, _ => ([f], [d])
theorem setF_at {K : PySem.W.Frag} {m : List Addr} {H : Hp} {f : Str} {d : D} {v : V} (r : R K m H d v) : ∀ {ns : List Str} {ds : List D} {fs : List (Str × V)}, fs.map (·.1) = ns → RL K m H ds (fs.map (·.2)) → (putF f v fs).map (·.1) = (setF f d ns ds).1 ∧ RL K m H (setF f d ns ds).2 ((putF f v fs).map (·.2))
  | [], ds, fs, e1, h => by
    have : fs = [] := by simpa using e1
    subst this
    exact ⟨rfl, v, [], rfl, r, rfl⟩
  | n :: ns, [], fs, e1, h => by
    have : fs = [] := List.map_eq_nil_iff.mp h
    subst this
    simp at e1
  | n :: ns, x :: ds, [], e1, _ => by simp at e1
  | n :: ns, x :: ds, (a, u) :: fs, e1, ⟨y, r', e2, h1, h2⟩ => by
    simp only [List.map_cons, List.cons.injEq] at e1 e2
    obtain ⟨rfl, e1⟩ := e1
    obtain ⟨rfl, rfl⟩ := e2
    have ih := setF_at (f := f) r e1 h2
    rw [show putF f v ((a, u) :: fs) = (if a = f then (a, v) :: fs else (a, u) :: putF f v fs) from rfl]
    unfold setF
    by_cases hf : a = f
    · rw [if_pos hf, if_pos hf]
      exact ⟨by simp [e1], v, _, rfl, r, h2⟩
    · rw [if_neg hf, if_neg hf]
      exact ⟨by simp [ih.1], u, _, rfl, h1, ih.2⟩
def dStF (C : Addr) (f : Str) (ta tv : TD) : TSD := fun De ρ c => tv ρ c fun d c1 => ta ρ c1 fun x c2 => ∃ k ns ds, x = .cell k ∧ c2[k]? = some (.obj C ns ds) ∧ ns.length < 1000 ∧ De.nx ρ (c2.set k (.obj C (setF f d ns ds).1 (setF f d ns ds).2))
theorem psd_stf {f : Str} {value : Expr} {pos' : Pos} (cl : Cls X.K C) (na : NoAttr X.K C f) (ha : PD X o ta) (hv : PD X value tv) (hs : swapsWith value (some (.Attribute o f pos')) pos.line X.env = pure false := by rfl) : PSD X (.Assign [.Attribute o f pos'] value pos) (dStF C f ta tv) :=
  PS.imp (ps_fld ha hv hs) fun Dn σ H ⟨m, ρ, c, De, S, h, n, r, b, k⟩ =>
  ⟨m, ρ, c, _, S, h, fun d c1 y H1 m1 hx C1 R1 L1 => ⟨m1, ρ, c1, _, S.step L1 C1, hx, fun x c2 u H2 m2 hy C2 R2 L2 => by
    obtain ⟨j, ns, ds, rfl, h1, h2, h3⟩ := hy
    obtain ⟨a, h4, rfl⟩ := R2
    obtain ⟨a', h5, dx, fs, h6, h7, h8⟩ := C2.at_ j _ h1
    rw [h4] at h5; cases h5
    have hm : a ∈ m2.ix := List.mem_of_getElem? h4
    have z1 := setF_at (f := f) (L2.r R1) h7 h8
    have z := cell_put (o := .ins C dx (putF f y fs)) (ce := .obj C (setF f d ns ds).1 (setF f d ns ds).2) C2 h4 ⟨dx, _, upd_same, z1.1, by show RL _ _ (hid m2 _) _ _; rw [hid_mut hm]; exact z1.2⟩
    exact ⟨a, C, dx, fs, rfl, h6, cl, na, by rw [← List.length_map (f := (·.1)), h7]; exact h2, n σ _ m2 ρ _ h3 ((S.step (L1.trans L2) C2).step z.2 z.1) ((L1.trans L2).trans z.2)⟩⟩⟩
end
end Cw

namespace Cw
open PySem PySem.Spec PyProof.Rows L2

/-! ### own ==, !=, len, str and truth of an object -/
section
variable {prog : Program} {w : World} {A : Around} {E : Value → Shared → Prop} {s : Shared} {K : PySem.W.Frag} {x C f : Addr} {ox : Obj} {od : Option Obj} {b : Value}
open Builtin in
theorem ne_body {Q : Value → Shared → Prop} (hu : A.in1.units < cLine) (X : K.In s.heap) (I : PySem.W.InstAt s.heap x ox C od) (hm : PySem.W.mroIn K C (.type "object") = some true)
    (hs : PySem.W.findIn K (.ref C) "__eq__" = some (some (.ref f))) (hf : PySem.W.isFn K (.ref f) = true)
    (h : wpAny (model prog w) A.in1 (call (.ref f) [.ref x, b]) (fun v s' => ∃ k, v = .bool k ∧ Q (.bool (!k)) s') E s) : wpAny (model prog w) A (call (.builtin "object.__ne__") [.ref x, b]) Q E s := by
  refine wpAny_call (codeAny_call_builtin PySem.F.slot_object_ne.plain PySem.F.cmpEntry_ne (PySem.W.check_slot (i := "object.__ne__") (owner := "object") (n := "__ne__") (by decide +kernel) (by decide +kernel) (I.type.andThen (PySem.W.looks_mroIn X hm)) (PySem.F.cmpArgs_ne _ _) ?_))
  unfold Builtin.«object.__ne__»
  refine wpAny_bind (m := slotArgs "__ne__" 1 _) (wpAny_pure ?_)
  refine wpAny_bind (m := cRoomFor _ _) (wpAny_cRoomFor hu ?_)
  refine wpAny_bind (m := callSpecialIfBound? (.ref x) (Str.ofString "__eq__") _) (PySem.W.ifBound_K X I hs hf (wpAny_mono h (fun r s' hr => ?_) fun _ _ y => y))
  obtain ⟨k, rfl, hq⟩ := hr
  exact wpAny_bind (wpAny_truthy_bool (wpAny_pure hq))
open Builtin in
theorem tru_K {Q : Bool → Shared → Prop} (X : K.In s.heap) (I : PySem.W.InstAt s.heap x ox C od) (hs : PySem.W.findIn K (.ref C) "__bool__" = some none) (hl : PySem.W.findIn K (.ref C) "__len__" = some (some (.ref f))) (hf : PySem.W.isFn K (.ref f) = true)
    (h : wpAny (model prog w) A.in1 (call (.ref f) [.ref x]) (PySem.W.LenBack fun v s' => ∃ n t, v = .int n t ∧ Q (n != 0) s') E s) : wpAny (model prog w) A (truthy (.ref x)) Q E s := by
  unfold truthy
  refine wpAny_bind (m := callSpecial? (.ref x) (Str.ofString "__bool__")) (wpAny_bind (wpAny_bind (I.type.here ((PySem.W.looks_findIn X hs).here (wpAny_pure ?_)))))
  refine wpAny_bind (wpAny_bind (I.type.here ((PySem.W.looks_findIn X hl).here ?_)))
  show wpAny _ _ (if (some (Value.ref f)).isNone = true then _ else _) _ _ _
  rw [if_neg (by simp)]
  refine wpAny_bind (PyProof.Rows.runValue_entry entry_len ?_)
  rw [Around.under_plainId plain_len _]
  unfold Builtin.«len»
  refine wpAny_bind (m := oneArg "len" _) (wpAny_pure ?_)
  refine wpAny_bind (m := callSpecial? (.ref x) (Str.ofString "__len__")) (PySem.W.special_fn X I hl (beq_iff_eq.mp hf) (wpAny_mono h (fun r s' hr => ?_) fun _ _ y => y))
  cases r <;> first | exact hr.elim | skip
  rename_i n u
  obtain ⟨⟨h0, h1⟩, n', t, e, hq⟩ := hr
  cases e
  refine wpAny_bind (wpAny_holding (wpAny_pure ?_))
  refine wpAny_bind (wpAny_letGo ?_)
  show wpAny _ _ (if n < 0 then _ else _) _ _ _
  rw [if_neg (by omega)]
  show wpAny _ _ (if n ≥ 2 ^ 63 then _ else _) _ _ _
  rw [if_neg (by omega)]
  exact wpAny_bind (wpAny_mkInt (wpAny_pure ⟨_, rfl, wpAny_pure hq⟩))
end

theorem type_bool : isType (.type "bool") = pure true := by first | rfl | kernel_rfl | (unfold isType; rw [isSubtype_type]; kernel_rfl)
open Builtin in
theorem bool_tru {prog : Program} {w : World} {A : Around} {E : Value → Shared → Prop} {s : Shared} {x : Value} {Q : Value → Shared → Prop} (h : wpAny (model prog w) A.in1.in1 (truthy x) (fun b s' => Q (.bool b) s') E s) : wpAny (model prog w) A (call (.type "bool") [x]) Q E s := by
  refine callType_codes (T := "bool") (Bi := Builtin.«object.__init__») (Q₁ := fun r s₁ => ∃ b, r = .bool b ∧ Q r s₁) PySem.F.called_bool (PySem.F.typeCall_bool_1 _) PySem.F.entry_object_init ?_ ?_
  · refine codeAny_of_tree ?_
    show wpAny _ A.in1.in1 (do checkBuiltinCall "bool.__new__" ⟨[.type "bool", x], []⟩; again (.builtin "bool.__new__" ⟨[.type "bool", x], []⟩)) _ _ s
    refine wpAny_bind (wpAny_of_eq (PySem.F.newCall_bool_1 _) (wpAny_pure ⟨plainId_quiet (by decide +kernel) _, codeAny_builtin PySem.F.entry_bool_new ?_⟩))
    rw [Around.under_plainId (by decide +kernel) _]
    unfold Builtin.«bool.__new__»
    refine wpAny_bind (wpAny_of_eq (a := true) type_bool ?_)
    refine PySem.W.KFB.if_not rfl ?_
    refine wpAny_bind (wpAny_of_eq (a := true) PySem.F.conv_sub_bool ?_)
    refine PySem.W.KFB.if_not rfl ?_
    refine wpAny_bind (m := someArgs "bool" 0 1 _) (wpAny_pure ?_)
    refine wpAny_bind (wpAny_mono h (fun b s' q => ?_) fun _ _ e => e)
    exact wpAny_pure ⟨b, rfl, q⟩
  · rintro obj s₁ ⟨b, rfl, hq⟩
    exact ⟨PySem.typeIs_bool _ _, PySem.F.args_object_init_2 _ _, object_init_meets PySem.F.called_bool.init.lookup PySem.F.called_bool.made (by decide) prog w A.in1 _ s₁ ⟨PySem.typeIs_bool _ _, rfl, hq⟩⟩
section
variable {X : Cx} {CX : CXT} {k : Nat} {C f : Addr} {fd : FuncData} {ps : List Str} {sp : Sp} {E : XK} {pos : Pos} {pins : List (Addr × Obj)} {σ : L2.St} {H : Hp} {s : Shared} {Q : VK} {vs : List V} {us : List Value}
theorem v1 (a : Addr) : Vals [V.ref a] [Value.ref a] := .cons rfl .nil
theorem call_own {A : Around} (sb : Sub X k A) (I : Inv X pins σ H s) (F : FnOk X.prog X.w X.K X.mg X.base CX k f fd ps sp) (hb : Binds X.K fd ps []) (hx : Passes CX X E) (r2 : Vals vs us) (hsp : sp vs H Q E) :
    wpAny (model X.prog X.w) A (call (.ref f) us) (EP X pins σ Q) X.xe s := by
  have e0 : Env0 X.prog X.w X.K X.mg X.base A X.stack s H := by
    have e := I.env0
    exact ⟨by rw [sb.fr]; exact e.frames, e.mod, e.bs, e.bsz, e.funs, e.frf, e.hok, e.bare⟩
  have hl := F.len _ _ _ _ hsp
  refine wpAny_call (codeAny_mono (F.run A X.stack s H ⟨us, []⟩ us vs _ E sb.room e0 (by
    have := hb s us I.kIn (by rw [List.append_nil, ← r2.length]; exact hl)
    simpa using this) r2 hsp) fun r s' hq => ?_)
  cases r with
  | error e => exact hx pins σ H s e s' I hq
  | ok fl =>
    cases fl with
    | ret w =>
      obtain ⟨z, H', I', rz, ez⟩ := I.after hq
      exact ⟨z, H', I', rz, ez⟩
    | next => exact False.elim hq
    | brk => exact False.elim hq
    | cont => exact False.elim hq
def rOwn1 (C : Addr) (sp : Sp) (E : XK) (g : V → VK → Hp → Prop) : List V → Hp → VK → Prop := fun xs H Q => ∃ a dx fs, xs = [.ref a] ∧ H a = some (.ins C dx fs) ∧ sp [.ref a] H (fun v H' => g v Q H') E
theorem call_lenO (F : FnOk X.prog X.w X.K X.mg X.base CX k f fd ps sp) (hs : PySem.W.findIn X.K (.ref C) "__len__" = some (some (.ref f))) (hf : PySem.W.isFn X.K (.ref f) = true) (hb : Binds X.K fd ps []) (hx : Passes CX X E) (hr : Room (k + 1) X.A) :
    CallR X (.builtin "len") (rOwn1 C sp E fun v Q H => ∃ i, v = .int i ∧ (0 ≤ i ∧ i < 2 ^ 63) ∧ Q (.int i) H) := by
  intro pins s σ H xs us Q I r h
  obtain ⟨a, dx, fs, rfl, ha, h⟩ := h
  obtain rfl := Vals.ref1 r
  obtain ⟨mA, J, _⟩ := ins_get I.hok ha
  obtain ⟨od, J, _⟩ := J.look
  obtain ⟨m, hF⟩ := I.fr
  refine PySem.W.len_K hF I.ok.mod.kin J hs hf (wpAny_mono (call_own ⟨hr.in1, rfl⟩ I F hb hx (v1 a) h) (fun v s' q => ?_) fun _ _ e => e)
  obtain ⟨z, H', I', rz, i, rfl, hi, q⟩ := q
  obtain ⟨t, rfl⟩ := rz
  exact ⟨hi, .int i, H', I'.tok _, ⟨_, rfl⟩, q⟩
theorem call_boolO (F : FnOk X.prog X.w X.K X.mg X.base CX k f fd ps sp) (hn : PySem.W.findIn X.K (.ref C) "__bool__" = some none) (hs : PySem.W.findIn X.K (.ref C) "__len__" = some (some (.ref f))) (hf : PySem.W.isFn X.K (.ref f) = true) (hb : Binds X.K fd ps []) (hx : Passes CX X E) (hr : Room (k + 3) X.A) :
    CallR X (.type "bool") (rOwn1 C sp E fun v Q H => ∃ i, v = .int i ∧ (0 ≤ i ∧ i < 2 ^ 63) ∧ Q (.bl (i != 0)) H) := by
  intro pins s σ H xs us Q I r h
  obtain ⟨a, dx, fs, rfl, ha, h⟩ := h
  obtain rfl := Vals.ref1 r
  obtain ⟨mA, J, _⟩ := ins_get I.hok ha
  obtain ⟨od, J, _⟩ := J.look
  refine bool_tru (tru_K I.kIn J hn hs hf (wpAny_mono (call_own ⟨hr.in1.in1.in1, rfl⟩ I F hb hx (v1 a) h) (fun v s' q => ?_) fun _ _ e => e))
  obtain ⟨z, H', I', rz, i, rfl, hi, q⟩ := q
  obtain ⟨t, rfl⟩ := rz
  exact ⟨hi, i, _, rfl, .bl (i != 0), H', I'.tok _, rfl, q⟩
end
end Cw

namespace Cw
open PySem PySem.Spec PyProof.Rows L2

/-! ### the making of an object -/
section
variable {K : PySem.W.Frag} {m : Ad} {H : Hp} {c : List Cell}
def Ad.mk1 (m : Ad) (x : Addr) : Ad := ⟨[x], m.hd ++ m.ix⟩
/-- what __init__ promises of a new object, over data -/
def callI (C : Addr) (S : Pm) (ds : List D) (c : List Cell) (Φ : D → List Cell → Prop) : Prop := okDs 0 ds = true ∧ S [.obj C [] []] (.cell 0 :: ds) fun d c' => match c' with
  | [.obj C' ns es] => d = .non ∧ C' = C ∧ okDs 0 es = true ∧ Φ (.ins C ns es) c
  | _ => False
theorem sp_make {S : Pm} {np : Nat} {C x dx : Addr} {ds : List D} {vs : List V} {Φ : D → List Cell → Prop} {Q : VK} {E : XK} (Cc : CR K H m c) (r : RRL K H m ds vs) (hl : ds.length + 1 = np) (h : callI C S ds c Φ) (q : KQ K H m Φ Q)
    (hx : H x = none) (hd : H dx = none) (hne : dx ≠ x) : spD K 1 np S (.ref x :: vs) (upd (upd H dx (.own x)) x (.ins C dx [])) (fun v H2 => v = .non ∧ Q (.ref x) H2) E := by
  obtain ⟨ok, hS⟩ := h
  have hal := hall Cc
  have hx1 : x ∉ m.ix ∧ x ∉ m.hd := hid_new hx Cc
  have keep2 : ∀ b o, H b = some o → upd (upd H dx (.own x)) x (.ins C dx []) b = some o := fun b o e => by
    rw [upd_ne (ne_of_none e hx), upd_ne (ne_of_none e hd)]; exact e
  have ex2 : Ex (hid m H) (hid (m.mk1 x) (upd (upd H dx (.own x)) x (.ins C dx []))) := fun b o e => by
    obtain ⟨⟨h1, h2⟩, h3⟩ := hid_some e
    rw [hid_of (m := m.mk1 x)]
    · exact keep2 b o h3
    · refine ⟨fun z => ?_, fun z => ?_⟩
      · have : b = x := by simpa [Ad.mk1] using z
        subst this; rw [hx] at h3; cases h3
      · rcases List.mem_append.mp (show b ∈ m.hd ++ m.ix from z) with z | z
        · exact h2 z
        · exact h1 z
  refine ⟨m.mk1 x, [.obj C [] []], .cell 0 :: ds, _, rfl, hl, ⟨rfl, by simp [Ad.mk1], fun k ce e => ?_, fun b hb => ?_, fun a ha z => ?_, fun q hq => ⟨List.mem_append_left _ (Cc.tk q hq).1, (Cc.tk q hq).2.keep2 (fun o e => keep2 _ o e) ex2⟩⟩, ?_, hS, fun d c' w H' hΦ C' r' l => ?_⟩
  · have hk : k = 0 := by
      have := (List.getElem?_eq_some_iff.mp e).1
      simp at this; exact this
    subst hk
    simp at e; subst e
    exact ⟨x, rfl, dx, [], upd_same, rfl, rfl⟩
  · obtain ⟨o, e, e'⟩ := hal b hb
    exact ⟨o, keep2 b o e, e'⟩
  · have : a = x := by simpa [Ad.mk1] using ha
    subst this
    rcases List.mem_append.mp (show a ∈ m.hd ++ m.ix from z) with z | z
    · exact hx1.2 z
    · exact hx1.1 z
  · show RL K [x] (hid (m.mk1 x) _) (.cell 0 :: ds) (.ref x :: vs)
    exact ⟨.ref x, vs, rfl, ⟨x, rfl, rfl⟩, RL.low (n := 0) ex2 (fun k a hk => absurd hk (Nat.not_lt_zero _)) ds vs ok r⟩
  · cases c' with
    | nil => exact hΦ.elim
    | cons ce t =>
      cases t with
      | cons _ _ => cases ce <;> exact hΦ.elim
      | nil =>
        cases ce with
        | lst _ => exact hΦ.elim
        | dct _ _ => exact hΦ.elim
        | dcT _ _ => exact hΦ.elim
        | obj C'' ns es =>
          obtain ⟨rfl, rfl, ok2, hq⟩ := hΦ
          obtain ⟨b, hb, hat⟩ := C'.at_ 0 _ rfl
          have hbx : b = x := by
            have h0 : (m.mk1 x).ix[0]? = some x := rfl
            rw [h0] at hb
            exact (Option.some.inj hb).symm
          subst hbx
          obtain ⟨dx', fs, h3, h4, h5⟩ := hat
          have exm : Ex (hid (m.mk1 b) H') (hid m H') := fun a o e => by
            obtain ⟨⟨h1, h2⟩, h6⟩ := hid_some e
            rw [hid_of ⟨fun z => h2 (List.mem_append_right _ z), fun z => h2 (List.mem_append_left _ z)⟩]
            exact h6
          have l' : Le m H m H' := ⟨fun _ _ e => e, (ex2.trans l.ex).trans exm, rfl, fun a ha => by
            obtain ⟨o, e, _⟩ := Cc.hs a ha
            rcases l.hk a (List.mem_append_left _ ha) with z | ⟨⟨ps, ps', y1, y2⟩, y3⟩
            · exact .inl (z.trans ((keep2 a o e).trans e.symm))
            · refine .inr ⟨⟨ps, ps', ?_, y2⟩, fun t => (y3 (t.keep2 (fun o e => keep2 _ o e) ex2)).keep rfl exm⟩
              have := keep2 a o e
              rw [y1] at this
              rw [e]; exact this.symm, fun _ h => .inl h, fun a e => upd_none (upd_none (l.al a e))⟩
          refine ⟨by cases w <;> first | rfl | exact absurd r' (by intro z; cases z), q _ c _ H' m hq ⟨Cc.len, Cc.nd, fun k ce e => ?_, fun a ha => l'.hs ha (Cc.hs a ha), Cc.dj, Cc.tk' l'⟩ ⟨b, dx', fs, rfl, ?_, h4, ?_⟩ l'⟩
          · obtain ⟨a, h1, h2⟩ := Cc.at_ k ce e
            exact ⟨a, h1, h2.step l' fun o e' => by
              obtain ⟨u, e1, n⟩ := h2.nt
              rw [e'] at e1; cases e1
              exact l.kc (List.mem_append_right _ (List.mem_of_getElem? h1)) (keep2 a o e') n⟩
          · rw [hid_of hx1]; exact h3
          · exact RL.low (n := 0) exm (fun k a hk => absurd hk (Nat.not_lt_zero _)) es _ ok2 h5
end
section
variable {X : Cx} {CX : CXT} {k np : Nat} {f C : Addr} {fd : FuncData} {ps ks : List Str} {S : Pm} {E : XK} {x : Str} {p pos : Pos} {e : Expr} {es : List Expr} {kws : List Keyword} {tas tks : TDs}
def dMake (C : Addr) (S : Pm) (np : Nat) (t : TDs) : TD := fun ρ c Φ => t ρ c fun ds c1 => ds.length + 1 = np ∧ callI C S ds c1 Φ
theorem pd_make (M : Mk X.K C f) (F : FnOk X.prog X.w X.K X.mg X.base CX k f fd ps (spD X.K 1 np S)) (hr : Room (k + 1) X.A) (hm : X.mg x = some (.ref C)) (hb : Binds X.K fd ps []) (hx : Passes CX X E)
    (ha : PDs X (e :: es) tas) (hg : Gl X x := by rfl) (hdb : (x == ("__debug__" : Str)) = false := by decide) (he : starEach (e :: es) X.env = (false, eval e X.env) :: starEach es X.env := by rfl) (hpl : (backTo pos (starEach es X.env)).any (·.1) = false := by rfl) :
    PD X (.Call (.Name x p) (e :: es) [] pos) (dMake C S np tas) := PE.imp (pe_make M F hr hg hm hb .nil hx ha hdb he hpl) fun σ H Q ⟨m, ρ, c, Φ, S', h, q⟩ =>
    ⟨m, ρ, c, _, S', h, fun ds c1 vs H1 m1 ⟨hl, hc⟩ C1 R1 L1 => fun a dx h1 h2 h3 => by rw [List.append_nil]; exact sp_make C1 R1 hl hc (KQ.le (K := X.K) q L1) h1 h2 h3⟩
end
section
variable {X : Cx} {CX : CXT} {k : Nat} {f C : Addr} {fd : FuncData} {ps : List Str} {S : Pm} {E : XK} {x : Str} {p pos : Pos} {a b e : Expr} {ta tb : TD}
def dOwn1 (C : Addr) (S : Pm) (g : D → List Cell → (D → List Cell → Prop) → Prop) (ta : TD) : TD := fun ρ c Φ => ta ρ c fun x c1 => (∃ ns ds, x = .ins C ns ds) ∧ callP S [x] c1 fun d c2 => g d c2 Φ
def gLen : D → List Cell → (D → List Cell → Prop) → Prop := fun d c Φ => ∃ i, d = .int i ∧ (0 ≤ i ∧ i < 2 ^ 63) ∧ Φ (.int i) c
def gTru : D → List Cell → (D → List Cell → Prop) → Prop := fun d c Φ => ∃ i, d = .int i ∧ (0 ≤ i ∧ i < 2 ^ 63) ∧ Φ (.bl (i != 0)) c
def only1 (P : D → List Cell → Prop) : List D → List Cell → Prop
  | [x], c => P x c
  | _, _ => False
theorem lift_own1 {K : PySem.W.Frag} {g : D → List Cell → (D → List Cell → Prop) → Prop} {g' : V → VK → Hp → Prop} {σ : L2.St} {H : Hp} {Q : VK}
    (hg : ∀ d c Φ w H m Q, g d c Φ → CR K H m c → RR K H m d w → KQ K H m Φ Q → g' w Q H) (h : lift K (dOwn1 C S g ta) σ H Q) : tCB (rOwn1 C (spD K 0 1 S) E g') (liftA K (dCons ta dNil)) σ H Q := by
  obtain ⟨m, ρ, c, Φ, S', h, q⟩ := h
  refine ⟨m, ρ, c, only1 fun x c1 => (∃ ns ds, x = D.ins C ns ds) ∧ callP S [x] c1 fun d c2 => g d c2 Φ, S', h, fun xs c1 us H1 m1 hx C1 R1 L1 => ?_⟩
  · cases xs with
    | nil => exact hx.elim
    | cons x t => cases t with
      | cons _ _ => exact hx.elim
      | nil =>
    obtain ⟨⟨ns, ds, rfl⟩, hc⟩ := hx
    have R1' := R1
    obtain ⟨u, r, rfl, R2, e⟩ := R1'
    cases (show r = [] from e)
    obtain ⟨a, dx, fs, rfl, h1, _⟩ := R2
    exact ⟨a, dx, fs, rfl, (hid_some h1).2, sp_pure C1 R1 rfl hc fun d c' w H' m' hΦ C' r' l' => hg d c' Φ w H' m' Q hΦ C' r' (KQ.le (K := K) q (L1.trans l'))⟩
theorem pd_lenO (F : FnOk X.prog X.w X.K X.mg X.base CX k f fd ps (spD X.K 0 1 S)) (hs : PySem.W.findIn X.K (.ref C) "__len__" = some (some (.ref f))) (hf : PySem.W.isFn X.K (.ref f) = true) (hb : Binds X.K fd ps []) (hx : Passes CX X E) (hr : Room (k + 1) X.A)
    (ha : PD X e ta) (hm : X.mg "len" = none) (hg : Gl X "len" := by rfl) (he : starEach [e] X.env = (false, eval e X.env) :: starEach [] X.env := by rfl) (hpl : (backTo pos (starEach [] X.env)).any (·.1) = false := by rfl) :
    PD X (.Call (.Name "len" p) [e] [] pos) (dOwn1 C S gLen ta) := PE.imp (pe_callB (call_lenO F hs hf hb hx hr) hg hm boot_len (pds_cons ha pds_nil he) (by decide) (by decide) he hpl) fun σ H Q h =>
    lift_own1 (fun d c Φ w H m Q ⟨i, hd, hi, hΦ⟩ C r q => by subst hd; cases (show w = _ from r); exact ⟨i, rfl, hi, q.pure C hΦ rfl⟩) h
theorem pd_boolO (F : FnOk X.prog X.w X.K X.mg X.base CX k f fd ps (spD X.K 0 1 S)) (hn : PySem.W.findIn X.K (.ref C) "__bool__" = some none) (hs : PySem.W.findIn X.K (.ref C) "__len__" = some (some (.ref f))) (hf : PySem.W.isFn X.K (.ref f) = true) (hb : Binds X.K fd ps []) (hx : Passes CX X E) (hr : Room (k + 3) X.A)
    (ha : PD X e ta) (hm : X.mg "bool" = none) (hg : Gl X "bool" := by rfl) (he : starEach [e] X.env = (false, eval e X.env) :: starEach [] X.env := by rfl) (hpl : (backTo pos (starEach [] X.env)).any (·.1) = false := by rfl) :
    PD X (.Call (.Name "bool" p) [e] [] pos) (dOwn1 C S gTru ta) := PE.imp (pe_callTy (call_boolO F hn hs hf hb hx hr) hg hm (by decide +kernel) (pds_cons ha pds_nil he) (by decide) (by decide) he hpl) fun σ H Q h =>
    lift_own1 (fun d c Φ w H m Q ⟨i, hd, hi, hΦ⟩ C r q => by subst hd; cases (show w = _ from r); exact ⟨i, rfl, hi, q.pure C hΦ rfl⟩) h
end
end Cw

namespace Cw
open PySem PySem.Spec PyProof.Rows L2

/-! ### comprehensions, by what each turn says -/
theorem inner_same {c : List Cell} {acc : List D} {y : D} {Q : List Cell → Prop} (q : Q c) : inner c.length acc y (c ++ [.lst acc]) Q := by
  refine ⟨by simp, ?_⟩
  have e : Nat.beq (c ++ [Cell.lst acc]).length (c.length + 1) = true := by
    rw [List.length_append]; exact Nat.beq_refl _
  rw [e]
  show Q _
  rw [List.take_left']
  · exact q
  · rfl
theorem okDs_app {n : Nat} : ∀ {a b : List D}, okDs n a = true → okDs n b = true → okDs n (a ++ b) = true
  | [], _, _, h => h
  | d :: a, b, h, h2 => by
    have h' : okD n d = true ∧ okDs n a = true := by simpa [okDs] using h
    show okDs n (d :: (a ++ b)) = true
    simp only [okDs, Bool.and_eq_true]
    exact ⟨h'.1, okDs_app h'.2 h2⟩
mutual
theorem okD_up {n : Nat} : ∀ d : D, okD n d = true → okD (n + 1) d = true
  | .non, h => rfl
  | .bl _, h => rfl
  | .int _, h => rfl
  | .str _, h => rfl
  | .tup ds, h => by
    have h : okDs n ds = true := by simpa [okD] using h
    simpa [okD] using okDs_up ds h
  | .lst ds, h => by
    have h : okDs n ds = true := by simpa [okD] using h
    simpa [okD] using okDs_up ds h
  | .fl ds, h => by
    have h : okDs n ds = true := by simpa [okD] using h
    simpa [okD] using okDs_up ds h
  | .cell j, h => by simp [okD] at h ⊢; omega
  | .ins _ _ ds, h => by
    have h : okDs n ds = true := by simpa [okD] using h
    simpa [okD] using okDs_up ds h
  | .dct _ ds, h => by
    have h : okDs n ds = true := by simpa [okD] using h
    simpa [okD] using okDs_up ds h
  | .dcT _ ds, h => by
    have h : okDs n ds = true := by simpa [okD] using h
    simpa [okD] using okDs_up ds h
  | .exc _ _ _ _ ds, h => by
    have h : okDs n ds = true := by simpa [okD] using h
    simpa [okD] using okDs_up ds h
  | .exm _ _ ds, h => by
    have h : okDs n ds = true := by simpa [okD] using h
    simpa [okD] using okDs_up ds h
  | .ttp ds, h => by
    have h : okDs n ds = true := by simpa [okD] using h
    simpa [okD] using okDs_up ds h
  | .fn _ ds _, h => by
    have h : okDs n ds = true := by simpa [okD] using h
    simpa [okD] using okDs_up ds h
  | .insA _ _ _ ds, h => by
    have h : okDs n ds = true := by simpa [okD] using h
    simpa [okD] using okDs_up ds h
  | .raw _, h => by first | rfl | exact h | simp [okD] at h ⊢
theorem okDs_up {n : Nat} : ∀ ds : List D, okDs n ds = true → okDs (n + 1) ds = true
  | [], h => rfl
  | d :: ds, h => by
    have h' : okD n d = true ∧ okDs n ds = true := by simpa [okDs] using h
    simp only [okDs, Bool.and_eq_true]
    exact ⟨okD_up d h'.1, okDs_up ds h'.2⟩
end
theorem okDs_one {n : Nat} {d : D} (h : okD n d = true) : okDs n [d] = true := by simp [okDs, h]
theorem lc_filter {i : Nat} {tt : TDt} {te : TD} {ρ : Env} {c : List Cell} {Φ : List D → List Cell → Prop} (g : D → Bool) (f : D → D) (hc : okCs c.length c = true) : ∀ (ds acc : List D),
    (∀ d ∈ ds, ∀ acc (Ψ : Bool → List Cell → Prop), okDs c.length acc = true → Ψ (g d) (c ++ [.lst acc]) → tt (ρ.set i (some d)) (c ++ [.lst acc]) Ψ) →
    (∀ d ∈ ds, g d = true → okD c.length (f d) = true ∧ ∀ acc (Ψ : D → List Cell → Prop), okDs c.length acc = true → Ψ (f d) (c ++ [.lst acc]) → te (ρ.set i (some d)) (c ++ [.lst acc]) Ψ) →
    okDs c.length acc = true → acc.length + ds.length ≤ sizeLine → Φ (acc ++ (ds.filter g).map f) c → lcD i tt te ds acc ρ c Φ
  | [], acc, _, _, h, _, q => ⟨hc, h, by simpa using q⟩
  | d :: ds, acc, ht, he, h, hl, q => by
    have hl' : acc.length + (ds.length + 1) ≤ sizeLine := hl
    refine ht d List.mem_cons_self acc _ h ?_
    cases hg : g d with
    | true =>
      show te _ _ _
      obtain ⟨hk, hte⟩ := he d List.mem_cons_self hg
      refine hte acc _ h ⟨by omega, inner_same ?_⟩
      refine lc_filter g f hc ds _ (fun x hx => ht x (List.mem_cons_of_mem _ hx)) (fun x hx => he x (List.mem_cons_of_mem _ hx)) (okDs_app h (okDs_one hk)) (by rw [List.length_append]; show acc.length + 1 + ds.length ≤ _; omega) ?_
      rw [List.filter_cons_of_pos (by rw [hg])] at q
      simpa using q
    | false =>
      show inner _ _ _ _ _
      refine inner_same ?_
      refine lc_filter g f hc ds _ (fun x hx => ht x (List.mem_cons_of_mem _ hx)) (fun x hx => he x (List.mem_cons_of_mem _ hx)) h (by omega) ?_
      rw [List.filter_cons_of_neg (by rw [hg]; decide)] at q
      exact q
theorem lc_map {i : Nat} {te : TD} {ρ : Env} {c : List Cell} {Φ : List D → List Cell → Prop} (f : D → D) (hc : okCs c.length c = true) (ds : List D)
    (he : ∀ d ∈ ds, okD c.length (f d) = true ∧ ∀ acc (Ψ : D → List Cell → Prop), okDs c.length acc = true → Ψ (f d) (c ++ [.lst acc]) → te (ρ.set i (some d)) (c ++ [.lst acc]) Ψ) (hl : ds.length ≤ sizeLine) (q : Φ (ds.map f) c) : lcD i dYes te ds [] ρ c Φ :=
  lc_filter (fun _ => true) f hc ds [] (fun d _ acc Ψ _ h => h) (fun d hd _ => he d hd) rfl (by simpa using hl) (by
    have : ds.filter (fun _ => true) = ds := List.filter_eq_self.mpr fun _ _ => rfl
    rw [this]; simpa using q)
theorem forD_inv {g : TGD} {tb : TSD} {De : DEnds} (I : List D → Env → List Cell → Prop) (fin : ∀ ρ c, I [] ρ c → De.nx ρ c)
    (step : ∀ d ds ρ c (F : Env → List Cell → Prop), (∀ ρ c, I ds ρ c → F ρ c) → I (d :: ds) ρ c → g d ρ c fun ρ1 c1 => tb ⟨F, De.rt, De.nx, F⟩ ρ1 c1) : ∀ ds ρ c, I ds ρ c → forD g tb De ds ρ c
  | [], ρ, c, h => fin ρ c h
  | d :: ds, ρ, c, h => step d ds ρ c _ (fun ρ c h => forD_inv I fin step ds ρ c h) h
end Cw

namespace Cw
open PySem PySem.Spec PyProof.Rows L2

/-! ### repr of data, where no repr runs around it -/
structure Showy (p : PyData) : Prop where
  sh : p.showable = true
  nd : p.hasDict = false
  dp : p.depth ≤ 60
  sz : p.shown.length ≤ sizeLine
section
variable {X : Cx}
def rReprD (K : PySem.W.Frag) : List V → Hp → VK → Prop := fun xs H Q => ∃ a d, xs = [.ref a] ∧ Dp K H (.ref a) d ∧ Showy d ∧ Q (.str d.shown) H
theorem call_reprD (hg : X.A.guards = some []) (hu : X.A.units + 64 < cLine) : CallR X (.builtin "repr") (rReprD X.K) := by
  intro pins s σ H xs us Q I r h
  obtain ⟨a, d, rfl, hd, S, q⟩ := h
  obtain rfl := Vals.ref1 r
  obtain ⟨as, w1⟩ := Dp.reads I d (.ref a) (.ref a) hd rfl
  have := S.dp
  exact PySem.repr_of_reads' (h₀ := s.heap) w1 S.sh (fun z => by rw [S.nd] at z; cases z) hg (by omega) (fun _ _ e => e) (fun h' u tk k => ⟨.str d.shown, H, I.kept k, ⟨u, rfl⟩, q⟩) S.sz
end
def fRepr : F1 := fun x c Φ => match x with
  | .tup _ => ∃ p, D.py x = some p ∧ Showy p ∧ Φ (.str p.shown) c
  | .lst _ => ∃ p, D.py x = some p ∧ Showy p ∧ Φ (.str p.shown) c
  | _ => False
theorem l1_repr {K : PySem.W.Frag} : L1f K fRepr (fun u H Q => rReprD K [u] H Q) := by
  intro x c Φ h H m u C r Q q
  cases x <;> first | exact h.elim | skip
  · obtain ⟨p, h1, h2, h3⟩ := h
    have hd := W.dp r h1
    obtain ⟨a, xs, rfl, _⟩ := r
    exact ⟨a, p, rfl, hd, h2, q.pure C h3 rfl⟩
  · obtain ⟨p, h1, h2, h3⟩ := h
    have hd := W.dp r h1
    obtain ⟨a, xs, rfl, _⟩ := r
    exact ⟨a, p, rfl, hd, h2, q.pure C h3 rfl⟩
section
variable {X : Cx} {e : Expr} {ta : TD} {pos pp : Pos}
theorem pd_repr (hgu : X.A.guards = some []) (hu : X.A.units + 64 < cLine) (ha : PD X e ta) (hm : X.mg "repr" = none) (hg : Gl X "repr" := by rfl) (he : starEach [e] X.env = (false, eval e X.env) :: starEach [] X.env := by rfl) (hpl : (backTo pos (starEach [] X.env)).any (·.1) = false := by rfl) :
    PD X (.Call (.Name "repr" pp) [e] [] pos) (dCB (un1 fRepr) (dCons ta dNil)) := pd_B1 (call_reprD hgu hu) l1_repr (by decide +kernel) (by decide) (by decide) ha hg hm he hpl
end
end Cw

namespace Cw
open PySem PySem.Spec PyProof.Rows L2

/-! ### defs where no repr runs around them -/
structure FnG (P : Program) (w : World) (K : PySem.W.Frag) (mg : Str → Option Value) (base : Heap) (k : Nat) (f : Addr) (fd : FuncData) (ps : List Str) (sp : Sp) : Prop where
  ln : ∀ vs H Q E, sp vs H Q E → vs.length = ps.length
  rn : ∀ (A : Around) (outer : List PySem.Env) (s : Shared) (H : Hp) (args : Args) (us : List Value) (vs : List V) (Q : VK) (E : XK), A.guards = some [] → Room k A → Env0 P w K mg base A outer s H → BindsTo s fd args (ps.zip us) → Vals vs us → sp vs H Q E →
    codeAny (model P w) A (.call (.ref f) args) (L2.CR CX0 outer P w H s Q E) s
section
variable {P : Program} {w : World} {K : PySem.W.Frag} {mg : Str → Option Value} {base : Heap}
theorem fnG {x qual : Str} {st : Stmt} {f : Addr} {fd : FuncData} {N ps : List Str} {k : Nat} {sp : Sp} (F : Fun K x qual st f fd) (Sc : FnScope N ps (defScope st)) (ln : ∀ vs H Q E, sp vs H Q E → vs.length = ps.length)
    (hbody : ∀ (cdv : Value) (A : Around) (outer : List PySem.Env) (s : Shared) (H : Hp) (vs : List V) (Q : VK) (E : XK), A.guards = some [] → Room k (A.deeper (envOfC qual (defScope st) s.heap.objs.size f cdv)) → sp vs H Q E →
      ∃ t, PSs (cxOf CX0 P w K mg base N qual (defScope st) f cdv A outer s H E).nox (defBody st) t ∧ t { nx := fun _ H' => Q .non H', rt := Q } (L2.start N vs) H) : FnG P w K mg base (k + 1) f fd ps sp := by
  obtain ⟨oc, od, kV, doc, pm, an, cdv, ct, osl, rfl, lk, hcd⟩ := F.ex
  refine ⟨ln, fun A outer s H args us vs Q E hgu hr e0 hb r hsp => ?_⟩
  have inK : K.In s.heap := e0.mod.kin.keeps fun b o e => (e0.bs b o e).1
  have nl : s.heap.NoLimit := e0.mod.nolimit.keeps fun b o e => (e0.bs b o e).1
  obtain ⟨t, ht', hq⟩ := hbody cdv A outer s H vs Q E hgu (hr.deeper _) hsp
  have ht := ht'.nox
  have kinds : ∀ y ∈ ps.zip us, (defScope st).names.lookup y.1 = some .local ∨ ((defScope st).names.lookup y.1 = some .cell ∧ ((cellsFrom (s.heap.objs.size + 1) (defScope st).names []).lookup y.1).isSome = true) := fun ⟨n, v⟩ hy => (Sc.par n (List.of_mem_zip hy).1).imp id fun q => ⟨q, PySem.W.cellsFrom_some _ _ _ (.inl q)⟩
  refine codeAny_call_function hr.depth (inK _ _ lk) rfl Sc.co Sc.gen rfl (PySem.W.codeRec_of inK hcd) (hb _ _ _ _ (wpAny_newFunctionEnv_cells Sc.kind kinds fun env he s1 x => ?_))
  subst he
  refine ⟨nl.keeps x.toInCall.keep, codeAny_func ?_⟩
  have I : Inv (cxOf CX0 P w K mg base N qual (defScope st) f cdv A outer s H E) [] (L2.start N vs) H s1 := inv_start Sc hr.hd e0 (ln _ _ _ _ hsp) r x
  refine wpAny_mono (ht.run [] s1 (L2.start N vs) H _ I hq) (fun fl s' hs => ?_) fun e s' hs => hs
  cases fl with
  | ret u =>
    obtain ⟨v, σ', H', J, rv, q⟩ := hs
    exact ⟨v, H', J.os, J.bare, J.base, J.hok, rv, q⟩
  | next =>
    obtain ⟨σ', H', J, q⟩ := hs
    exact ⟨V.non, H', J.os, J.bare, J.base, J.hok, rfl, q⟩
  | brk => exact hs.elim fun _ z => z.elim fun _ z => z.2.elim
  | cont => exact hs.elim fun _ z => z.elim fun _ z => z.2.elim
end
section
variable {X : Cx} {k np n0 : Nat} {f : Addr} {fd : FuncData} {ps : List Str} {sp : Sp} {S : Pm} {E : XK} {x : Str} {p pos : Pos} {e : Expr} {es : List Expr} {t : TA} {tas : TDs}
theorem pe_callG (F : FnG X.prog X.w X.K X.mg X.base k f fd ps sp) (hgu : X.A.guards = some []) (hr : Room k X.A) (hg : Gl X x) (hm : X.mg x = some (.ref f)) (hk : PySem.W.keepIn X.K (.ref f) = true) (hb : Binds X.K fd ps []) (hx : Passes CX0 X E)
    (ha : PA X (e :: es) t) (hdb : (x == ("__debug__" : Str)) = false) (he : starEach (e :: es) X.env = (false, eval e X.env) :: starEach es X.env) (hpl : (backTo pos (starEach es X.env)).any (·.1) = false) :
    PE X (.Call (.Name x p) (e :: es) [] pos) (tCall sp [] E t) := ⟨fun pins s σ H Q I h => by
  refine wpAny_Call_Name_kw (ld_glob I hg hm (PySem.W.callWith_K (h₀ := X.base) I.ok.mod.kin hk (thn (ha.run pos pins s σ H _ I h) fun us s1 ⟨vs, H1, I1, r, q⟩ => ⟨I1.kIn, ?_⟩) he hpl) hdb)
  have q : sp vs H1 Q E := by simpa using q
  have hl : us.length = ps.length := by rw [← r.length]; exact F.ln _ _ _ _ q
  have bt : BindsTo s1 fd ⟨us, []⟩ (ps.zip us) := by simpa using hb s1 us I1.kIn (by simpa using hl)
  refine wpAny_call (codeAny_mono (F.rn X.A X.stack s1 H1 ⟨us, []⟩ us vs Q E hgu hr I1.env0 bt r q) fun z s' hq => ?_)
  cases z with
  | error e => exact hx pins σ H1 s1 e s' I1 hq
  | ok fl =>
    cases fl with
    | ret u => exact I1.after hq
    | next => exact False.elim hq
    | brk => exact False.elim hq
    | cont => exact False.elim hq⟩
theorem pd_callMG (F : FnG X.prog X.w X.K X.mg X.base k f fd ps (spD X.K 1 np S)) (hgu : X.A.guards = some []) (hr : Room k X.A) (hm : X.mg x = some (.ref f)) (hk : PySem.W.keepIn X.K (.ref f) = true) (hb : Binds X.K fd ps []) (hx : Passes CX0 X E)
    (ha : PDs X (e :: es) tas) (hg : Gl X x := by rfl) (hdb : (x == ("__debug__" : Str)) = false := by decide) (he : starEach (e :: es) X.env = (false, eval e X.env) :: starEach es X.env := by rfl) (hpl : (backTo pos (starEach es X.env)).any (·.1) = false := by rfl) :
    PD X (.Call (.Name x p) (e :: es) [] pos) (dCallM S np tas) := PE.imp (pe_callG F hgu hr hg hm hk hb hx ha hdb he hpl) fun σ H Q ⟨m, ρ, c, Φ, S', h, q⟩ =>
    ⟨m, ρ, c, _, S', h, fun ds c1 vs H1 m1 ⟨hl, hc⟩ C1 R1 L1 => by show spD _ _ _ _ (_ ++ []) _ _ _; rw [List.append_nil]; exact sp_one C1 R1 hl hc (KQ.le (K := X.K) q L1)⟩
end
section
variable {P : Program} {w : World} {K : PySem.W.Frag} {mg : Str → Option Value} {base : Heap}
theorem fnGD {x qual : Str} {st : Stmt} {f : Addr} {fd : FuncData} {N ps : List Str} {k n0 : Nat} {S : Pm} (F : Fun K x qual st f fd) (Sc : FnScope N ps (defScope st))
    (hbody : ∀ (cdv : Value) (A : Around) (outer : List PySem.Env) (s : Shared) (H : Hp) (E : XK), A.guards = some [] → Room k (A.deeper (envOfC qual (defScope st) s.heap.objs.size f cdv)) →
      ∃ ts, PSDs (cxOf CX0 P w K mg base N qual (defScope st) f cdv A outer s H E).nox (defBody st) ts ∧
        ∀ c ds Φ, c.length = n0 → ds.length = ps.length → S c ds Φ → ts ⟨fun _ c' => retD n0 Φ .non c', retD n0 Φ, fun _ _ => False, fun _ _ => False⟩ (startD N ds) c) :
    FnG P w K mg base (k + 1) f fd ps (spD K n0 ps.length S) := by
  refine fnG F Sc (fun vs H Q E ⟨m, c, ds, Φ, h1, h2, C, r, _⟩ => by rw [← RL.length r]; exact h2) (fun cdv A outer s H vs Q E hgu hr ⟨m, c, ds, Φ, h1, h2, C, r, hS, q⟩ => ?_)
  obtain ⟨ts, hp, ht⟩ := hbody cdv A outer s H E hgu hr
  have hn : m.ix.length = n0 := by rw [C.len]; exact h1
  exact ⟨_, hp, m, startD N ds, c, _, start_slots C r, ht c ds Φ h1 h2 hS, fun σ' H' m' ρ' c' h' S' l => ret_ok hn q h' S'.cr rfl l, fun d c' v H' m' h' C' r' l => ret_ok hn q h' C' r' l, fun _ _ _ _ _ z => z.elim, fun _ _ _ _ _ z => z.elim⟩
end
/-! ### the making by name -/
section
variable {X : Cx} {CX : CXT} {k np : Nat} {f C : Addr} {fd : FuncData} {ps ks : List Str} {S : Pm} {E : XK} {x : Str} {p pos kpos : Pos} {e : Expr} {kws : List Keyword} {ta : TD} {tas tks : TDs} {nm : Option Str}
end
/-! ### three names at once -/
end Cw

namespace Cw
open PySem PySem.Spec PyProof.Rows L2

/-! ### the law's own entry, for FnG -/
abbrev OutG (s₁ : Shared) : Result → Shared → Prop := fun r s' => r = .ok (.ret (.bool true)) ∧ OldK s₁.heap s'.heap ∧ s'.os = s₁.os ∧ AllBare s'.gens
section
variable {P : Program} {w : World} {K : PySem.W.Frag} {mg mb : Str → Option Value} {k : Nat} {fa a : Addr} {fd : FuncData} {x : Str} {sp : Sp} {s₁ : Shared} {vs : List Value} {ns : List Int}
/-- from a heap in which at most the script is tracked -/
theorem entryG {H : Hp} (KX : K.In s₁.heap) (hns : s₁.heap.Ns mainGlobals mg) (hb : s₁.heap.Ns builtinsNs mb) (hbb : ∀ x : Str, x ≠ "__name__" → mb x = bootBuiltins x) (hlim : s₁.heap.NoLimit) (hg : s₁.gens = #[])
    (ha : s₁.heap.get? a = some { cls := .type "list", data := .seq vs.toArray }) (hr : Room k callerA) (F : ∀ base : Heap, K.In base → base.Ns mainGlobals mg → FnG P w K mg base k fa fd [x] sp) (hbind : ∀ (s : Shared) (u : Value), BindsTo s fd ⟨[u], []⟩ [(x, u)])
    (hO : Only H) (hS : sp [.ref a] H (fun v _ => v = .bl true) fun _ _ _ => False) (hok : HOk P w H s₁.heap) (hA : ∀ b, H b ≠ none → b = a) (hK : H a ≠ none → K.lookup a = none) :
    codeAny (model P w) callerA (.call (.ref fa) ⟨[.ref a], []⟩) (OutG s₁) s₁ := by
  have only : ∀ {b : Addr} {u : HO}, H b = some u → b = a := fun {b u} q => hA b (by rw [q]; exact fun z => nomatch z)
  have nsK : ∀ {b : Addr} {m : Str → Option Value}, s₁.heap.Ns b m → (hidT s₁.heap H).Ns b m := fun {b m} ⟨o, es, ep, e, d, r⟩ => by
    refine ⟨o, es, ep, hidT_get e ?_, d, r⟩
    cases q : H b with
    | none => rfl
    | some u =>
      have eb := only q
      subst eb
      rw [ha] at e
      cases e
      exact nomatch (show Data.seq vs.toArray _ = Data.dict es ep from d)
  have hKb : K.In (hidT s₁.heap H) := fun b o e => by
    refine hidT_get (KX b o e) ?_
    cases q : H b with
    | none => rfl
    | some u =>
      have eb := only q
      subst eb
      have := hK (by rw [q]; exact fun z => nomatch z)
      rw [this] at e; cases e
  obtain ⟨mc, l1, l2⟩ := hlim
  have e0 : Env0 P w K mg (hidT s₁.heap H) callerA [] s₁ H :=
    ⟨rfl, ⟨hKb, nsK hns, ⟨mb, nsK hb, hbb⟩, ⟨mc, nsK l1, l2⟩⟩, fun b o e => of_hidT e, Nat.le_of_eq (hidT_size _ _), trivial, fun b z => (List.not_mem_nil z).elim, hok, .of_eq hg⟩
  have run := (F _ hKb (nsK hns)).rn callerA [] s₁ H ⟨[.ref a], []⟩ [.ref a] [.ref a] _ _ rfl hr e0 (hbind s₁ (.ref a)) (.cons rfl .nil) hS
  refine codeAny_mono run fun r s' h => ?_
  cases r with
  | error e => exact False.elim h
  | ok fl =>
    cases fl with
    | ret u =>
      obtain ⟨v, H', os, bare, un, hok', rv, hv⟩ := h
      cases (show v = .bl true from hv)
      cases (show u = Value.bool true from rv)
      refine ⟨rfl, OldK.of_keep fun b o e => ?_, os, bare⟩
      cases q : H b with
      | none => exact un.keep b o e q (fun z => (List.not_mem_nil z).elim) (fun z => (List.not_mem_nil z).elim)
      | some u =>
        rcases hO b with z | ⟨ob, xs, z⟩
        · rw [q] at z; cases z
        · have old := (hok b _ z).1
          rw [e] at old
          cases old
          exact (hok' b _ (un.frzs b _ _ z)).1
    | next => exact False.elim h
    | brk => exact False.elim h
    | cont => exact False.elim h
theorem lawG (KX : K.In s₁.heap) (hns : s₁.heap.Ns mainGlobals mg) (hb : s₁.heap.Ns builtinsNs mb) (hbb : ∀ x : Str, x ≠ "__name__" → mb x = bootBuiltins x) (hlim : s₁.heap.NoLimit) (hg : s₁.gens = #[])
    (ha : s₁.heap.get? a = some { cls := .type "list", data := .seq vs.toArray }) (hi : IntsAre vs ns) (hl : ns.length ≤ sizeLine) (hr : Room k callerA) (F : ∀ base : Heap, K.In base → base.Ns mainGlobals mg → FnG P w K mg base k fa fd [x] sp) (hbind : ∀ (s : Shared) (u : Value), BindsTo s fd ⟨[u], []⟩ [(x, u)])
    (hsp : ∀ H : Hp, Only H → HOk P w H s₁.heap → SqL K H a (ns.map V.int) → sp [.ref a] H (fun v _ => v = .bl true) fun _ _ _ => False) : codeAny (model P w) callerA (.call (.ref fa) ⟨[.ref a], []⟩) (OutG s₁) s₁ := by
  have rv := vals_ints hi
  have hl' : (ns.map V.int).length ≤ sizeLine := by rw [List.length_map]; exact hl
  cases hk : K.lookup a with
  | some o =>
    have eo := (KX a o hk).symm.trans ha
    cases eo
    have ok0 : HOk P w (fun _ => none) s₁.heap := fun b u z => nomatch (show (none : Option HO) = some u from z)
    exact entryG KX hns hb hbb hlim hg ha hr F hbind (fun _ => .inl rfl) (hsp _ (fun _ => .inl rfl) ok0 (.inr ⟨_, vs.toArray, _, hk, rfl, rfl, rfl, by rw [List.size_toArray, hi.length]; exact hl, by simpa using rv⟩)) ok0 (fun b z => absurd rfl z) fun z => absurd rfl z
  | none =>
    let T : HO := .frz { cls := .type "list", data := .seq vs.toArray } (.lst (ns.map V.int))
    have at_ : ∀ b, (upd (fun _ => none) a T) b ≠ none → b = a := fun b z => Decidable.byContradiction fun hb => z (upd_ne hb)
    have hO : Only (upd (fun _ => none) a T) := fun b => by
      by_cases e : b = a
      · subst e; exact .inr ⟨_, _, upd_same⟩
      · exact .inl (upd_ne e)
    have ok1 : HOk P w (upd (fun _ => none) a T) s₁.heap := fun b u z => by
      have e := at_ b (by rw [z]; exact fun z => nomatch z)
      subst e
      rw [upd_same] at z
      cases z
      exact ⟨ha, hl', vs, _, rv, ha⟩
    exact entryG KX hns hb hbb hlim hg ha hr F hbind hO (hsp _ hO ok1 (.inl (.inr ⟨_, upd_same⟩))) ok1 at_ fun _ => hk
end
theorem walkG {l : PySem.W.OpenLaw} {n k : Nat} {q : Program} {loose : List Str} {XP : (Str → Option Value) → Heap → Prop} {YP : World → Heap → Prop} {d : DefRec} {K : Params → PySem.W.Frag} {sp : World → Sp} {x : Str}
    (hn : l.most = some n) (hn2 : n ≤ sizeLine) (hdf : d.params.defaults = []) (hr : Room k callerA) (hY : ∀ (w : World) (h : Heap), YP w h → (K w.params).In h)
    (F : ∀ (w : World) (mg : Str → Option Value) (fa : Addr) (h : Heap), (K w.params).In h → h.Ns mainGlobals mg → mg d.name = some (.ref fa) →
      ∃ fd : FuncData, (∀ (s : Shared) (u : Value), BindsTo s fd ⟨[u], []⟩ [(x, u)]) ∧ ∀ base : Heap, (K w.params).In base → base.Ns mainGlobals mg → FnG l.prog w (K w.params) mg base k fa fd [x] (sp w))
    (hsp : ∀ (w : World) (h : Heap) (H : Hp) (a : Addr) (ns : List Int), ns.length ≤ n → Only H → HOk l.prog w H h → SqL (K w.params) H a (ns.map V.int) → sp w [.ref a] H (fun v _ => v = .bl true) fun _ _ _ => False) :
    PySem.W.WalkO q loose XP YP l.row.toRowW d [] (fun f vs => PySem.call f vs) := by
  refine Att.attach_call hn hdf fun w s₀ s₁ mg mb fa o pm cd doc a vs ns G Y ho hd hcd hmg hobj hints hlen hg => ?_
  have KX := hY w _ Y
  obtain ⟨fd, hb, hF⟩ := F w mg fa _ KX G.T.g hmg
  exact lawG KX G.T.g G.T.b G.T.builtins G.T.nolimit hg hobj hints (Nat.le_trans hlen hn2) hr hF hb fun H hO hk hS => hsp w _ H a ns hlen hO hk hS
end Cw

namespace Cw
open PySem PySem.Spec PyProof.Rows L2

/-! ### sorted({e for x in t}), e texts -/
def dSortSet (ti : TDs) (i : Nat) (te : TD) : TD := fun ρ c Φ => ti ρ c fun ds c1 => ∃ ys : List Str, ys.length = ds.length ∧ ds.length < 64 ∧
  (∀ (j : Nat) d y, ds[j]? = some d → ys[j]? = some y → ∀ Ψ : D → List Cell → Prop, Ψ (.str y) c1 → te (ρ.set i (some d)) c1 Ψ) ∧ ∀ zs : List Str, zs.Nodup → sortedS zs = true → (∀ x, x ∈ zs ↔ x ∈ ys) → Φ (.lst (zs.map .str)) c1
end Cw

namespace Cw
open PySem PySem.Spec PyProof.Rows L2 PySem.Froz

/-! ### a set of texts that can be walked -/
theorem tailTx_ris {ep : Nat} {es : Array (Int × Value)} {t : SetTable} {b : Bool} (r : Ris t.place.toList) : Ris (tailTx ep es t b).2.2.place.toList := by
  unfold tailTx
  split
  · exact relayAll_ris _ _ _
  · exact r
theorem tailTx_led {ep : Nat} {es : Array (Int × Value)} {t : SetTable} {b : Bool} : (tailTx ep es t b).2.2.led = t.led := by
  unfold tailTx
  split
  · exact relayAll_led _ _ _
  · rfl
theorem addTx_ris {h : Int} {v : Value} {D : SD} (r : Ris D.2.2.place.toList) : Ris (addTx h v D).2.2.place.toList := by
  unfold addTx
  refine tailTx_ris ?_
  have := layNew_ris D.2.2 D.1 h v r
  split <;> exact this
theorem addTx_led {h : Int} {v : Value} {D : SD} : (addTx h v D).2.2.led = D.2.2.led := by
  unfold addTx
  rw [tailTx_led]
  have := layNew_led D.2.2 D.1 h v
  split <;> exact this
/-- at a stands a set with just the texts l, no two alike, that can be walked -/
structure TxA (P : Program) (w : World) (h : Heap) (a : Addr) (l : List Str) : Prop where
  ex : ∃ D : SD, h.get? a = some (sObj "set" D) ∧ TxOk P w D l ∧ Ris D.2.2.place.toList ∧ (w.params.followText "set-order" = true ∨ D.2.2.led = true)
  nd : l.Nodup
section
variable {P : Program} {w : World} {A : Around} {E : Value → Shared → Prop} {s : Shared} {a : Addr} {l : List Str} {k : Str} {tk : Tok}
theorem TxA.put (R : TxA P w s.heap a l) (hb : l.length + 1 < scanBound) {Q : Bool → Shared → Prop}
    (h1 : k ∉ l → ∀ h', Heap.SameBut a s.heap h' → TxA P w h' a (k :: l) → Q true { s with heap := h' }) (h2 : k ∈ l → Q false s) :
    wpAny (model P w) A (setAddHashed a (.str k tk) (hashStr w k)) Q E s := by
  obtain ⟨⟨D, ho, F, r, le⟩, nd⟩ := R
  by_cases hk : k ∈ l
  · obtain ⟨es, ep, t⟩ := D
    have hd : (sObj "set" (es, ep, t)).data = .set es ep t := rfl
    have few : es.size < scanBound := by
      have := F.sz
      have this : es.size = l.length := this
      omega
    unfold setAddHashed setAddHashedIn
    refine wpAny_holding (wpAny_bind (wpAny_setState_of ho hd F.fit ?_))
    dsimp only
    rw [byScan_of rfl few F.el]
    simp only [↓reduceIte]
    unfold setAddByScan
    refine wpAny_bind (wpAny_bind (wpAny_rule (wpAny_bind (wpAny_setScan_of (knd := PySem.strKind P w) (k := k) (is_str k tk) ho hd F.fit F.el ?_))))
    cases e : List.findIdx? (fun e => (PySem.strKind P w).is k e.2) es.toList with
    | some j => exact wpAny_pure (wpAny_pure (h2 hk))
    | none =>
      obtain ⟨x, hx, hi⟩ := (F.mem k).mp hk
      have := List.findIdx?_eq_none_iff.mp e x hx
      rw [hi] at this; cases this
  · refine add_x ho F hk hb (h1 hk _ (Heap.SameBut.update s.heap a _) ⟨⟨addTx (hashStr w k) (.str k tk) D, ?_, add_ok tk F, addTx_ris r, by rw [addTx_led]; exact le⟩, List.nodup_cons.mpr ⟨hk, nd⟩⟩)
    exact Heap.get?_update_self _ ho rfl
open Builtin in
theorem TxA.add (R : TxA P w s.heap a l) (hb : l.length + 1 < scanBound) {Q : Value → Shared → Prop}
    (h1 : k ∉ l → ∀ h', Heap.SameBut a s.heap h' → TxA P w h' a (k :: l) → Q .none { s with heap := h', toks := s.toks + 1 }) (h2 : k ∈ l → Q .none { s with toks := s.toks + 1 }) :
    wpAny (model P w) A (call (.builtin "set.add") [.ref a, .str k tk]) Q E s := by
  obtain ⟨D, ho, _⟩ := R.ex
  refine wpAny_call_entry PySem.F.slot_set_add ⟨_, ho, rfl⟩ PySem.F.entry_set_add ?_ (PySem.F.args_set_add_2 _ _)
  unfold Builtin.«set.add» Builtin.Frozenset.oneOther
  simp only [List.isEmpty_nil, bind_assoc]
  unfold Builtin.Frozenset.addrOf setAdd
  refine wpAny_bind (wpAny_pure ?_)
  try dsimp only
  refine wpAny_bind (wpAny_pure ?_)
  try dsimp only
  refine wpAny_bind (wpAny_holding (wpAny_bind ((PySem.strKind P w).pyHash (is_str k tk) ?_)))
  refine TxA.put (s := { s with toks := s.toks + 1 }) R hb (fun hk h' sb r => ?_) fun hk => ?_
  · exact wpAny_pure ⟨_, rfl, h1 hk h' sb r⟩
  · exact wpAny_pure ⟨_, rfl, h2 hk⟩
end
/-- tracked -/
def TxO (P : Program) (w : World) (a : Addr) (l : List Str) : HO := .ext fun h => TxA P w h a l
theorem TxA.keep {P : Program} {w : World} {h h' : Heap} {a : Addr} {l : List Str} (R : TxA P w h a l) (k : ∀ o, h.get? a = some o → h'.get? a = some o) : TxA P w h' a l := by
  obtain ⟨⟨D, ho, r⟩, nd⟩ := R
  exact ⟨⟨D, k _ ho, r⟩, nd⟩
theorem TxA.fresh {P : Program} {w : World} {h : Heap} : TxA P w (h.push { cls := .type "set", dict := none, data := .set #[] 0 (.fresh 0 0 (!w.params.followText "set-order")) }) h.objs.size [] :=
  ⟨⟨(#[], 0, .fresh 0 0 (!w.params.followText "set-order")), Heap.get?_push_size _ rfl, TxOk.nil (by rfl), List.Pairwise.nil, by
    show _ ∨ (!w.params.followText "set-order") = true
    cases w.params.followText "set-order"
    · exact .inr rfl
    · exact .inl rfl⟩, List.nodup_nil⟩
theorem txO_new {P : Program} {w : World} {H : Hp} {h : Heap} {a : Addr} {l : List Str} (R : TxA P w h a l) : ObjOk P w H h a (TxO P w a l) := by
  obtain ⟨D, ho, _⟩ := R.ex
  exact ⟨R, ⟨_, ho⟩, fun _ _ p k => p.keep k⟩
theorem txO_get {X : Cx} {pins : List (Addr × Obj)} {σ : L2.St} {H : Hp} {s : Shared} {a : Addr} {l : List Str} (I : Inv X pins σ H s) (ha : H a = some (TxO X.prog X.w a l)) : TxA X.prog X.w s.heap a l := (I.hok a _ ha).1
theorem addT_ok {X : Cx} {pins : List (Addr × Obj)} {σ : L2.St} {H : Hp} {s : Shared} {E : Value → Shared → Prop} {D : Addr} {l : List Str} {k : Str} {tk : Tok} {Q : Value → Shared → Prop} (I : Inv X pins σ H s) (hD : H D = some (TxO X.prog X.w D l)) (room : l.length + 1 < scanBound)
    (h : ∀ s', Inv X pins σ (upd H D (TxO X.prog X.w D (if k ∈ l then l else k :: l))) s' → Q .none s') : wpAny (model X.prog X.w) X.A (call (.builtin "set.add") [.ref D, .str k tk]) Q E s := by
  have R := txO_get I hD
  refine R.add room (fun hk h' sb new => ?_) fun hk => ?_
  · rw [if_neg hk] at h
    obtain ⟨D', ho, _⟩ := new.ex
    exact h _ (I.write (e := D) (t' := s.toks + 1) (by rw [hD]; trivial) (.inl rfl) (fun b u hb hu => (sb.2 b hb).trans hu) ⟨_, ho⟩ (txO_new new))
  · rw [if_pos hk] at h
    have e : upd H D (TxO X.prog X.w D l) = H := by
      funext b
      by_cases hb : b = D
      · subst hb; rw [upd_same, hD]
      · rw [upd_ne hb]
    rw [e] at h
    exact h _ (I.tok _)
end Cw

namespace Cw
open PySem PySem.Spec PyProof.Rows L2 PySem.Froz

/-! ### {e for x in t}, e texts: the walk -/
def mem1 (k : Str) (l : List Str) : List Str := if k ∈ l then l else k :: l
def tTx (P : Program) (w : World) (wi : TI) (g : TG) (te : TE) (vs : List Nat) : TE := fun σ H Q => wi σ H fun J Ha => ∀ p, Ha p = none → ∃ Z : Nat → Nat → Hp → Prop, (∃ m, Z 0 m (upd Ha p (TxO P w p []))) ∧
  ∀ i m H, Z i m H → (J.stop i H ∧ Q (.ref p) H) ∨ (J.go i H ∧ ∃ Nx : Hp → Prop, (∀ H', Nx H' → ∃ m', m' < m ∧ Z (i + 1) m' H') ∧ ∀ x H', J.yld i H x H' → g x (wipe σ vs) H' fun σ2 H2 => wipe σ2 vs = wipe σ vs ∧
    te σ2 H2 fun y Hb => ∃ (k : Str) (l : List Str), y = .str k ∧ Hb p = some (TxO P w p l) ∧ l.length + 1 < scanBound ∧ Nx (upd Hb p (TxO P w p (mem1 k l))))
section
variable {X : Cx} {elt tg it : Expr} {scope : Scope} {own : List (Str × Nat)} {pos : Pos} {wi : TI} {g : TG} {te : TE}
theorem tx_walk (hc : X.calm = true) (hN : X.N.Nodup) (hi : PI X tg it wi) (ok : BlkOk X.N X.env.scope scope own)
    (hg : ∀ (s : Shared) (H : Hp) (C : Addr) (cl : List (Str × Addr)) (fp : List Addr), PG (X.blk s H scope (compEnvC scope cl C X.env) fp) tg g)
    (he : ∀ (s : Shared) (H : Hp) (C : Addr) (cl : List (Str × Addr)) (fp : List Addr), PE (X.blk s H scope (compEnvC scope cl C X.env) fp) elt te) (hs : ∀ x, foldedSetIterable it X.env x = pure x) :
    PE X (.SetComp elt [⟨tg, it, [], 0⟩] scope pos) (tTx X.prog X.w wi g te (own.map (·.2))) := by
  refine ⟨fun pins s σ H Q I h => ?_⟩
  rw [PpSet.eval_SetComp]
  have caps : ∀ n ∈ scope.names, n.2 = .free → ∃ c, X.env.cells.lookup n.1 = some c := fun n hn e => (ok.free n hn e).elim (fun z => I.ok.has _ (.inl z)) fun z => I.ok.has _ (.inr z)
  refine wpAny_comprehension_free (use := none) rfl hs (closure_ok caps) ok.kind (fun n hn e => by rw [ok.uniq n hn, e]) (thn (hi.run pins s σ H _ I h) fun v0 s1 a1 => thn a1 fun v1 s2 a2 => ?_)
  obtain ⟨b, fp, tn, J, Ha, ev, I2, T, st2, f2, q⟩ := a2
  subst ev
  refine PpSet.newSet_ok (newEnv_comp ?_)
  generalize hp : s2.heap.objs.size = p
  have pn : Ha p = none := I2.hok.fresh (Nat.le_of_eq hp)
  obtain ⟨Z, ⟨m0, z0⟩, turn⟩ := q p pn
  generalize hs3 : ({ s2 with heap := s2.heap.push { cls := .type "set", dict := none, data := .set #[] 0 (.fresh 0 0 (!X.w.params.followText "set-order")) } } : Shared) = s3
  have eh : s3.heap = s2.heap.push { cls := .type "set", dict := none, data := .set #[] 0 (.fresh 0 0 (!X.w.params.followText "set-order")) } := by subst hs3; rfl
  have I3 : Inv X pins σ (upd Ha p (TxO X.prog X.w p [])) s3 := by
    subst hs3
    refine I2.laid (t' := s2.toks) (fun _ _ e => Heap.get?_push_of_some _ e) (Nat.le_of_eq hp) ?_
    subst hp
    exact txO_new TxA.fresh
  have f3 : ∀ c ∈ fp, FpOk X pins (upd Ha p (TxO X.prog X.w p [])) c ∧ c < s3.heap.objs.size := fun c hm => by
    obtain ⟨o, eo, _⟩ := T.obj _ _ st2 c hm
    have lt := Heap.lt_size eo
    have ne : c ≠ p := by rw [← hp]; exact Nat.ne_of_lt lt
    exact ⟨⟨(upd_ne ne).trans (f2 c hm).1, (f2 c hm).2⟩, by rw [eh, Heap.size_push]; exact Nat.lt_succ_of_lt lt⟩
  have st3 : tn 0 s3.heap := T.keep _ _ _ st2 fun c _ o e => by rw [eh]; exact Heap.get?_push_of_some _ e
  generalize hHb : upd Ha p (TxO X.prog X.w p []) = Hb at I3 f3 z0
  have I4 := block_start I3 ok hN f3
  have pg := hg s3 Hb s3.heap.objs.size (cellsFrom (s3.heap.objs.size + 1) scope.names (cloFrom X.env.cells scope.names [])) fp
  have pe := he s3 Hb s3.heap.objs.size (cellsFrom (s3.heap.objs.size + 1) scope.names (cloFrom X.env.cells scope.names [])) fp
  show codeAny _ _ (.compStart (.SetComp elt [⟨tg, it, [], 0⟩] scope pos) 0 (.ref b) (.ref p) (compEnvC scope (cellsFrom (s3.heap.objs.size + 1) scope.names (cloFrom X.env.cells scope.names [])) s3.heap.objs.size X.env)) (compPost (model X.prog X.w) X.A X.xe none _ (.ref p) s3.heap.objs.size) { s3 with heap := pushCells (s3.heap.push { cls := .type "dict", data := .dict #[] }) scope.names }
  generalize hce : compEnvC scope (cellsFrom (s3.heap.objs.size + 1) scope.names (cloFrom X.env.cells scope.names [])) s3.heap.objs.size X.env = ce at I4 pg pe ⊢
  have el : ce.locals = s3.heap.objs.size := by subst hce; rfl
  generalize hs4 : ({ s3 with heap := pushCells (s3.heap.push { cls := .type "dict", data := .dict #[] }) scope.names } : Shared) = s4 at I4 ⊢
  have st4 : tn 0 s4.heap := T.keep _ _ _ st3 fun c _ o e => by subst hs4; exact pushCells_keeps _ _ _ _ (Heap.get?_push_of_some _ e)
  -- what is walked stands still
  have fpk : ∀ {τ : L2.St} {Hz : Hp} {sz : Shared}, Inv (X.blk s3 Hb scope ce fp) [] τ Hz sz → (∀ c ∈ fp, Hz c = none) → ∀ c ∈ fp, FpOk (X.blk s3 Hb scope ce fp) [] Hz c := fun Iz nz c hm => by
    refine ⟨nz c hm, (Iz.ok.exf c hm).1, Iz.ok.exfs c hm, .inl hm, fun n d e => (Iz.ok.exf c hm).2 n d e, fun pr hpr => ?_⟩
    rw [List.append_nil] at hpr
    cases hpr
  have loop : codeAny (model X.prog X.w) X.A (.compLoop (.SetComp elt [⟨tg, it, [], 0⟩] scope pos) 0 (.ref b) (.ref p) ce) (compPost (model X.prog X.w) X.A X.xe none (EP X pins σ Q) (.ref p) s3.heap.objs.size) s4 := by
    refine PpSet.compLoopS_any (fun n sz => ∃ i Hz, Inv (X.blk s3 Hb scope ce fp) [] (wipe σ (own.map (·.2))) Hz sz ∧ tn i sz.heap ∧ (∀ c ∈ fp, Hz c = none) ∧ Z i n Hz) ?_ m0 ⟨0, Hb, I4, st4, fun c hm => (f3 c hm).1.1, z0⟩
    rintro n s5 ⟨i, Hc, I5, st5, n5, z5⟩
    rcases turn i n Hc z5 with ⟨stop, fin⟩ | ⟨go, Nx, next, step⟩
    · refine thnF (T.done (X.blk s3 Hb scope ce fp) rfl rfl rfl hc i [] s5 _ Hc (fun _ _ => False) I5 (fpk I5 n5) st5 stop) fun r s6 ⟨er, I6⟩ => ?_
      subst er
      have I7 : Inv X pins σ Hc s6 := I3.call' (ch := fp) I6.os I6.base I6.hok I6.bare fun c hm => ⟨(f3 c hm).1.2.2.2.1, (f3 c hm).1.2.1, (f3 c hm).1.2.2.2.2.1, (f3 c hm).1.2.2.2.2.2⟩
      have nl : Hc s3.heap.objs.size = none := by rw [← el]; exact I6.free
      obtain ⟨m, hm, _⟩ := I6.loc
      have hm : s6.heap.Ns ce.locals m := hm
      rw [el] at hm
      obtain ⟨g0, g1, g2, g3, g4, g5⟩ := I3.fpOk (Nat.le_refl _) nl
      exact ⟨m, hm, fun h'' sb => ⟨.ref p, Hc, I7.turned (t' := s6.toks) (fun c o hb e => (sb.2 c hb).trans e) g0 g1 g3 g4 g5, rfl, fin⟩⟩
    · refine thnF (T.item (X.blk s3 Hb scope ce fp) rfl rfl rfl hc i [] s5 _ Hc (fun _ _ => False) I5 (fpk I5 n5) st5 go) fun r s6 ⟨u, er, a6⟩ => ?_
      subst er
      refine thnF a6 fun _ s7 ⟨x, Hd, I7, r7, y7, st7, n7⟩ => ?_
      refine thnF (pg.run _ s7 _ Hd x u _ (I7.pinned (fpk I7 n7) (T.obj _ _ st7)) r7 (step x Hd y7)) fun _ s8 ⟨τ, He, I8, ew, q8⟩ => ?_
      have still : ∀ {sz : Shared} {Hz : Hp}, Inv (X.blk s3 Hb scope ce fp) ([] ++ pinsAt fp s7.heap) τ Hz sz → Nx Hz → ∃ m, m < n ∧ ∃ i Hz, Inv (X.blk s3 Hb scope ce fp) [] (wipe σ (own.map (·.2))) Hz sz ∧ tn i sz.heap ∧ (∀ c ∈ fp, Hz c = none) ∧ Z i m Hz := fun {sz Hz} Iz nx => by
        obtain ⟨m', lt, z'⟩ := next Hz nx
        have pin : ∀ c ∈ fp, ∀ o, s7.heap.get? c = some o → sz.heap.get? c = some o ∧ Hz c = none := fun c hm o e => by
          have t := Iz.pin (c, o) (List.mem_append_right _ (List.mem_append_right _ (mem_pinsAt hm e)))
          exact ⟨t.1, t.2.1⟩
        refine ⟨m', lt, i + 1, Hz, (Iz.unpinned (pins := [])).weak (by rw [← ew, wipe_length]) (fun j v e => ?_), T.keep _ _ _ st7 fun c hm o e => (pin c hm o e).1, fun c hm => ?_, z'⟩
        · rw [← ew] at e; exact (wipe_some e).1
        · obtain ⟨o, e, _⟩ := T.obj _ _ st7 c hm
          exact (pin c hm o e).2
      show wpAny _ _ (pure true) _ _ _
      refine wpAny_pure ?_
      rw [if_pos rfl]
      refine thnF (pe.run _ s8 τ He _ I8 q8) fun u s9 ⟨v, Hf, I9, r9, k, l, evk, hp9, room, nx⟩ => ?_
      subst evk
      obtain ⟨tk, rfl⟩ := r9
      exact addT_ok (X := X.blk s3 Hb scope ce fp) I9 hp9 room fun s10 I10 => still I10 nx
  exact PpSet.codeAny_compStart_set loop (T.self X.A 0 _ _ _ st4 loop)
end
/-! ### sorted of it -/
theorem perm_in : ∀ {l ks : List Str}, l.Nodup → (∀ x ∈ l, x ∈ ks) → ks.length = l.length → ks.Perm l
  | [], ks, _, _, e => by
    have : ks = [] := List.eq_nil_of_length_eq_zero e
    subst this; exact .nil
  | x :: l, ks, nd, sub, e => by
    obtain ⟨hx, nd'⟩ := List.nodup_cons.mp nd
    have hm := sub x List.mem_cons_self
    refine (List.perm_cons_erase hm).trans (.cons x (perm_in nd' (fun y hy => ?_) ?_))
    · exact (List.mem_erase_of_ne (fun z => by subst z; exact hx hy)).mpr (sub y (List.mem_cons_of_mem _ hy))
    · rw [List.length_erase_of_mem hm, e]; rfl
def txtOf : Value → Str
  | .str k _ => k
  | _ => Str.empty
theorem txts_are : ∀ {us : List Value}, (∀ u ∈ us, ∃ k t, u = .str k t) → StrsAre us (us.map txtOf)
  | [], _ => .nil
  | u :: us, h => by
    obtain ⟨k, t, rfl⟩ := h u List.mem_cons_self
    exact .cons k t (txts_are fun v hv => h v (List.mem_cons_of_mem _ hv))
section
variable {X : Cx}
def rSortTx (P : Program) (w : World) : List V → Hp → VK → Prop := fun xs H Q => ∃ (a : Addr) (l : List Str), xs = [.ref a] ∧ H a = some (TxO P w a l) ∧ l.length < 64 ∧
  ∀ (ys : List Str) (p : Addr), ys.Nodup → (∀ x, x ∈ ys ↔ x ∈ l) → sortedS ys = true → H p = none → Q (.ref p) (upd H p (.lst (ys.map .str)))
theorem call_sortTx (hc : X.calm = true) : CallR X (.builtin "sorted") (rSortTx X.prog X.w) := by
  intro pins s σ H xs us Q I r q
  obtain ⟨a, l, rfl, ha, few, q⟩ := q
  rw [Vals.ref1 r]
  have R := txO_get I ha
  obtain ⟨⟨D, ho, F, rs, le⟩, nd⟩ := R
  obtain ⟨es, ep, tb⟩ := D
  have hsz : es.size = l.length := F.sz
  refine Calls.call_function_entry kind_sorted plain_sorted entry_sorted (args_sorted1 _) ?_
  unfold Builtin.«sorted»
  refine wpAny_bind (m := checkCount "sorted" 1 1 _) (wpAny_pure (wpAny_bind ?_))
  refine collect_set (I.ok.hd hc) ⟨_, ho, rfl, rfl⟩ F.fit (Nat.lt_trans (show es.size < 64 by omega) (by decide)) rs le fun s1 vs kp hz gn eo pm => ?_
  have hvl : vs.length = l.length := by rw [pm.length_eq, List.length_map, Array.length_toList]; exact hsz
  have shape : ∀ v ∈ vs, ∃ k t, v = Value.str k t := fun v hv => by
    obtain ⟨e, he, ev⟩ := List.mem_map.mp (pm.mem_iff.mp hv)
    obtain ⟨⟨k, hk, _⟩, _⟩ := F.el e he
    obtain ⟨t, et⟩ := Value.isStrOf_shape (x := k) (v := e.2) hk
    exact ⟨k, t, by rw [← ev]; exact et⟩
  have hS := txts_are shape
  have hks : (vs.map txtOf).Perm l := perm_in nd (fun k hk => by
    obtain ⟨e, he, hi⟩ := (F.mem k).mp hk
    obtain ⟨t, et⟩ := Value.isStrOf_shape (x := k) (v := e.2) hi
    exact List.mem_map.mpr ⟨e.2, pm.mem_iff.mpr (List.mem_map_of_mem he), by rw [et]; rfl⟩) (by rw [List.length_map, hvl])
  have e1 : s1 = { s with heap := s1.heap, gens := s1.gens, drawn := s1.drawn, toks := s1.toks } := by
    cases s1; cases s; cases eo; rfl
  refine wpAny_bind (wpAny_newList ?_ (by rw [hvl, sizeLine_eq]; omega))
  have at0 : (s1.heap.push (seqObj "list" vs.toArray 0)).get? s1.heap.objs.size = some (seqObj "list" vs.toArray 0) := Heap.get?_push_size _ rfl
  refine wpAny_bind (wpAny_holding (wpAny_call_entry slot_list_sort ⟨_, at0, rfl⟩ entry_list_sort (list_sort_treeK strKind_oneLt at0 hS.keysOf (fun v₁ v₂ rest e => keyKind_strs (by rw [← e]; exact hS)) (by rw [hvl]; exact few) fun st' hp hs => ⟨_, rfl, ?_⟩) (args_list_sort _)))
  obtain ⟨ys, g1, g2, g3⟩ := sorted_out_str hS hp hs
  obtain ⟨c, hc'⟩ := sortedHeap_at (vs := vs) (out := (arrOf st').map (·.2)) at0
  have lim : (ys.map V.str).length ≤ sizeLine := by
    rw [List.length_map, g2.length_eq, List.length_map, hvl, sizeLine_eq]; omega
  have old : ∀ b u, s.heap.get? b = some u → (sortedHeap (s1.heap.push (seqObj "list" vs.toArray 0)) s1.heap.objs.size vs ((arrOf st').map (·.2))).get? b = some u := fun b u e => by
    have z := kp b u e
    have lt := Heap.lt_size z
    rw [sortedHeap_old (Nat.ne_of_lt lt) (by rw [size_push']; exact Nat.lt_succ_of_lt lt)]
    exact Heap.get?_push_of_some _ z
  have pn : H s1.heap.objs.size = none := I.hok.fresh hz
  have J : Inv X pins σ (upd H s1.heap.objs.size (.lst (ys.map V.str))) { s with heap := sortedHeap (s1.heap.push (seqObj "list" vs.toArray 0)) s1.heap.objs.size vs ((arrOf st').map (·.2)), gens := s1.gens, drawn := s1.drawn, toks := s1.toks } :=
    I.call (ch := []) (Un.laid old hz pn) (I.hok.laid old hz ⟨lim, ((arrOf st').map (·.2)).toList, c, vals_of_strs g1, by rw [Array.toArray_toList]; exact hc'⟩) (by rw [gn]; exact I.bare) (fun _ z => nomatch z)
  rw [e1]
  exact wpAny_pure ⟨_, rfl, .ref s1.heap.objs.size, _, J, rfl, q ys _ ((g2.trans hks).nodup_iff.mpr nd) (fun x => (g2.trans hks).mem_iff) g3 pn⟩
end
/-! ### the set is no part of what is read -/
/-- no code object, no exception -/
def NoX (p : Addr) (o : HO) : Prop := (∀ q, o ≠ LamX.CodeO p q) ∧ (∀ C d, o ≠ exo p C d) ∧ ∀ L : LamI, L.f = p → o ≠ L.o
def heapAt (p : Addr) (o : Obj) : Heap := ⟨Array.replicate (p + 1) o, {}⟩
theorem heapAt_get {p : Addr} {o : Obj} {vs : Array Value} (h : o.data = .fields vs) : (heapAt p o).get? p = some o := by
  obtain ⟨a, b, c, d⟩ := o
  simp only at h
  subst h
  unfold heapAt Heap.get?
  simp
theorem heapAt_getF {p : Addr} {o : Obj} {fd : FuncData} (h : o.data = .func fd) : (heapAt p o).get? p = some o := by
  obtain ⟨a, b, c, d⟩ := o
  simp only at h
  subst h
  unfold heapAt Heap.get?
  simp
theorem txO_nox {P : Program} {w : World} {p : Addr} {l : List Str} : NoX p (TxO P w p l) := by
  refine ⟨fun q z => ?_, fun C d z => ?_, fun L hL z => ?_⟩
  case refine_3 =>
    have z1 : HO.ext (fun h => TxA P w h p l) = L.o := z
    unfold LamI.o at z1
    injection z1 with z2
    have g := heapAt_getF (p := p) (o := ⟨.type "function", none, .func (PySem.W.kla_fn "<lambda>" L.q L.ps L.body L.sc L.cl .none (.ref L.c') .none), #[]⟩) rfl
    have z3 := congrFun z2 (heapAt p ⟨.type "function", none, .func (PySem.W.kla_fn "<lambda>" L.q L.ps L.body L.sc L.cl .none (.ref L.c') .none), #[]⟩)
    have z4 : TxA P w (heapAt p ⟨.type "function", none, .func (PySem.W.kla_fn "<lambda>" L.q L.ps L.body L.sc L.cl .none (.ref L.c') .none), #[]⟩) p l := by rw [z3]; exact ⟨_, _, _, _, by rw [hL]; exact g⟩
    obtain ⟨D, e, _⟩ := z4.ex
    rw [g] at e
    have e2 := congrArg (fun x : Option Obj => x.map (·.cls)) e
    have e3 := Option.some.inj e2
    injection e3 with e4
    exact absurd e4 (by decide)
  case refine_2 =>
    have z1 : HO.ext (fun h => TxA P w h p l) = exo p C d := z
    unfold exo at z1
    injection z1 with z2
    have g := heapAt_get (p := p) (o := { cls := .ref C, dict := d, data := .fields #[.ref 0, .none, .none, .none, .bool false, .none] }) rfl
    have z3 := congrFun z2 (heapAt p { cls := .ref C, dict := d, data := .fields #[.ref 0, .none, .none, .none, .bool false, .none] })
    have z4 : TxA P w (heapAt p { cls := .ref C, dict := d, data := .fields #[.ref 0, .none, .none, .none, .bool false, .none] }) p l := by rw [z3]; exact ⟨_, g⟩
    obtain ⟨D, e, _⟩ := z4.ex
    rw [g] at e
    cases e
  have z1 : HO.ext (fun h => TxA P w h p l) = LamX.CodeO p q := z
  unfold LamX.CodeO at z1
  injection z1 with z2
  have g := heapAt_get (p := p) (o := { cls := .none, data := .fields #[.none, .str q 0] }) rfl
  have z3 := congrFun z2 (heapAt p { cls := .none, data := .fields #[.none, .str q 0] })
  have z4 : TxA P w (heapAt p { cls := .none, data := .fields #[.none, .str q 0] }) p l := by rw [z3]; exact ⟨_, _, _, g, rfl, rfl⟩
  obtain ⟨D, e, _⟩ := z4.ex
  rw [g] at e
  cases e

section
variable {K : PySem.W.Frag} {ix : List Addr} {H H' : Hp} {p : Addr} {f : Heap → Prop}
theorem no_rd {a : Addr} {u : HO} (hp : H p = some (.ext f)) (hx : NoX p (.ext f)) (k : ∀ b o, b ≠ p → H b = some o → H' b = some o) (hu : ∀ g, u ≠ .ext g) (h : Rd H a u) : Rd H' a u := by
  rcases h with h | ⟨o, h⟩
  · by_cases e : a = p
    · subst e; rw [hp] at h; cases h; exact absurd rfl (hu f)
    · exact .inl (k a _ e h)
  · by_cases e : a = p
    · subst e; rw [hp] at h; cases h
    · exact .inr ⟨o, k a _ e h⟩
mutual
theorem R.off (hp : H p = some (.ext f)) (hx : NoX p (.ext f)) (k : ∀ b o, b ≠ p → H b = some o → H' b = some o) : ∀ (d : D) (v : V), R K ix H d v → R K ix H' d v
  | .non, _, h => h
  | .bl _, _, h => h
  | .int _, _, h => h
  | .str _, _, h => h
  | .tup ds, _, ⟨a, xs, e1, h1, h2⟩ => ⟨a, xs, e1, h1.imp (no_rd hp hx k (fun _ z => nomatch z)) id, RL.off hp hx k ds xs h2⟩
  | .lst ds, _, ⟨a, xs, e1, h1, h2⟩ => ⟨a, xs, e1, k a _ (fun e => by subst e; rw [hp] at h1; cases h1) h1, RL.off hp hx k ds xs h2⟩
  | .fl ds, _, ⟨a, xs, e1, h1, h2⟩ => ⟨a, xs, e1, h1.imp (no_rd hp hx k (fun _ z => nomatch z)) id, RL.off hp hx k ds xs h2⟩
  | .cell j, _, h => h
  | .ins _ _ ds, _, ⟨a, dx, fs, e1, h1, h2, h3⟩ => ⟨a, dx, fs, e1, k a _ (fun e => by subst e; rw [hp] at h1; cases h1) h1, h2, RL.off hp hx k ds _ h3⟩
  | .dct _ ds, _, ⟨a, kvs, e1, h1, h2, h3⟩ => ⟨a, kvs, e1, no_rd hp hx k (fun _ z => nomatch z) h1, h2, RL.off hp hx k ds _ h3⟩
  | .dcT _ ds, _, ⟨a, kvs, e1, h1, h2, h3⟩ => ⟨a, kvs, e1, no_rd hp hx k (fun _ z => nomatch z) h1, h2, RL.off hp hx k ds _ h3⟩
  | .exc _ dd _ _ ds, _, ⟨fs, e1, h1, h5, h6⟩ => ⟨fs, e1, k dd _ (fun e => by subst e; rw [hp] at h1; cases h1) h1, h5, RL.off hp hx k ds _ h6⟩
  | .exm C _ ds, _, ⟨a, od, fs, e1, h1, h2, h5, h6⟩ => ⟨a, od, fs, e1, k a _ (fun e => by subst e; rw [hp] at h1; exact hx.2.1 C od (Option.some.inj h1)) h1, h2.map (fun b z => k b _ (fun e => by subst e; rw [hp] at z; cases z) z), h5, RL.off hp hx k ds _ h6⟩
  | .ttp ds, _, ⟨a, xs, e1, h1, h2⟩ => ⟨a, xs, e1, k a _ (fun e => by subst e; rw [hp] at h1; cases h1) h1, RL.off hp hx k ds xs h2⟩
  | .fn L ds vs, _, ⟨e1, h1, h2, h3⟩ => ⟨e1, k _ _ (fun e => by rw [e, hp] at h1; exact hx.2.2 L e (Option.some.inj h1)) h1, k _ _ (fun e => by rw [e, hp] at h2; exact hx.1 L.q (Option.some.inj h2)) h2, RL.off hp hx k ds vs h3⟩
  | .insA a _ _ ds, _, ⟨dx, fs, e1, h1, h2, h3⟩ => ⟨dx, fs, e1, k a _ (fun e => by subst e; rw [hp] at h1; cases h1) h1, h2, RL.off hp hx k ds _ h3⟩
  | .raw _, _, h => h
theorem RL.off (hp : H p = some (.ext f)) (hx : NoX p (.ext f)) (k : ∀ b o, b ≠ p → H b = some o → H' b = some o) : ∀ (ds : List D) (xs : List V), RL K ix H ds xs → RL K ix H' ds xs
  | [], _, h => h
  | d :: ds, _, ⟨x, r, e1, h1, h2⟩ => ⟨x, r, e1, R.off hp hx k d x h1, RL.off hp hx k ds r h2⟩
end
end
theorem TabK.off {m : Ad} {H : Hp} {p P : Addr} {f : Heap → Prop} {o : HO} (t : TabK m H P) (hp : H p = some (.ext f)) (hx : NoX p (.ext f)) (hP : P ≠ p) : TabK m (upd H p o) P := by
  obtain ⟨ps, h1, h2, h3⟩ := t
  refine ⟨ps, by rw [upd_ne hP]; exact h1, h2, fun pos cv hc => ?_⟩
  obtain ⟨c, e1, e2⟩ := h3 pos cv hc
  obtain ⟨h4, h5⟩ := hid_some e2
  refine ⟨c, e1, ?_⟩
  rw [hid_of h4, upd_ne]
  · exact h5
  · intro e
    subst e
    rw [hp] at h5
    exact hx.1 _ (Option.some.inj h5)
theorem CR.off {K : PySem.W.Frag} {H : Hp} {m : Ad} {c : List Cell} {p : Addr} {f : Heap → Prop} {o : HO} (C : CR K H m c) (hp : H p = some (.ext f)) (hx : NoX p (.ext f)) (hn : p ∉ m.ix ∧ p ∉ m.hd) : CR K (upd H p o) m c := by
  have hp' : hid m H p = some (.ext f) := by rw [hid_of hn]; exact hp
  have k : ∀ b u, b ≠ p → hid m H b = some u → hid m (upd H p o) b = some u := fun b u ne e => by
    obtain ⟨h1, h2⟩ := hid_some e
    rw [hid_of h1, upd_ne ne]; exact h2
  refine ⟨C.len, C.nd, fun j ce e => ?_, fun b hb => ?_, C.dj, fun q hq => ⟨(C.tk q hq).1, (C.tk q hq).2.off hp hx (fun z => hn.2 (z ▸ (C.tk q hq).1))⟩⟩
  · obtain ⟨a, h1, h2⟩ := C.at_ j ce e
    have ne : a ≠ p := fun z => hn.1 (z ▸ List.mem_of_getElem? h1)
    refine ⟨a, h1, ?_⟩
    cases ce with
    | lst ds => obtain ⟨xs, h3, h4⟩ := h2; exact ⟨xs, by rw [upd_ne ne]; exact h3, RL.off hp' hx k ds xs h4⟩
    | obj C' ns ds => obtain ⟨dx, fs, h3, h4, h5⟩ := h2; exact ⟨dx, fs, by rw [upd_ne ne]; exact h3, h4, RL.off hp' hx k ds _ h5⟩
    | dct ks ds => obtain ⟨kvs, h3, h4, h5⟩ := h2; exact ⟨kvs, by rw [upd_ne ne]; exact h3, h4, RL.off hp' hx k ds _ h5⟩
    | dcT ks ds => obtain ⟨kvs, h3, h4, h5⟩ := h2; exact ⟨kvs, by rw [upd_ne ne]; exact h3, h4, RL.off hp' hx k ds _ h5⟩
  · have ne : b ≠ p := fun z => hn.2 (z ▸ hb)
    rw [upd_ne ne]; exact C.hs b hb
theorem Le.over {H0 H : Hp} {m : Ad} {p : Addr} {f : Heap → Prop} {o : HO} (l : Le m H0 m H) (h0 : H0 p = none) (hn : p ∉ m.hd) (hp : H p = some (.ext f)) (hx : NoX p (.ext f)) : Le m H0 m (upd H p o) := by
  refine ⟨fun _ _ e => e, fun b u e => ?_, rfl, fun b hb => ?_, fun _ h => .inl h, fun a h => l.al a (upd_none h)⟩
  · obtain ⟨h1, h2⟩ := hid_some e
    have ne : b ≠ p := fun z => by rw [z, h0] at h2; cases h2
    have := l.ex b u e
    rw [hid_of h1] at this ⊢
    rw [upd_ne ne]; exact this
  · have ne : b ≠ p := fun z => hn (z ▸ hb)
    rcases l.hk b hb with z | ⟨⟨ps, ps', y1, y2⟩, y3⟩
    · exact .inl (by rw [upd_ne ne]; exact z)
    · exact .inr ⟨⟨ps, ps', y1, by rw [upd_ne ne]; exact y2⟩, fun t => (y3 t).off hp hx ne⟩
theorem mem1_mem {k x : Str} {l : List Str} : x ∈ mem1 k l ↔ x = k ∨ x ∈ l := by
  unfold mem1
  split
  · rename_i h
    exact ⟨.inr, fun z => z.elim (fun e => e ▸ h) id⟩
  · exact List.mem_cons
theorem mem1_len {k : Str} {l : List Str} : (mem1 k l).length ≤ l.length + 1 := by
  unfold mem1
  split
  · omega
  · exact Nat.le_refl _
section
variable {X : Cx} {iter elt : Expr} {te : TD} {pos pp tp sp : Pos} {ti : TDs} {scope : Scope} {x : Str} {i : Nat}
theorem pd_sortSet (hm : X.mg "sorted" = none) (hc : X.calm = true) (hN : X.N.Nodup) (hi : PID X (.Name x tp) iter ti) (ok : blkC X.N X.env.scope scope [(x, i)] = true)
    (hg : ∀ (s : Shared) (H : Hp) (C : Addr) (cl : List (Str × Addr)) (fp : List Addr), PG (X.blk s H scope (compEnvC scope cl C X.env) fp) (.Name x tp) (gName i))
    (he : ∀ (s : Shared) (H : Hp) (C : Addr) (cl : List (Str × Addr)) (fp : List Addr), PD (X.blk s H scope (compEnvC scope cl C X.env) fp) elt te) (hgl : Gl X "sorted" := by rfl) (hs : ∀ x, foldedSetIterable iter X.env x = pure x := by intro _; rfl)
    (he1 : starEach [.SetComp elt [⟨.Name x tp, iter, [], 0⟩] scope sp] X.env = (false, eval (.SetComp elt [⟨.Name x tp, iter, [], 0⟩] scope sp) X.env) :: starEach [] X.env := by rfl) (hpl : (backTo pos (starEach [] X.env)).any (·.1) = false := by rfl) :
    PD X (.Call (.Name "sorted" pp) [.SetComp elt [⟨.Name x tp, iter, [], 0⟩] scope sp] [] pos) (dSortSet ti i te) := by
  refine PE.imp (pe_callB (call_sortTx hc) hgl hm boot_sorted (pa_cons (tx_walk (te := lift X.K te) (own := [(x, i)]) hc hN hi (blkOk_by ok) hg (fun s H C cl fp => he s H C cl fp) hs) pa_nil he1) (by decide) (by decide) he1 hpl) fun σ H Q ⟨m, ρ, c, Φ, S, h, q⟩ => ?_
  refine ⟨m, ρ, c, _, S, h, fun ds c1 J Ha m1 ⟨ys, ln, few, hte, hz⟩ C1 wk L1 p hp => ?_⟩
  have pn := hid_new hp C1
  have S1 := S.step L1 C1
  have hl : m1.ix.length = c1.length := C1.len
  refine ⟨fun j mm Hj => mm = ds.length - j ∧ j ≤ ds.length ∧ CR X.K Hj m1 c1 ∧ Le m1 Ha m1 Hj ∧ ∃ l, Hj p = some (TxO X.prog X.w p l) ∧ (∀ z, z ∈ l ↔ z ∈ ys.take j) ∧ l.length ≤ j,
    ⟨ds.length, rfl, Nat.zero_le _, C1.new hp, Le.new hp C1, [], upd_same, by simp, Nat.le_refl _⟩, ?_⟩
  rintro j mm Hj ⟨rfl, hj, Cj, Lj, l, hpj, hmem, hlen⟩
  by_cases lt : j < ds.length
  · refine .inr ⟨wk.go j m1 Hj c1 Lj Cj lt, fun H' => CR X.K H' m1 c1 ∧ Le m1 Ha m1 H' ∧ ∃ l, H' p = some (TxO X.prog X.w p l) ∧ (∀ z, z ∈ l ↔ z ∈ ys.take (j + 1)) ∧ l.length ≤ j + 1, fun H' ⟨a, b, e⟩ => ⟨ds.length - (j + 1), by omega, rfl, lt, a, b, e⟩, fun v H2 y => ?_⟩
    obtain ⟨d, hd, C2, L2, rv⟩ := wk.yld j m1 Hj c1 v H2 Lj Cj lt y
    have hp2 : H2 p = some (TxO X.prog X.w p l) := (hid_some (L2.ex p _ (by rw [hid_of pn]; exact hpj))).2
    have hy : ys[j]? = some ys[j] := List.getElem?_eq_getElem (by omega)
    generalize ys[j] = k at hy
    have Lz := Lj.trans L2
    refine ⟨by rw [show ([(x, i)] : List (Str × Nat)).map (·.2) = [i] from rfl, wipe1, wipe1, List.set_set, List.set_set], m1, _, c1, fun d' c' => d' = .str k ∧ c' = c1, (S1.step Lz C2).blk rv, hte j d k hd hy _ ⟨rfl, rfl⟩, fun d' c' u H3 m3 ⟨ed, ec⟩ C3 R3 L3 => ?_⟩
    subst ed ec
    cases (show u = V.str k from R3)
    have em := CR.same hl.symm C3 L3
    subst em
    have hp3 : H3 p = some (TxO X.prog X.w p l) := (hid_some (L3.ex p _ (by rw [hid_of pn]; exact hp2))).2
    refine ⟨k, l, rfl, hp3, Nat.lt_trans (show l.length + 1 < 65 by omega) (by decide), C3.off hp3 txO_nox pn, (Lz.trans L3).over hp pn.2 hp3 txO_nox, mem1 k l, upd_same, fun z => ?_, ?_⟩
    · rw [mem1_mem, hmem z, List.take_add_one, hy, List.mem_append]
      simp only [Option.toList_some, List.mem_singleton]
      exact Or.comm
    · exact Nat.le_trans mem1_len (by omega)
  · have ej : j = ds.length := by omega
    subst ej
    refine .inl ⟨wk.stop _ m1 Hj c1 Lj Cj (Nat.le_refl _), p, l, rfl, hpj, by omega, fun zs a nd mz so ha => ?_⟩
    rw [List.take_of_length_le (by omega)] at hmem
    exact q _ c1 _ _ m1 (hz zs nd so fun z => (mz z).trans (hmem z)) (Cj.new ha) (RR.newL Cj ha (rl_txts zs)) ((L1.trans Lj).trans (Le.new ha Cj))
end
end Cw

namespace Cw
open PySem PySem.Spec PyProof.Rows L2 PySem.Froz

/-! ### set(x) -/
abbrev newS (w : World) : Obj := { cls := .type "set", dict := none, data := .set #[] 0 (.fresh 0 0 (!w.params.followText "set-order")) }
/-- what stands is not touched by what moves elsewhere -/
structure Kept (h0 : Heap) (a : Addr) (G : Nat → Heap → Prop) : Prop where
  run : ∀ i h h', G i h → (∀ o, h.get? a = some o → h'.get? a = some o) → (∀ b o, h0.get? b = some o → h'.get? b = some o) → G i h'
/-- the item's adding leads on -/
structure Adds (P : Program) (w : World) (h0 : Heap) (a : Addr) (items : Array Value) (G : Nat → Heap → Prop) : Prop where
  run : ∀ i v (A : Around) (E : Value → Shared → Prop) (s : Shared) (Q : Bool → Shared → Prop), items[i]? = some v → A.units < cLine → G i s.heap → (∀ b o, h0.get? b = some o → s.heap.get? b = some o) →
    (∀ b h' tk, Heap.SameBut a s.heap h' → s.toks ≤ tk → G (i + 1) h' → Q b { s with heap := h', toks := tk }) → wpAny (model P w) A (setAdd a v) Q E s
/-- the ends of it -/
structure SetEnds (w : World) (s : Shared) (n : Nat) (G : Nat → Heap → Prop) (Q : Value → Shared → Prop) : Prop where
  g0 : ∀ h', h'.get? s.heap.objs.size = some (newS w) → G 0 h'
  q : ∀ h' tk, G n h' → (∀ b o, s.heap.get? b = some o → h'.get? b = some o) → Q (.ref s.heap.objs.size) { s with heap := h', toks := tk }
section
variable {P : Program} {w : World} {A : Around} {E : Value → Shared → Prop} {s : Shared}
theorem none_at {h : Heap} {b : Addr} (hb : h.objs.size ≤ b) : h.get? b = none := by
  cases e : h.get? b with
  | none => rfl
  | some o => exact absurd (Heap.lt_size e) (Nat.not_lt.mpr hb)
theorem loopG {I : Addr} {fp wr : List Addr} {Gn : Array GenState → Array GenState → Prop} {n : Nat} {St : Nat → Shared → Prop} {R : Result → Shared → Prop} {items : Array Value}
    (W : WalksS P w A.in1 I fp wr Gn n (fun i v => items[i]? = some v) St) (a : Addr) (ha : a ∉ fp) (h0 : Heap) (G : Nat → Heap → Prop) (gk : Kept h0 a G) (ga : Adds P w h0 a items G) (hn : n = items.size) (hu : A.in1.units < cLine)
    (hz : h0.get? a = none) (hw : ∀ b ∈ wr, ¬ b < h0.objs.size) : ∀ (k i : Nat) (s : Shared), n - i = k → i ≤ n → St i s → G i s.heap → (∀ b o, h0.get? b = some o → s.heap.get? b = some o) →
      (∀ s', Moved (a :: wr) Gn s s' → G n s'.heap → (∀ b o, h0.get? b = some o → s'.heap.get? b = some o) → R (.ok (.ret .none)) s') → codeAny (model P w) A (.builtin "set.update.loop" ⟨[.ref a, .ref I], []⟩) R s := by
  have aw : a ∉ wr := fun z => ha (W.sub _ z)
  have more : ∀ b ∈ wr, b ∈ a :: wr := fun b z => List.mem_cons_of_mem _ z
  have still : ∀ {s s' : Shared}, Moved wr Gn s s' → (∀ b o, h0.get? b = some o → s.heap.get? b = some o) → ∀ b o, h0.get? b = some o → s'.heap.get? b = some o := fun mv kp b o e => mv.heap b o (fun z => hw b z (Heap.lt_size e)) (kp b o e)
  intro k
  induction k with
  | zero =>
    intro i s ek hi st g kp q
    obtain rfl : i = n := by omega
    refine codeAny_builtin F.entry_set_update_loop ?_
    rw [Around.under_plainId F.plain_set_update_loop _]
    show wpAny _ A.in1 (pyNext (.ref I) >>= _) _ _ s
    refine wpAny_bind (W.done s _ _ st fun s' mv => ?_)
    show wpAny _ A.in1 (ret Value.none) _ _ s'
    exact wpAny_pure (q s' (mv.mono more) (gk.run _ _ _ g (fun o e => mv.heap a o aw e) (still mv kp)) (still mv kp))
  | succ k ih =>
    intro i s ek hi st g kp q
    have lt : i < n := by omega
    refine codeAny_builtin F.entry_set_update_loop ?_
    rw [Around.under_plainId F.plain_set_update_loop _]
    show wpAny _ A.in1 (pyNext (.ref I) >>= _) _ _ s
    refine wpAny_bind (W.item i s _ _ lt st fun v s1 hv st1 mv => ?_)
    have kp1 := still mv kp
    show wpAny _ A.in1 (holding [v] (setAdd a v) >>= _) _ _ s1
    refine wpAny_bind (wpAny_holding (ga.run i v A.in1 _ s1 _ hv hu (gk.run _ _ _ g (fun o e => mv.heap a o aw e) kp1) kp1 fun b h' tk same le g' => ?_))
    have kp2 : ∀ b o, h0.get? b = some o → h'.get? b = some o := fun b o e => by
      by_cases z : b = a
      · subst z
        rw [hz] at e; cases e
      · rw [same.2 b z]; exact kp1 b o e
    refine wpAny_pure ⟨plainId_quiet F.plain_set_update_loop _, ih (i + 1) _ (by omega) lt (W.frame _ s1 _ _ st1 le fun b hb o e => ?_) g' kp2 fun s2 mv2 g2 kp3 => ?_⟩
    · rw [same.2 b (fun z => ha (z ▸ hb))]; exact e
    · exact q s2 (Moved.trans W.gtrans ((mv.mono more).then_heap le fun b o hb e => by rw [same.2 b (fun z => hb (z ▸ List.mem_cons_self))]; exact e) mv2) g2 kp3

/-- set(x), x a list: G says what stands behind the first i items -/
theorem set_list {l : Addr} {items : Array Value} (G : Nat → Heap → Prop) {Q : Value → Shared → Prop} (hh : A.handled = none) (hx : s.heap.IsList l items) (hu : A.in1.in1.in1.units < cLine)
    (gk : Kept s.heap s.heap.objs.size G) (ga : Adds P w s.heap s.heap.objs.size items G) (en : SetEnds w s items.size G Q) : wpAny (model P w) A (call (.type "set") [.ref l]) Q E s := by
  have ⟨_, _, mro⟩ := F.called_set.mro
  have mk := F.called_set.made
  have sb := F.called_set.sub
  have nt := F.called_set.notType
  have cc := F.called_set.canCreate
  have tc := F.typeCall_set_1 (.ref l)
  have lk := F.called_set.init.lookup
  have bd := F.called_set.init.bind (.ref s.heap.objs.size)
  refine wpAny_call (codeAny_of_tree (show wpAny _ _ (callAny (.type "set") _) _ _ _ from wpAny_pure ⟨Code.quiet_builtin _ (by decide +kernel), codeAny_builtin F.entry_type_call ?_⟩))
  rw [Around.under_plain (weight_type_call_type "set" [.ref l] []) rfl]
  repeat any_goals first | assumption | wp_step

  refine codeAny_mono (code_set_led1 (.ref l) (E := E) (Q₁ := fun u sz => u = .ref s.heap.objs.size ∧ sz = { s with heap := s.heap.push (newS w) }) ⟨rfl, rfl⟩) fun r sz hr => ?_
  rcases r with er | fl
  · exact hr
  cases fl with
  | next => exact False.elim hr
  | brk => exact False.elim hr
  | cont => exact False.elim hr
  | ret u =>
  obtain ⟨eu, es⟩ := hr
  subst eu es
  have at0 : (s.heap.push (newS w)).get? s.heap.objs.size = some (newS w) := Heap.get?_push_size _ rfl
  have ty0 : Shared.TypeIs { s with heap := s.heap.push (newS w) } (.ref s.heap.objs.size) "set" := ⟨_, at0, rfl⟩
  repeat any_goals first | assumption | wp_step

  refine codeAny_mono (codeAny_call_builtin (R := wants (fun u sz => u = .none ∧ ∃ h' tk, sz = { s with heap := h', toks := tk } ∧ G items.size h' ∧ ∀ b o, s.heap.get? b = some o → h'.get? b = some o) E) F.called_set.init.plain F.entry_set_init (check_set_init_1 ty0 ?_)) fun r2 sz2 hr2 => ?_
  · obtain ⟨⟨_, dl, _, sl⟩, hol, cl, nl, da⟩ := hx
    dsimp only at cl da
    subst cl da
    have ltl : l < s.heap.objs.size := Heap.lt_size hol
    have hol1 := Heap.get?_push_of_some (newS w) hol
    have sub1 := F.sub_list_set
    have sub2 := F.sub_list_frozenset
    have nod : (Value.type "list" == Value.type "dict") = false := by decide
    have hx1 : (s.heap.push (newS w)).IsList l items := ⟨_, hol1, rfl, nl, rfl⟩
    unfold Builtin.«set.__init__» noKeywords Builtin.Frozenset.updateFrom
    generalize hit : pyIter = it
    wp_walk
    subst hit

    refine wpAny_pyIter_list hx1 (wpAny_bind (wpAny_runValue ?_))
    have sz1 : (s.heap.push (newS w)).objs.size = s.heap.objs.size + 1 := Heap.size_push ..
    have ni : l ≠ (s.heap.push (newS w)).objs.size := by rw [sz1]; exact Nat.ne_of_lt (Nat.lt_succ_of_lt ltl)
    have hh3 : A.in1.in1.in1.handled = none := by simp [hh]
    have old : ∀ b o, s.heap.get? b = some o → b < s.heap.objs.size := fun _ _ => Heap.lt_size
    refine loopG ((Walks.list hh3 _ l ni items).toS) s.heap.objs.size (by rw [sz1]; simp only [List.mem_cons, List.not_mem_nil, or_false, not_or]; exact ⟨Nat.ne_of_lt (Nat.lt_succ_self _), Nat.ne_of_gt ltl⟩) s.heap G gk ga rfl hu (none_at (Nat.le_refl _)) (fun b hb z => ?_) items.size 0 _ rfl (Nat.zero_le _) ⟨⟨_, Heap.get?_push_size _ rfl, rfl, rfl⟩, hx1.push _⟩ (en.g0 _ (Heap.get?_push_of_some _ at0)) (fun b o e => Heap.get?_push_of_some _ (Heap.get?_push_of_some _ e)) fun s' mv g' kp => ?_
    · rw [List.mem_singleton.mp hb, sz1] at z; exact absurd z (Nat.not_lt.mpr (Nat.le_succ _))
    · obtain ⟨h', gn, dr, tk, os⟩ := s'
      cases mv.gens
      cases mv.drawn
      cases mv.os
      show wpAny _ _ (pure _) _ _ _
      refine wpAny_pure ?_
      show wpAny _ _ (ret Value.none) _ _ _
      exact wpAny_pure ⟨rfl, h', tk, rfl, g', kp⟩
  · rcases r2 with er | fl
    · exact hr2
    cases fl with
    | next => exact False.elim hr2
    | brk => exact False.elim hr2
    | cont => exact False.elim hr2
    | ret u =>
      obtain ⟨eu, h', tk, es, g', kp⟩ := hr2
      subst eu es
      repeat any_goals first | assumption | wp_step
      exact en.q _ _ g' kp

/-- set(x), x a tuple: G says what stands behind the first i items -/
theorem set_tuple {l : Addr} {items : Array Value} (G : Nat → Heap → Prop) {Q : Value → Shared → Prop} (hh : A.handled = none) (hx : s.heap.IsTuple l items) (hu : A.in1.in1.in1.units < cLine)
    (gk : Kept s.heap s.heap.objs.size G) (ga : Adds P w s.heap s.heap.objs.size items G) (en : SetEnds w s items.size G Q) : wpAny (model P w) A (call (.type "set") [.ref l]) Q E s := by
  have ⟨_, _, mro⟩ := F.called_set.mro
  have mk := F.called_set.made
  have sb := F.called_set.sub
  have nt := F.called_set.notType
  have cc := F.called_set.canCreate
  have tc := F.typeCall_set_1 (.ref l)
  have lk := F.called_set.init.lookup
  have bd := F.called_set.init.bind (.ref s.heap.objs.size)
  refine wpAny_call (codeAny_of_tree (show wpAny _ _ (callAny (.type "set") _) _ _ _ from wpAny_pure ⟨Code.quiet_builtin _ (by decide +kernel), codeAny_builtin F.entry_type_call ?_⟩))
  rw [Around.under_plain (weight_type_call_type "set" [.ref l] []) rfl]
  repeat any_goals first | assumption | wp_step

  refine codeAny_mono (code_set_led1 (.ref l) (E := E) (Q₁ := fun u sz => u = .ref s.heap.objs.size ∧ sz = { s with heap := s.heap.push (newS w) }) ⟨rfl, rfl⟩) fun r sz hr => ?_
  rcases r with er | fl
  · exact hr
  cases fl with
  | next => exact False.elim hr
  | brk => exact False.elim hr
  | cont => exact False.elim hr
  | ret u =>
  obtain ⟨eu, es⟩ := hr
  subst eu es
  have at0 : (s.heap.push (newS w)).get? s.heap.objs.size = some (newS w) := Heap.get?_push_size _ rfl
  have ty0 : Shared.TypeIs { s with heap := s.heap.push (newS w) } (.ref s.heap.objs.size) "set" := ⟨_, at0, rfl⟩
  repeat any_goals first | assumption | wp_step

  refine codeAny_mono (codeAny_call_builtin (R := wants (fun u sz => u = .none ∧ ∃ h' tk, sz = { s with heap := h', toks := tk } ∧ G items.size h' ∧ ∀ b o, s.heap.get? b = some o → h'.get? b = some o) E) F.called_set.init.plain F.entry_set_init (check_set_init_1 ty0 ?_)) fun r2 sz2 hr2 => ?_
  · obtain ⟨⟨_, dl, _, sl⟩, hol, cl, nl, da⟩ := hx
    dsimp only at cl da
    subst cl da
    have ltl : l < s.heap.objs.size := Heap.lt_size hol
    have hol1 := Heap.get?_push_of_some (newS w) hol
    have sub1 := F.sub_tuple_set
    have sub2 := F.sub_tuple_frozenset
    have nod : (Value.type "tuple" == Value.type "dict") = false := by decide
    have hx1 : (s.heap.push (newS w)).IsTuple l items := ⟨_, hol1, rfl, nl, rfl⟩
    unfold Builtin.«set.__init__» noKeywords Builtin.Frozenset.updateFrom
    generalize hit : pyIter = it
    wp_walk
    subst hit

    refine wpAny_pyIter_tuple hx1 (wpAny_bind (wpAny_runValue ?_))
    have sz1 : (s.heap.push (newS w)).objs.size = s.heap.objs.size + 1 := Heap.size_push ..
    have ni : l ≠ (s.heap.push (newS w)).objs.size := by rw [sz1]; exact Nat.ne_of_lt (Nat.lt_succ_of_lt ltl)
    have hh3 : A.in1.in1.in1.handled = none := by simp [hh]
    have old : ∀ b o, s.heap.get? b = some o → b < s.heap.objs.size := fun _ _ => Heap.lt_size
    refine loopG ((Walks.tuple hh3 _ l ni items).toS) s.heap.objs.size (by rw [sz1]; simp only [List.mem_cons, List.not_mem_nil, or_false, not_or]; exact ⟨Nat.ne_of_lt (Nat.lt_succ_self _), Nat.ne_of_gt ltl⟩) s.heap G gk ga rfl hu (none_at (Nat.le_refl _)) (fun b hb z => ?_) items.size 0 _ rfl (Nat.zero_le _) ⟨⟨_, Heap.get?_push_size _ rfl, rfl, rfl⟩, hx1.push _⟩ (en.g0 _ (Heap.get?_push_of_some _ at0)) (fun b o e => Heap.get?_push_of_some _ (Heap.get?_push_of_some _ e)) fun s' mv g' kp => ?_
    · rw [List.mem_singleton.mp hb, sz1] at z; exact absurd z (Nat.not_lt.mpr (Nat.le_succ _))
    · obtain ⟨h', gn, dr, tk, os⟩ := s'
      cases mv.gens
      cases mv.drawn
      cases mv.os
      show wpAny _ _ (pure _) _ _ _
      refine wpAny_pure ?_
      show wpAny _ _ (ret Value.none) _ _ _
      exact wpAny_pure ⟨rfl, h', tk, rfl, g', kp⟩
  · rcases r2 with er | fl
    · exact hr2
    cases fl with
    | next => exact False.elim hr2
    | brk => exact False.elim hr2
    | cont => exact False.elim hr2
    | ret u =>
      obtain ⟨eu, h', tk, es, g', kp⟩ := hr2
      subst eu es
      repeat any_goals first | assumption | wp_step
      exact en.q _ _ g' kp

end
end Cw

namespace Cw
open PySem PySem.Spec PyProof.Rows L2 PySem.Froz

/-! ### a set of tuples of ints and texts, no two alike -/
abbrev kh (P : Program) (w : World) (k : List Key) : Int := tupleKeyHash (mixKind P w) k
abbrev Ky (P : Program) (w : World) (h : Heap) (k : List Key) (b : Addr) : Prop := IsTupleKey (mixKind P w) h k b
section
variable {P : Program} {w : World} {A : Around} {E : Value → Shared → Prop} {s : Shared}
theorem cls_flat (n : Nat) {v : Value} (h : carriedByValue v = true) : ofAClassStatement n v = pure false := by
  cases v <;> first | (cases h; done) | (cases n <;> rfl)
theorem hash_flat (n : Nat) {v : Value} {k : Key} (h : keyIs k v = true) : ∃ b, hashByValue n v = pure b := by
  rcases keyIs_shape h with ⟨_, _, _, ev⟩ | ⟨_, _, _, ev⟩ <;> subst ev <;> exact ⟨_, by cases n <;> rfl⟩
theorem items_keys {k : List Key} {vs : List Value} (h : ItemsAre (mixKind P w) k vs) : ∀ v ∈ vs, ∃ x : Key, keyIs x v = true := by
  induction h with
  | nil => intro v hv; cases hv
  | @cons x u _ _ hx _ ih =>
    intro v hv
    rcases List.mem_cons.mp hv with rfl | z
    · exact ⟨x, hx⟩
    · exact ih v z
theorem Ky.noCls {k : List Key} {b : Addr} {Q : Bool → Shared → Prop} (hk : Ky P w s.heap k b) (q : Q false s) : wpAny (model P w) A (ofAClassStatement 8 (.ref b)) Q E s := by
  have ty := hk.typeIs
  obtain ⟨o, xs, n, ho, _, hd, hi⟩ := hk
  have flat := hi.byValue
  unfold ofAClassStatement
  refine wpAny_bind (wpAny_typeOf ty ?_)
  dsimp only
  simp only [show (("tuple" : String) == "tuple") = true from rfl, if_true, Bool.not_true, Bool.false_eq_true, if_false]
  try refine wpAny_bind (wpAny_pure ?_)
  try simp only [Bool.not_true, Bool.false_eq_true, if_false]
  show wpAny _ _ (seqItems? (.ref b) >>= _) _ _ s
  refine wpAny_bind (wpAny_seqItems ho hd (wpAny_bind ?_))
  show wpAny _ _ (forIn xs _ _) _ _ s
  rw [← Array.forIn_toList]
  refine wpAny_forIn_list _ (fun more b sz => b.1 = none ∧ sz = s ∧ ∀ v ∈ more, carriedByValue v = true) _ (fun v more b sz ⟨e1, e2, e3⟩ => ?_) (fun b sz ⟨e1, e2, _⟩ => ?_) _ _ ⟨rfl, rfl, flat⟩
  · subst e2
    rw [cls_flat _ (e3 v List.mem_cons_self)]
    refine wpAny_bind (wpAny_pure ?_)
    simp only [Bool.false_eq_true, if_false]
    exact wpAny_pure ⟨rfl, rfl, fun u hu => e3 u (List.mem_cons_of_mem _ hu)⟩
  · obtain ⟨b1, b2⟩ := b
    cases (show b1 = none from e1)
    subst e2
    exact wpAny_pure q
theorem Ky.hashBy {k : List Key} {b : Addr} {Q : Bool → Shared → Prop} (hk : Ky P w s.heap k b) (q : ∀ y, Q y s) : wpAny (model P w) A (hashByValue 8 (.ref b)) Q E s := by
  have ty := hk.typeIs
  obtain ⟨o, xs, n, ho, _, hd, hi⟩ := hk
  have flat := items_keys hi
  unfold hashByValue
  refine wpAny_bind (wpAny_specialOf ty F.slot_tuple_hash.lookup ?_)
  show wpAny _ _ (seqItems? (.ref b) >>= _) _ _ s
  refine wpAny_bind (wpAny_seqItems ho hd (wpAny_bind ?_))
  show wpAny _ _ (forIn xs _ _) _ _ s
  rw [← Array.forIn_toList]
  refine wpAny_forIn_list _ (fun more b sz => b.1 = none ∧ sz = s ∧ ∀ v ∈ more, ∃ x : Key, keyIs x v = true) _ (fun v more b sz ⟨e1, e2, e3⟩ => ?_) (fun b sz ⟨e1, e2, _⟩ => ?_) _ _ ⟨rfl, rfl, flat⟩
  · subst e2
    obtain ⟨x, hx⟩ := e3 v List.mem_cons_self
    obtain ⟨y, ey⟩ := hash_flat 7 hx
    rw [ey]
    refine wpAny_bind (wpAny_pure ?_)
    cases y with
    | true =>
      simp only [Bool.not_true, Bool.false_eq_true, if_false]
      exact wpAny_pure ⟨rfl, rfl, fun u hu => e3 u (List.mem_cons_of_mem _ hu)⟩
    | false =>
      simp only [Bool.not_false, if_true]
      exact wpAny_pure (wpAny_pure (q false))
  · obtain ⟨b1, b2⟩ := b
    cases (show b1 = none from e1)
    subst e2
    exact wpAny_pure (q true)
theorem Ky.unseen {k : List Key} {b : Addr} {Q : Bool → Shared → Prop} (hk : Ky P w s.heap k b) {ys : List Value} (hy : ∀ y ∈ ys, ∃ l c, y = Value.ref c ∧ Ky P w s.heap l c) (q : Q false s) :
    wpAny (model P w) A (searchCouldBeSeen (.ref b) ys) Q E s := by
  unfold searchCouldBeSeen
  refine wpAny_bind (wpAny_forIn_list _ (fun more b sz => b.1 = none ∧ sz = s ∧ ∀ y ∈ more, ∃ l c, y = Value.ref c ∧ Ky P w s.heap l c) _ (fun v more r sz ⟨e1, e2, e3⟩ => ?_) (fun b sz ⟨e1, e2, _⟩ => ?_) _ _ ⟨rfl, rfl, hy⟩)
  · subst e2
    obtain ⟨l, c, ev, hc⟩ := e3 v List.mem_cons_self
    subst ev
    have e4 := fun u hu => e3 u (List.mem_cons_of_mem _ hu)
    dsimp only
    by_cases same : (b == c || (carriedByValue (.ref b) && carriedByValue (.ref c))) = true
    · exact wp_if_pos same (wpAny_pure ⟨rfl, rfl, e4⟩)
    · refine wp_if_neg same (wpAny_bind (wpAny_eqIsQuiet_tuple hk ?_))
      simp only [Bool.not_true, Bool.false_eq_true, if_false]
      refine wpAny_bind (wpAny_eqIsQuiet_tuple hc ?_)
      simp only [Bool.not_true, Bool.false_eq_true, if_false]
      refine wpAny_bind (hk.noCls ?_)
      simp only [Bool.false_eq_true, if_false]
      refine wpAny_bind (Ky.noCls hc ?_)
      simp only [Bool.false_eq_true, if_false]
      exact wpAny_pure ⟨rfl, rfl, e4⟩
  · obtain ⟨b1, b2⟩ := b
    cases (show b1 = none from e1)
    subst e2
    exact wpAny_pure q
end
/-- the entries of the members L -/
def mrows (P : Program) (w : World) (L : List (Addr × List Key)) : List (Int × Value) := L.map fun m => (kh P w m.2, Value.ref m.1)
def mhs (P : Program) (w : World) (L : List (Addr × List Key)) : List Int := L.map fun m => kh P w m.2
structure MxS (P : Program) (w : World) (h : Heap) (a : Addr) (L : List (Addr × List Key)) (es : Array (Int × Value)) (ep : Nat) (t : SetTable) : Prop where
  ob : ∃ o, h.get? a = some o ∧ o.ExactSet ∧ o.data = .set es ep t
  en : es.toList = mrows P w L
  tab : TabOk t (mhs P w L)
  nd : (L.map (·.2)).Nodup
  ks : ∀ m ∈ L, Ky P w h m.2 m.1
  led : w.params.followText "set-order" = true ∨ t.led = true
  wide : L.length * 5 < t.mask * 3
  few : L.length < 64
section
variable {P : Program} {w : World} {A : Around} {E : Value → Shared → Prop} {s : Shared} {a : Addr} {L : List (Addr × List Key)} {es : Array (Int × Value)} {ep : Nat} {t : SetTable}
theorem mrows_len (h : es.toList = mrows P w L) : es.size = L.length := by
  rw [← Array.length_toList, h]; exact List.length_map ..
theorem mhs_len : (mhs P w L).length = L.length := List.length_map ..
theorem MxS.fits (R : MxS P w s.heap a L es ep t) : t.fits es.size = true := by
  have h1 := R.tab.sz
  rw [mhs_len] at h1
  have h2 := mrows_len R.en
  have h3 := R.wide
  simp only [SetTable.fits, SetTable.fill, R.tab.dm, Bool.and_eq_true, beq_iff_eq, decide_eq_true_eq]
  show t.place.size = es.size ∧ t.place.size + 0 ≤ t.mask
  omega
theorem MxS.at (R : MxS P w s.heap a L es ep t) {i : Nat} {m : Addr × List Key} (h : L[i]? = some m) : es[i]? = some (kh P w m.2, Value.ref m.1) := by
  have z : es.toList[i]? = some (kh P w m.2, Value.ref m.1) := by rw [R.en, mrows, List.getElem?_map, h]; rfl
  rw [← Array.getElem?_toList]; exact z
/-- the c-th stop on the way of the hash h -/
abbrev stop (m : Nat) (h : Int) (c : Nat) : SetTable.Probe := nth m (runAt m (SetTable.bits h % (m + 1)) (SetTable.bits h)) c
theorem stop_on (m : Nat) (h : Int) (c q : Nat) : nth m (stop m h c) q = stop m h (c + q) := (nth_add m c _ q).symm
theorem nth_plain (m : Nat) : ∀ (n : Nat) (p : SetTable.Probe), p.dummy = none → (nth m p n).dummy = none
  | 0, _, h => h
  | n + 1, p, h => nth_plain m n (adv m p) (by unfold adv; split <;> exact h)
/-- a new member is found nowhere -/
theorem MxS.search (R : MxS P w s.heap a L es ep t) {x : Addr} {k : List Key} (hx : Ky P w s.heap k x) (hu : A.units < cLine) (new : ∀ m ∈ L, m.2 ≠ k) {K : Nat} (lim : K < 10 * SetTable.turns t.mask)
    (gap : way t.mask (kh P w k) K ∉ t.place.toList) (ahead : ∀ c, c < K → way t.mask (kh P w k) c ∈ t.place.toList) {Q : SetFound → Shared → Prop} (q : Q (.free (way t.mask (kh P w k) K) false) s) :
    ∀ (f c : Nat) (from? : Option SetTable.Probe), from?.getD (t.probeStart (kh P w k)) = stop t.mask (kh P w k) c → c ≤ K → K - c < f → wpAny (model P w) A (setSearchFrom a (.ref x) (kh P w k) true f from?) Q E s
  | 0, c, _, _, _, z => absurd z (Nat.not_lt_zero _)
  | f + 1, c, from?, est, hc, hf => by
    obtain ⟨o, ho, hex, hd⟩ := R.ob
    rw [setSearchFrom_succ]
    refine wpAny_bind (wpAny_setState_of ho hd R.fits ?_)
    dsimp only
    refine wp_if_neg (by unfold SetTable.gaveWay; rw [mask_odd R.tab.mok]; decide) ?_
    try refine wpAny_bind (wpAny_pure ?_)
    have jj : ∀ q, (nth t.mask (stop t.mask (kh P w k) c) q).j = way t.mask (kh P w k) (c + q) := fun q => congrArg SetTable.Probe.j (stop_on ..)
    rw [est]
    rcases go_spec t R.tab.ris R.tab.dm (fun i => (es[i]?.map (·.1)).getD 0) (kh P w k) (10 * SetTable.turns t.mask) (K - c) (stop t.mask (kh P w k) c) (nth_plain _ _ _ rfl) (by omega)
      (fun q hq => by rw [jj]; exact ahead _ (by omega)) (by rw [jj, show c + (K - c) = K by omega]; exact gap) with ⟨q', i, hq, hi, _, _, hp⟩ | ⟨_, hp⟩
    · have hp' : t.probe (fun i => (es[i]?.map (·.1)).getD 0) (kh P w k) (stop t.mask (kh P w k) c) = some (.candidate (way t.mask (kh P w k) (c + q')) i (stop t.mask (kh P w k) (c + (q' + 1)))) := by
        rw [← jj, ← stop_on]; exact hp
      rw [hp']
      dsimp only
      rw [jj] at hi
      have il : i < L.length := by
        have h1 := (List.getElem?_eq_some_iff.mp hi).1
        have h2 := R.tab.sz
        rw [mhs_len] at h2
        rw [Array.length_toList] at h1
        omega
      obtain ⟨m, hm⟩ : ∃ m, L[i]? = some m := ⟨_, List.getElem?_eq_getElem il⟩
      have mm := List.mem_of_getElem? hm
      have ne := new m mm
      have rest : wpAny (model P w) A (searchRest a (.ref x) (kh P w k) true f es t (way t.mask (kh P w k) (c + q')) i (stop t.mask (kh P w k) (c + (q' + 1)))) Q E s := by
        unfold searchRest
        rw [R.at hm]
        dsimp only
        refine wpAny_bind (wpAny_holding (wpAny_eqBool_tuple hu (R.ks m mm) hx ?_))
        rw [decide_eq_false ne]
        refine wpAny_bind (wpAny_setState_of ho hd R.fits ?_)
        dsimp only
        refine wp_if_neg (by decide) ?_
        try refine wpAny_bind (wpAny_pure ?_)
        rw [sameMem]
        dsimp only
        simp only [if_true, slot_live R.tab.ris hi, R.at hm]
        refine wpAny_bind (wpAny_isSame_ref_self (wpAny_bind (wpAny_pure ?_)))
        simp only [if_true]
        refine wp_if_neg (by decide) ?_
        exact MxS.search R hx hu new lim gap ahead q f _ _ rfl (by omega) (by omega)
      by_cases hl : t.led = true
      · refine wp_if_neg (by rw [hl]; decide) ?_
        try refine wpAny_bind (wpAny_pure ?_)
        exact rest
      · refine wp_if_pos (by rw [Bool.eq_false_iff.mpr hl]; rfl) (wpAny_bind (hx.unseen (fun y hy => ?_) ?_))
        · obtain ⟨e, he, ey⟩ := List.mem_map.mp hy
          have he2 : e ∈ es.toList := by
            have : e ∈ es ∧ e.1 = kh P w k := by simpa using he
            simpa using this.1
          rw [R.en] at he2
          obtain ⟨m2, hm2, e2⟩ := List.mem_map.mp he2
          exact ⟨m2.2, m2.1, by rw [← ey, ← e2], R.ks m2 hm2⟩
        · refine wp_if_neg (by decide) ?_
          try refine wpAny_bind (wpAny_pure ?_)
          exact rest
    · have hp' : t.probe (fun i => (es[i]?.map (·.1)).getD 0) (kh P w k) (stop t.mask (kh P w k) c) = some (.empty (way t.mask (kh P w k) K) none) := by
        have e2 : way t.mask (kh P w k) K = (nth t.mask (stop t.mask (kh P w k) c) (K - c)).j := by rw [jj, show c + (K - c) = K by omega]
        rw [e2]; exact hp
      rw [hp']
      exact wpAny_pure q
/-! adding -/
theorem tab_unplain {hs : List Int} (T : TabOk t hs) : TabOk { t with plain := false } hs := ⟨T.ris, T.dm, T.sz, T.mok, T.bd, T.reach⟩
theorem Ky.off {h h' : Heap} {k : List Key} {b : Addr} {o : Obj} (hb : Ky P w h k b) (ho : h.get? a = some o) (hd : o.data = .set es ep t) (same : Heap.SameBut a h h') : Ky P w h' k b := by
  obtain ⟨u, xs, n, hu, hc, hx, hi⟩ := hb
  refine ⟨u, xs, n, (same.2 b fun z => ?_).trans hu, hc, hx, hi⟩
  subst z
  rw [ho] at hu
  cases hu
  rw [hd] at hx
  cases hx
theorem range_all : ∀ (L : List (Addr × List Key)), (List.range L.length).filterMap (fun i => L[i]?) = L
  | [] => rfl
  | x :: L => by
    rw [List.length_cons, List.range_succ_eq_map, List.filterMap_cons_some (f := fun i => (x :: L)[i]?) (a := 0) (b := x) rfl, List.filterMap_map]
    have e : ((fun i => (x :: L)[i]?) ∘ Nat.succ) = fun i => L[i]? := by funext i; simp
    rw [e, range_all L]
theorem reorder (en : es.toList = mrows P w L) {order : Array Nat} (pm : order.toList.Perm (List.range L.length)) :
    ∃ L2, (order.filterMap (es[·]?)).toList = mrows P w L2 ∧ L2.Perm L ∧ mhs P w L2 = order.toList.map fun i => (es.map (·.1)).getD i 0 := by
  have ent : ∀ (i : Nat) (m : Addr × List Key), L[i]? = some m → es[i]? = some (kh P w m.2, Value.ref m.1) := fun i m h => by
    have z : es.toList[i]? = some (kh P w m.2, Value.ref m.1) := by rw [en, mrows, List.getElem?_map, h]; rfl
    rw [← Array.getElem?_toList]; exact z
  have go : ∀ l : List Nat, (∀ i ∈ l, i < L.length) → l.filterMap (fun i => es[i]?) = mrows P w (l.filterMap fun i => L[i]?) ∧ mhs P w (l.filterMap fun i => L[i]?) = l.map fun i => (es.map (·.1)).getD i 0 := by
    intro l
    induction l with
    | nil => intro _; exact ⟨rfl, rfl⟩
    | cons i l ih =>
      intro h
      obtain ⟨h1, h2⟩ := ih fun j hj => h j (List.mem_cons_of_mem _ hj)
      obtain ⟨m, hm⟩ : ∃ m, L[i]? = some m := ⟨_, List.getElem?_eq_getElem (h i List.mem_cons_self)⟩
      have e := ent i m hm
      rw [List.filterMap_cons_some e, List.filterMap_cons_some hm, h1, List.map_cons, ← h2]
      refine ⟨rfl, ?_⟩
      have e5 : (es.map (·.1))[i]? = some (kh P w m.2) := by rw [Array.getElem?_map, e]; rfl
      have e6 : (es.map (·.1)).getD i 0 = kh P w m.2 := by simp [Array.getD_eq_getD_getElem?, e5]
      rw [e6]; rfl
  obtain ⟨h1, h2⟩ := go order.toList fun i hi => List.mem_range.mp (pm.mem_iff.mp hi)
  refine ⟨_, by first | (rw [Array.toList_filterMap]; exact h1) | simpa using h1, ?_, h2⟩
  have := pm.filterMap fun i => L[i]?
  rwa [range_all] at this
theorem relayM {o : Obj} (ho : s.heap.get? a = some o) (hex : o.ExactSet) (hd : o.data = .set es ep t) (en : es.toList = mrows P w L) (sz : t.place.size = es.size) (dm : t.dummies = #[]) (fl : es.size ≤ t.mask)
    (nd : (L.map (·.2)).Nodup) (ks : ∀ m ∈ L, Ky P w s.heap m.2 m.1) (led : w.params.followText "set-order" = true ∨ t.led = true) (few : L.length < 64) {wanted M : Nat}
    (hw : SetTable.sizeAbove wanted - 1 = M) (hM : MaskOk M) (hw2 : SetTable.sizeAbove wanted ≤ 128) (wide : L.length * 5 < M * 3) {Q : Unit → Shared → Prop}
    (q : ∀ h' L' es' ep' t', Heap.SameBut a s.heap h' → MxS P w h' a L' es' ep' t' → L'.Perm L → Q () { s with heap := h' }) : wpAny (model P w) A (setRelay a wanted) Q E s := by
  have len := mrows_len en
  have fits : t.fits es.size = true := by
    simp only [SetTable.fits, SetTable.fill, dm, Bool.and_eq_true, beq_iff_eq, decide_eq_true_eq]
    show t.place.size = es.size ∧ t.place.size + 0 ≤ t.mask
    omega
  obtain ⟨t', order, er, pm, T, em, el, _, _⟩ := relaid_ok t (hs := es.map (·.1)) (wanted := wanted) hw hM (by rw [Array.size_map, len]; omega)
  rw [Array.size_map, len] at pm
  obtain ⟨L2, r1, r2, r3⟩ := reorder en pm
  rw [← r3] at T
  have s2 : (order.filterMap (es[·]?)).size = es.size := by rw [mrows_len r1, r2.length_eq, len]
  rw [setRelay_eq]
  refine wpAny_bind (wpAny_setState_of ho hd fits ?_)
  dsimp only
  refine wp_if_neg (by rw [sizeLine_eq]; omega) ?_
  try refine wpAny_bind (wpAny_pure ?_)
  rw [er]
  dsimp only
  refine wpAny_bind (wp_if_neg (by rw [s2]; simp) ?_)
  try refine wpAny_bind (wpAny_pure ?_)
  refine wpAny_pure ?_
  dsimp only
  refine wpAny_storeSet_of ho hd ?_ (by rw [s2, len, sizeLine_eq]; omega)
  have same : Heap.SameBut a s.heap (s.heap.update a (Obj.putSet (order.filterMap (es[·]?)) t')) := Heap.SameBut.update ..
  exact q _ L2 _ (ep + 1) t' same ⟨⟨_, store_at ho hd, ⟨hex.1, hex.2.1, hex.2.2⟩, rfl⟩, r1, T, (r2.map (·.2)).nodup_iff.mpr nd, fun m hm => (ks m (r2.mem_iff.mp hm)).off ho hd same, by rw [el]; exact led, by rw [r2.length_eq, em]; exact wide, by rw [r2.length_eq]; exact few⟩ r2
/-- behind the search -/
theorem addTail {o : Obj} (ho : s.heap.get? a = some o) (hex : o.ExactSet) (hd : o.data = .set es ep t) {L1 : List (Addr × List Key)} {es1 : Array (Int × Value)} {t1 : SetTable} (en : es1.toList = mrows P w L1) (tab : TabOk t1 (mhs P w L1)) (fill : t1.fill = L1.length) (mask : t1.mask = t.mask)
    (nd : (L1.map (·.2)).Nodup) (ks : ∀ m ∈ L1, Ky P w s.heap m.2 m.1) (led : w.params.followText "set-order" = true ∨ t1.led = true) (few : L1.length < 64) (len : L1.length = es.size + 1) (wide : es.size * 5 < t.mask * 3) {Q : Bool → Shared → Prop}
    (q : ∀ h' L' es' ep' t', Heap.SameBut a s.heap h' → MxS P w h' a L' es' ep' t' → L'.Perm L1 → Q true { s with heap := h' }) :
    wpAny (model P w) A (do
      storeSet a es1 t1
      if !false && t1.tooFull then setRelay a (SetTable.grown (es.size + 1))
      return true) Q E s := by
  have n1 := mrows_len en
  refine wpAny_bind (wpAny_storeSet_of ho hd ?_ (by rw [n1, sizeLine_eq]; omega))
  have same : Heap.SameBut a s.heap (s.heap.update a (Obj.putSet es1 t1)) := Heap.SameBut.update ..
  have ho1 := store_at (es' := es1) (t' := t1) ho hd
  generalize s.heap.update a (Obj.putSet es1 t1) = h1 at same ho1 ⊢
  have ks1 : ∀ m ∈ L1, Ky P w h1 m.2 m.1 := fun m hm => (ks m hm).off ho hd same
  by_cases full : t1.tooFull = true
  · have big : L1.length * 5 ≥ t1.mask * 3 := by
      have z := full
      unfold SetTable.tooFull at z
      rw [decide_eq_true_eq, fill] at z
      exact z
    have sz1 : t1.place.size = es1.size := by rw [n1, ← mhs_len (P := P) (w := w)]; exact tab.sz
    have go : ∀ M, SetTable.sizeAbove (SetTable.grown (es.size + 1)) - 1 = M → MaskOk M → SetTable.sizeAbove (SetTable.grown (es.size + 1)) ≤ 128 → L1.length * 5 < M * 3 → es1.size ≤ t1.mask →
        wpAny (model P w) A (setRelay a (SetTable.grown (es.size + 1))) (fun _ sz => wpAny (model P w) A (pure true) Q E sz) E { s with heap := h1 } := fun M g1 g2 g3 g4 g5 =>
      relayM (s := { s with heap := h1 }) ho1 ⟨hex.1, hex.2.1, hex.2.2⟩ rfl en sz1 tab.dm g5 nd ks1 led few g1 g2 g3 g4 fun h2 L2 es2 ep2 t2 same2 R2 pm2 => wpAny_pure (q h2 L2 es2 ep2 t2 (same.trans same2) R2 pm2)
    have two : (t1.mask = 7 ∧ es.size = 4) ∨ (t1.mask = 31 ∧ es.size = 18) := by
      rcases tab.mok with e | e | e
      · exact .inl ⟨e, by omega⟩
      · exact .inr ⟨e, by omega⟩
      · omega
    first
      | (refine wpAny_bind ?_; refine wp_if_pos (by rw [full]; rfl) ?_)
      | (refine wp_if_pos (by rw [full]; rfl) ?_; refine wpAny_bind ?_)
    rcases two with ⟨e1, e2⟩ | ⟨e1, e2⟩
    · exact go 31 (by rw [e2]; exact congrArg (· - 1) size_20) (.inr (.inl rfl)) (by rw [e2]; exact Nat.le_trans (Nat.le_of_eq size_20) (by decide)) (by omega) (by omega)
    · exact go 127 (by rw [e2]; exact congrArg (· - 1) size_76) (.inr (.inr rfl)) (by rw [e2]; exact Nat.le_of_eq size_76) (by omega) (by omega)
  · first
      | refine wp_if_neg (by rw [Bool.eq_false_iff.mpr full]; decide) ?_
      | (refine wpAny_bind ?_; refine wp_if_neg (by rw [Bool.eq_false_iff.mpr full]; decide) ?_; refine wpAny_pure ?_)
    refine wpAny_pure (q h1 L1 es1 (ep + 1) t1 same ⟨⟨_, ho1, ⟨hex.1, hex.2.1, hex.2.2⟩, rfl⟩, en, tab, nd, ks1, led, ?_, few⟩ (.refl _))
    have z : ¬ (L1.length * 5 ≥ t1.mask * 3) := fun y => full (by unfold SetTable.tooFull; rw [decide_eq_true_eq, fill]; exact y)
    omega
theorem MxS.add (R : MxS P w s.heap a L es ep t) {x : Addr} {k : List Key} (hx : Ky P w s.heap k x) (hu : A.units < cLine) (new : ∀ m ∈ L, m.2 ≠ k) (few : L.length + 1 < 64) {Q : Bool → Shared → Prop}
    (q : ∀ b h' L' es' ep' t', Heap.SameBut a s.heap h' → MxS P w h' a L' es' ep' t' → L'.Perm ((x, k) :: L) → Q b { s with heap := h' }) : wpAny (model P w) A (setAddHashed a (.ref x) (kh P w k)) Q E s := by
  obtain ⟨o, ho, hex, hd⟩ := R.ob
  have len := mrows_len R.en
  have wide := R.wide
  unfold setAddHashed
  refine wpAny_holding ?_
  rw [show (100000 : Nat) = 99999 + 1 from rfl, setAddHashedIn_succ]
  refine wpAny_bind (wpAny_setState_of ho hd R.fits ?_)
  dsimp only
  refine wp_if_neg (by simp [byScan, Value.scannable]) ?_
  try refine wpAny_bind (wpAny_pure ?_)
  obtain ⟨K, lim, gap, ahead⟩ := R.tab.first (by rw [mhs_len]; omega) (kh P w k)
  have lim2 : K < 100000 := by
    have : 10 * SetTable.turns t.mask ≤ 1420 := by
      unfold SetTable.turns
      rcases R.tab.mok with e | e | e <;> omega
    omega
  refine wpAny_bind (m := setSearch a (.ref x) (kh P w k) true) ?_
  unfold setSearch
  refine R.search hx hu new lim gap ahead ?_ 100000 0 none rfl (Nat.zero_le _) (by omega)
  dsimp only
  refine wpAny_bind (wpAny_setState_of ho hd R.fits ?_)
  dsimp only
  obtain ⟨p1, p2, p3, p4, p5, p6, p7, p8, p9⟩ := R.tab.put gap ahead
  generalize epp : SetTable.below t.place (way t.mask (kh P w k) K) = i at p1 p2 p3
  have hin : (SetTable.insertAt es i (kh P w k, Value.ref x)).toList = mrows P w (L.take i ++ (x, k) :: L.drop i) := by
    rw [SetTable.toList_insertAt, R.en]
    simp [mrows]
  have hhs : mhs P w (L.take i ++ (x, k) :: L.drop i) = (mhs P w L).take i ++ kh P w k :: (mhs P w L).drop i := by simp [mhs]
  rw [← hhs] at p3
  have pm := put_perm L i (x, k)
  have pl : (L.take i ++ (x, k) :: L.drop i).length = L.length + 1 := pm.length_eq
  have nd1 : ((L.take i ++ (x, k) :: L.drop i).map (·.2)).Nodup := (pm.map (·.2)).nodup_iff.mpr (List.nodup_cons.mpr ⟨fun z => by
    obtain ⟨m, hm, e⟩ := List.mem_map.mp z
    exact new m hm e, R.nd⟩)
  have ks1 : ∀ m ∈ L.take i ++ (x, k) :: L.drop i, Ky P w s.heap m.2 m.1 := fun m hm => by
    rcases List.mem_cons.mp (pm.mem_iff.mp hm) with e | hm
    · rw [e]; exact hx
    · exact R.ks m hm
  generalize L.take i ++ (x, k) :: L.drop i = L1 at hin hhs p3 pm pl nd1 ks1
  rw [mhs_len] at p9
  generalize t.put (way t.mask (kh P w k) K) = pt at p1 p3 p4 p5 p6 p7 p8 p9 ⊢
  obtain ⟨t1, i1⟩ := pt
  dsimp only at p1 p3 p4 p5 p6 p7 p8 p9 ⊢
  subst p1
  have led1 : w.params.followText "set-order" = true ∨ t1.led = true := by rw [p5]; exact R.led
  have tail : ∀ y : Bool, wpAny (model P w) A (do
      storeSet a (SetTable.insertAt es i1 (kh P w k, Value.ref x)) (if y = true then t1 else { t1 with plain := false })
      if !false && (if y = true then t1 else { t1 with plain := false }).tooFull then setRelay a (SetTable.grown (es.size + 1))
      return true) Q E s := fun y => by
    refine addTail ho hex hd hin (by cases y <;> first | exact p3 | exact tab_unplain p3) (by cases y <;> exact p9.trans pl.symm) (by cases y <;> exact p4) nd1 ks1 (by cases y <;> exact led1) (by omega) (by omega) (by omega) fun h' L' es' ep' t' same R' pm' => q true h' L' es' ep' t' same R' (pm'.trans pm)
  by_cases pt1 : t1.plain = true
  · first
      | (refine wpAny_bind ?_; refine wp_if_pos pt1 ?_; exact hx.hashBy tail)
      | exact wp_if_pos pt1 (wpAny_bind (hx.hashBy tail))
  · first
      | (refine wpAny_bind ?_; refine wp_if_neg pt1 ?_; exact wpAny_pure (tail true))
      | exact wp_if_neg pt1 (wpAny_bind (wpAny_pure (tail true)))
      | exact wp_if_neg pt1 (tail true)
end
end Cw

namespace Cw
open PySem PySem.Spec PyProof.Rows L2 PySem.Froz

/-! ### set(t), t a tuple of tuples, no two alike; its len -/
theorem MxS.keep {P : Program} {w : World} {h h' : Heap} {a : Addr} {L : List (Addr × List Key)} {es : Array (Int × Value)} {ep : Nat} {t : SetTable} (R : MxS P w h a L es ep t) (k : ∀ o, h.get? a = some o → h'.get? a = some o) (ks : ∀ m ∈ L, Ky P w h' m.2 m.1) : MxS P w h' a L es ep t := by
  obtain ⟨o, ho, r⟩ := R.ob
  exact ⟨⟨o, k o ho, r⟩, R.en, R.tab, R.nd, ks, R.led, R.wide, R.few⟩
theorem MxS.fresh {P : Program} {w : World} {h : Heap} {a : Addr} (ho : h.get? a = some (newS w)) : MxS P w h a [] #[] 0 (.fresh 0 0 (!w.params.followText "set-order")) where
  ob := ⟨_, ho, ⟨rfl, rfl, rfl⟩, rfl⟩
  en := rfl
  tab := ⟨.nil, rfl, rfl, .inl rfl, fun x z => absurd z (by simp [SetTable.fresh]), fun i _ _ z => absurd z (by simp [mhs])⟩
  nd := .nil
  ks := fun m z => absurd z (by simp)
  led := by
    show _ ∨ (!w.params.followText "set-order") = true
    cases w.params.followText "set-order"
    · exact .inr rfl
    · exact .inl rfl
  wide := by show 0 * 5 < 7 * 3; decide
  few := by show 0 < 64; decide
theorem ky_keep {P : Program} {w : World} {h h' : Heap} {k : List Key} {b : Addr} (x : Ky P w h k b) (kp : ∀ c o, h.get? c = some o → h'.get? c = some o) : Ky P w h' k b := by
  obtain ⟨o, xs, n, ho, r⟩ := x
  exact ⟨o, xs, n, kp b o ho, r⟩
theorem items_mix {P : Program} {w : World} : ∀ {k : List Key} {us : List Value}, Vals (k.map kV) us → ItemsAre (mixKind P w) k us
  | [], _, .nil => .nil
  | .inl i :: k, _, .cons r t => by
    obtain ⟨tk, rfl⟩ := r
    exact .cons (by show keyIs (.inl i) (.int i tk) = true; simp [keyIs, Value.isInt]) (items_mix t)
  | .inr x :: k, _, .cons r t => by
    obtain ⟨tk, rfl⟩ := r
    exact .cons (by show keyIs (.inr x) (.str x tk) = true; simp [keyIs, Value.isStrOf]) (items_mix t)
theorem refs_at {ms : List (Addr × List Key)} : ∀ {us : List Value}, Vals (ms.map fun m => V.ref m.1) us → us = ms.map fun m => Value.ref m.1 := by
  induction ms with
  | nil => intro us r; cases r; rfl
  | cons m ms ih =>
    intro us r
    cases r with
    | cons r t => cases r; rw [ih t]; rfl
/-- a set of so many members -/
def SzO (a : Addr) (n : Nat) : HO := .ext fun h => ∃ (o : Obj) (es : Array (Int × Value)) (ep : Nat) (t : SetTable), h.get? a = some o ∧ o.ExactSet ∧ o.data = .set es ep t ∧ t.fits es.size = true ∧ es.size = n
section
variable {X : Cx}
def rSetMx (K : PySem.W.Frag) : List V → Hp → VK → Prop := fun xs H Q => ∃ (l : Addr) (ms : List (Addr × List Key)), xs = [.ref l] ∧ SqT K H l (ms.map fun m => .ref m.1) ∧ (∀ m ∈ ms, SqT K H m.1 (m.2.map kV)) ∧ (ms.map (·.2)).Nodup ∧ ms.length < 64 ∧
  ∀ a, H a = none → Q (.ref a) (upd H a (SzO a ms.length))
theorem call_setMx (hc : X.calm = true) (hu : X.A.units + 64 < cLine) : CallR X (.type "set") (rSetMx X.K) := by
  intro pins s σ H xs us Q I r ⟨l, ms, ex, hl, hm, nd, few, q⟩
  subst ex
  rw [Vals.ref1 r]
  obtain ⟨its, rv, tp, _⟩ := I.tuple hl
  have ei := refs_at rv
  have hn : H s.heap.objs.size = none := I.hok.fresh (Nat.le_refl _)
  have base : ∀ m ∈ ms, Ky X.prog X.w s.heap m.2 m.1 := fun m hmm => by
    obtain ⟨ys, ry, ⟨o, ho, hcl, n, hd⟩, _⟩ := I.tuple (hm m hmm)
    exact ⟨o, ys.toArray, n, ho, hcl, hd, by simpa using items_mix ry⟩
  have sz : its.toArray.size = ms.length := by rw [ei]; simp
  refine set_tuple (fun i h => ∃ L es ep t, MxS X.prog X.w h s.heap.objs.size L es ep t ∧ (∀ m ∈ L, m ∈ ms.take i) ∧ L.length = i) (I.ok.hd hc) tp (show X.A.units + 3 < cLine by omega) ⟨?_⟩ ⟨?_⟩ ⟨?_, ?_⟩
  · rintro i h h' ⟨L, es, ep, t, R, sub, len⟩ k kp
    exact ⟨L, es, ep, t, R.keep k fun m hmm => ky_keep (base m (List.mem_of_mem_take (sub m hmm))) kp, sub, len⟩
  · rintro i v A E s1 Q1 hv un ⟨L, es, ep, t, R, sub, len⟩ kp q1
    obtain ⟨m, em, ev⟩ : ∃ m, ms[i]? = some m ∧ v = .ref m.1 := by
      have z : its.toArray[i]? = some v := hv
      rw [ei] at z
      simp only [List.getElem?_toArray, List.getElem?_map, Option.map_eq_some_iff] at z
      obtain ⟨m, e1, e2⟩ := z
      exact ⟨m, e1, e2.symm⟩
    subst ev
    have il := (List.getElem?_eq_some_iff.mp em).1
    have hx := ky_keep (base m (List.mem_of_getElem? em)) kp
    have new : ∀ m2 ∈ L, m2.2 ≠ m.2 := fun m2 h2 e => by
      obtain ⟨j, hj, e2⟩ := List.getElem_of_mem (sub m2 h2)
      have jl : j < i := by rw [List.length_take] at hj; omega
      rw [List.getElem_take] at e2
      have e3 : ms[i] = m := (List.getElem?_eq_some_iff.mp em).2
      have z := List.pairwise_iff_getElem.mp nd j i (by simp; omega) (by simp; omega) jl
      simp only [List.getElem_map] at z
      rw [e2, e3] at z
      exact z e
    unfold setAdd
    refine wpAny_holding (wpAny_bind (wpAny_pyHash_tuple un hx ?_))
    refine MxS.add (s := { s1 with toks := s1.toks + (m.2.length + 1) }) R hx un new (by omega) fun b h' L' es' ep' t' same R' pm => q1 b h' _ same (Nat.le_add_right _ _) ⟨L', es', ep', t', R', fun m2 h2 => ?_, by rw [pm.length_eq, List.length_cons, len]⟩
    rw [List.take_add_one, em]
    rcases List.mem_cons.mp (pm.mem_iff.mp h2) with e | z
    · subst e; exact List.mem_append_right _ (by simp)
    · exact List.mem_append_left _ (sub m2 z)
  · intro h' e
    exact ⟨[], #[], 0, _, .fresh e, fun m z => absurd z (by simp), rfl⟩
  · rintro h' tk ⟨L, es, ep, t, R, _, len⟩ kp
    obtain ⟨o, ho, hex, hd⟩ := R.ob
    refine ⟨.ref _, _, I.laid (a := s.heap.objs.size) (o := SzO s.heap.objs.size ms.length) (t' := tk) kp (Nat.le_refl _) ⟨⟨o, es, ep, t, ho, hex, hd, MxS.fits (s := { s with heap := h' }) R, by rw [mrows_len R.en, len, sz]⟩, ⟨o, ho⟩, fun h1 h2 ⟨o, es, ep, t, r1, r⟩ k => ⟨o, es, ep, t, k o r1, r⟩⟩, rfl, q _ hn⟩
def rLenSz : List V → Hp → VK → Prop := fun xs H Q => ∃ (a : Addr) (n : Nat), xs = [.ref a] ∧ H a = some (SzO a n) ∧ n < 64 ∧ Q (.int n) H
theorem call_lenSz : CallR X (.builtin "len") rLenSz := by
  intro pins s σ H xs us Q I r ⟨a, n, ex, ha, few, q⟩
  subst ex
  rw [Vals.ref1 r]
  obtain ⟨o, es, ep, t, ho, hex, hd, hf, en⟩ := (I.hok a _ ha).1
  exact call_len_set ho hex hd hf (by rw [en]; omega) ⟨.int n, H, I.tok _, ⟨_, by rw [en]⟩, q⟩
/-! set(xs), xs a list of texts -/
end
end Cw

namespace Cw
open PySem PySem.Spec PyProof.Rows L2 PySem.Froz

/-! ### targets: a list's items, an attribute -/
section
variable {X : Cx} {pos : Pos}
def gLs (k : Nat) (t : TGDs) : TGD := fun d ρ c Φ => match seqOf d with
  | some ds => (match d with
    | .tup _ => False
    | .ttp _ => False
    | _ => ds.length = k ∧ t ds ρ c Φ)
  | none => False
theorem pgd_lst {es : List Expr} {k : Nat} {t : TGDs} {n : Nat} (hc : X.calm = true) (h : PGDs X es t) (hn : (assignEach es X.env).length = n := by rfl) (hst : (assignEach es X.env).findIdx? (·.1) = none := by rfl) : PGD X (.Tuple es k pos) (gLs n t) :=
  PG.imp (pg_lst hc h hn hst) fun v σ H Q ⟨m, ρ, c, d, Φ, S, r, h, nn⟩ => by
    cases d <;> first | exact h.elim | skip
    · obtain ⟨a, xs, rfl, h1, h2⟩ := r
      exact ⟨a, xs, rfl, .inl (.inl (ex_hid m H _ _ h1)), by rw [rlen h2]; exact h.1, m, ρ, c, _, Φ, S, h2, h.2, nn⟩
    · obtain ⟨a, xs, rfl, h1, h2⟩ := r
      exact ⟨a, xs, rfl, ex_l (ex_hid m H) h1, by rw [rlen h2]; exact h.1, m, ρ, c, _, Φ, S, h2, h.2, nn⟩
def gFld (C : Addr) (f : Str) (ta : TD) : TGD := fun d ρ c Φ => ta ρ c fun x c1 => ∃ k ns ds, x = .cell k ∧ c1[k]? = some (.obj C ns ds) ∧ ns.length < 1000 ∧ Φ ρ (c1.set k (.obj C (setF f d ns ds).1 (setF f d ns ds).2))
theorem pgd_fld {C : Addr} {f : Str} {o : Expr} {ta : TD} (cl : Cls X.K C) (na : NoAttr X.K C f) (ha : PD X o ta) : PGD X (.Attribute o f pos) (gFld C f ta) := by
  refine ⟨fun pins s σ H v u Q I r ⟨m, ρ, c, d, Φ, S, rv, h, n⟩ => ?_⟩
  rw [PySem.assign_Attribute]
  refine wpAny_bind (wpAny_holding (thn (ha.run pins s σ H (fun x H' => ∃ m' c' D', D' = x ∧ (∃ k ns ds, ∃ a, m'.ix[k]? = some a ∧ x = .ref a ∧ c'[k]? = some (.obj C ns ds) ∧ ns.length < 1000 ∧ Φ ρ (c'.set k (.obj C (setF f d ns ds).1 (setF f d ns ds).2))) ∧ CR X.K H' m' c' ∧ Le m H m' H') I ⟨m, ρ, c, _, S, h, fun x c1 w H1 m1 ⟨k, ns, ds, ex, h1, h2, h3⟩ C1 R1 L1 => ?_⟩) fun ov s1 ⟨x, H1, I1, rx, m1, c1, D', eD, ⟨k, ns, ds, a, h4, ex, h1, h2, h3⟩, C1, L1⟩ => ?_))
  · subst ex
    obtain ⟨a, h4, ew⟩ := R1
    exact ⟨m1, c1, w, rfl, ⟨k, ns, ds, a, h4, ew, h1, h2, h3⟩, C1, L1⟩
  · subst ex
    obtain rfl : ov = Value.ref a := rx
    obtain ⟨a', h5, dx, fs, h6, h7, h8⟩ := C1.at_ k _ h1
    rw [h4] at h5; cases h5
    have hm : a ∈ m1.ix := List.mem_of_getElem? h4
    have z1 := setF_at (f := f) (L1.r rv) h7 h8
    have z := cell_put (o := .ins C dx (putF f v fs)) (ce := .obj C (setF f d ns ds).1 (setF f d ns ds).2) C1 h4 ⟨dx, _, upd_same, z1.1, by show RL _ _ (hid m1 _) _ _; rw [hid_mut hm]; exact z1.2⟩
    refine wpAny_bind (wpAny_standAt (wpAny_bind (wpAny_holding (setattr_ok I1 h6 cl na (by rw [← List.length_map (f := (·.1)), h7]; exact h2) r fun s2 I2 => wpAny_release ⟨σ, _, I2, ?_⟩))))
    exact n σ _ m1 ρ _ h3 ((S.step L1 C1).step z.2 z.1) (L1.trans z.2)
end
/-! ### f'{a}{b}' -/
def fmtS : D → Option Str
  | .int i => if i.natAbs.log2 < 1920 then some (toString i) else none
  | .str x => if x.length ≤ sizeLine then some x else none
  | _ => none
def dFs2 (ta tb : TD) : TD := fun ρ c Φ => ta ρ c fun x c1 => ∃ a, fmtS x = some a ∧ a.length ≤ sizeLine ∧ tb ρ c1 fun y c2 => ∃ b, fmtS y = some b ∧ a.length + b.length ≤ sizeLine ∧ Φ (.str (a ++ b)) c2
section
variable {X : Cx} {a b : Expr} {ta tb : TD} {pos : Pos}
theorem fmt_lift {K : PySem.W.Frag} {H : Hp} {m : Ad} {d : D} {v : V} {y : Str} {Q : VK} (h : fmtS d = some y) (r : RR K H m d v) (q : Q (.str y) H) : (∃ x : Str, v = .str x ∧ x.length ≤ sizeLine ∧ Q (.str x) H) ∨ ∃ i : Int, v = .int i ∧ i.natAbs.log2 < 1920 ∧ Q (.str (toString i)) H := by
  cases d <;> first | (cases h; done) | skip
  · rename_i i
    have h : (if i.natAbs.log2 < 1920 then some (toString i : Str) else none) = some y := h
    by_cases c : i.natAbs.log2 < 1920
    · rw [if_pos c] at h; cases h
      exact .inr ⟨i, r, c, q⟩
    · rw [if_neg c] at h; cases h
  · rename_i x
    have h : (if x.length ≤ sizeLine then some x else none) = some y := h
    by_cases c : x.length ≤ sizeLine
    · rw [if_pos c] at h; cases h
      exact .inl ⟨_, r, c, q⟩
    · rw [if_neg c] at h; cases h
theorem str_nil_app (x : Str) : Str.empty ++ x = x := by cases x with | mk l => show (⟨#[] ++ l⟩ : Str) = ⟨l⟩; simp
theorem pd_fs2 {p1 p2 : Pos} (ha : PD X a ta) (hb : PD X b tb) : PD X (.JoinedStr [.FormattedValue a (-1) none p1, .FormattedValue b (-1) none p2] pos) (dFs2 ta tb) :=
  PE.imp (pe_joined (.cons (pe_fmt ha) (.cons (pe_fmt hb) .nil))) fun σ H Q ⟨m, ρ, c, Φ, S, h, q⟩ =>
    ⟨m, ρ, c, _, S, h, fun x c1 u H1 m1 ⟨xa, ea, la, hx⟩ C1 R1 L1 => fmt_lift (Q := fun v H' => ∃ y : Str, v = .str y ∧ (Str.empty ++ y).length ≤ sizeLine ∧ tJs [tFmt (lift X.K tb)] (Str.empty ++ y) σ H' fun out H1 => Q (.str out) H1) ea R1
      ⟨xa, rfl, by rw [str_nil_app]; exact la, m1, ρ, c1, _, S.step L1 C1, hx, fun y c2 v H2 m2 ⟨xb, eb, lb, hy⟩ C2 R2 L2 => fmt_lift (Q := fun v H' => ∃ y : Str, v = .str y ∧ (Str.empty ++ xa ++ y).length ≤ sizeLine ∧ tJs [] (Str.empty ++ xa ++ y) σ H' fun out H1 => Q (.str out) H1) eb R2
        ⟨xb, rfl, by rw [str_nil_app, Str.length_append]; exact lb, by
          show Q (.str (Str.empty ++ xa ++ xb)) H2
          rw [str_nil_app]
          exact q (.str (xa ++ xb)) c2 _ H2 m2 hy C2 rfl (L1.trans L2)⟩⟩⟩
end
end Cw

namespace Cw
open PySem PySem.Spec PyProof.Rows L2 PySem.Froz

/-! ### [e for x in .. for y in ..], no cells around it -/
def dLc2 (ti : TDs) (i : Nat) (tj : TDs) (j : Nat) (te : TD) : TD := fun ρ c Φ => ti ρ c fun ds c1 => ∃ (es : D → List D) (f : D → D → D), c1 = [] ∧
  (∀ d ∈ ds, ∀ acc (Ψ : List D → List Cell → Prop), Ψ (es d) [.lst acc] → tj (((ρ.set j none).set i none).set i (some d)) [.lst acc] Ψ) ∧
  (∀ d ∈ ds, ∀ e ∈ es d, okD 0 (f d e) = true ∧ ∀ acc (Ψ : D → List Cell → Prop), Ψ (f d e) [.lst acc] → te ((((ρ.set j none).set i none).set i (some d)).set j (some e)) [.lst acc] Ψ) ∧
  (ds.flatMap fun d => (es d).map (f d)).length ≤ sizeLine ∧ Φ (.lst (ds.flatMap fun d => (es d).map (f d))) []
theorem SR.wipe {K : PySem.W.Frag} {σ : L2.St} {H : Hp} {m : Ad} {ρ : Env} {c : List Cell} (S : SR K σ H m ρ c) (i : Nat) : SR K (σ.set i none) H m (ρ.set i none) c :=
  ⟨S.cr, by rw [List.length_set, List.length_set]; exact S.len, fun k d e => by
    by_cases hk : i = k
    · subst hk
      rw [List.getElem?_set_self'] at e
      cases h : ρ[i]? with
      | none => rw [h] at e; cases e
      | some x => rw [h] at e; cases e
    · rw [List.getElem?_set_ne hk] at e
      obtain ⟨v, h1, h2⟩ := S.sl k d e
      exact ⟨v, by rw [List.getElem?_set_ne hk]; exact h1, h2⟩⟩
theorem okDs_flat {es : D → List D} {f : D → D → D} : ∀ {ds : List D}, (∀ d ∈ ds, ∀ e ∈ es d, okD 0 (f d e) = true) → okDs 0 (ds.flatMap fun d => (es d).map (f d)) = true := fun {ds} h => okDs_of fun x hx => by
  obtain ⟨d, hd, hx⟩ := List.mem_flatMap.mp hx
  obtain ⟨e, he, rfl⟩ := List.mem_map.mp hx
  exact h d hd e he
theorem lc2_walk {K : PySem.W.Frag} {J : It} {m : Ad} {H1 : Hp} {ds : List D} {σ : L2.St} {ρ : Env} {i j : Nat} {tj : TDs} {te : TD} {Qd : Addr → Hp → Prop} {es : D → List D} {f : D → D → D} (wk : Walks K J m H1 ds) (S : SR K σ H1 m ρ [])
    (hj : ∀ d ∈ ds, ∀ acc (Ψ : List D → List Cell → Prop), Ψ (es d) [.lst acc] → tj (((ρ.set j none).set i none).set i (some d)) [.lst acc] Ψ)
    (he : ∀ d ∈ ds, ∀ e ∈ es d, okD 0 (f d e) = true ∧ ∀ acc (Ψ : D → List Cell → Prop), Ψ (f d e) [.lst acc] → te ((((ρ.set j none).set i none).set i (some d)).set j (some e)) [.lst acc] Ψ)
    (hl : (ds.flatMap fun d => (es d).map (f d)).length ≤ sizeLine)
    (q : ∀ p H', CR K H' m [] → RR K H' m (.lst (ds.flatMap fun d => (es d).map (f d))) (.ref p) → Le m H1 m H' → Qd p H') : ∀ p, H1 p = none → ∃ W : Nat → Nat → Hp → Prop, (∃ mm, W 0 mm (upd H1 p (.lst []))) ∧ ∀ n mm H, W n mm H →
      (J.stop n H ∧ Qd p H) ∨ (J.go n H ∧ ∃ Nx : Hp → Prop, (∀ H', Nx H' → ∃ m', m' < mm ∧ W (n + 1) m' H') ∧ ∀ x H', J.yld n H x H' → gName i x (L2.wipe σ [i, j]) H' fun σ2 H2 => L2.wipe σ2 [i, j] = L2.wipe σ [i, j] ∧
        liftI K tj σ2 H2 fun J1 H4 => ∃ W1 : Nat → Nat → Hp → Prop, (∃ mm, W1 0 mm H4) ∧ ∀ n1 k H, W1 n1 k H →
          (J1.stop n1 H ∧ Nx H) ∨ (J1.go n1 H ∧ ∃ Nx1 : Hp → Prop, (∀ H', Nx1 H' → ∃ k', k' < k ∧ W1 (n1 + 1) k' H') ∧ ∀ x H', J1.yld n1 H x H' → gName j x (L2.wipe σ2 [j]) H' fun σ3 H5 => L2.wipe σ3 [j] = L2.wipe σ2 [j] ∧
            lift K te σ3 H5 fun y H7 => ∃ acc, H7 p = some (.lst acc) ∧ acc.length < sizeLine ∧ Nx1 (upd H7 p (.lst (acc ++ [y]))))) := by
  intro p hp
  have z0 := cell_new (ce := .lst []) (o := .lst []) S.cr hp ⟨[], upd_same, rfl⟩
  have ix0 : m.ix = [] := List.eq_nil_of_length_eq_zero S.cr.len
  have last : (m.push p).ix[0]? = some p := by show (m.ix ++ [p])[0]? = _; rw [ix0]; rfl
  have inp : p ∈ (m.push p).ix := List.mem_of_getElem? last
  have S0 := (S.wipe j).wipe i
  refine ⟨fun n mm H => mm = ds.length - n ∧ n ≤ ds.length ∧ CR K H (m.push p) [.lst ((ds.take n).flatMap fun d => (es d).map (f d))] ∧ Le m H1 (m.push p) H, ⟨ds.length, rfl, Nat.zero_le _, z0.1, z0.2.1⟩, ?_⟩
  rintro n mm H ⟨rfl, hn, C, l⟩
  by_cases lt : n < ds.length
  · refine .inr ⟨wk.go n (m.push p) H _ l C lt, fun H' => CR K H' (m.push p) [.lst ((ds.take (n + 1)).flatMap fun d => (es d).map (f d))] ∧ Le m H1 (m.push p) H', fun H' w => ⟨ds.length - (n + 1), by omega, rfl, lt, w⟩, fun x H2 y => ?_⟩
    obtain ⟨d, hd, C2, l2, rx⟩ := wk.yld n (m.push p) H _ x H2 l C lt y
    have dm := List.mem_of_getElem? hd
    have S2 : SR K ((L2.wipe σ [i, j]).set i (some x)) H2 (m.push p) (((ρ.set j none).set i none).set i (some d)) [.lst ((ds.take n).flatMap fun d => (es d).map (f d))] := (S0.step (l.trans l2) C2).set rx
    refine ⟨?_, m.push p, _, _, fun t c' => t = es d ∧ c' = [.lst ((ds.take n).flatMap fun d => (es d).map (f d))], S2, hj d dm _ _ ⟨rfl, rfl⟩, fun t c' J1 H4 m4 ⟨et, ec⟩ C4 wk1 l4 => ?_⟩
    · show ((((σ.set j none).set i none).set i (some x)).set j none).set i none = (σ.set j none).set i none
      by_cases ij : i = j
      · subst ij; simp [List.set_set]
      · rw [List.set_set, List.set_comm (some x) none ij, List.set_set, List.set_set]
    subst et ec
    have em := CR.same (by simp [Ad.push, ix0]) C4 l4
    subst em
    have grow : (ds.take (n + 1)).flatMap (fun d => (es d).map (f d)) = (ds.take n).flatMap (fun d => (es d).map (f d)) ++ (es d).map (f d) := by
      rw [List.take_add_one, hd]; simp
    have lim : ((ds.take n).flatMap fun d => (es d).map (f d)).length + (es d).length ≤ sizeLine := by
      have h1 : ((ds.take (n + 1)).flatMap fun d => (es d).map (f d)).length ≤ (ds.flatMap fun d => (es d).map (f d)).length := by
        conv => rhs; rw [← List.take_append_drop (n + 1) ds, List.flatMap_append, List.length_append]
        exact Nat.le_add_right _ _
      rw [grow, List.length_append, List.length_map] at h1
      omega
    refine ⟨fun n1 k H => k = (es d).length - n1 ∧ n1 ≤ (es d).length ∧ CR K H (m.push p) [.lst ((ds.take n).flatMap (fun d => (es d).map (f d)) ++ ((es d).take n1).map (f d))] ∧ Le (m.push p) H4 (m.push p) H, ⟨_, rfl, Nat.zero_le _, by simpa using C4, Le.refl _ _⟩, ?_⟩
    rintro n1 k H5 ⟨rfl, hn1, C5, l5⟩
    by_cases lt1 : n1 < (es d).length
    · refine .inr ⟨wk1.go n1 (m.push p) H5 _ l5 C5 lt1, fun H' => CR K H' (m.push p) [.lst ((ds.take n).flatMap (fun d => (es d).map (f d)) ++ ((es d).take (n1 + 1)).map (f d))] ∧ Le (m.push p) H4 (m.push p) H', fun H' w => ⟨(es d).length - (n1 + 1), by omega, rfl, lt1, w⟩, fun x1 H6 y1 => ?_⟩
      obtain ⟨e, hee, C6, l6, rx1⟩ := wk1.yld n1 (m.push p) H5 _ x1 H6 l5 C5 lt1 y1
      have S3 := (S2.step (l4.trans (l5.trans l6)) C6).wipe j
      have S4 := S3.set (i := j) rx1
      rw [show ((((ρ.set j none).set i none).set i (some d)).set j none).set j (some e) = (((ρ.set j none).set i none).set i (some d)).set j (some e) from List.set_set ..] at S4
      refine ⟨?_, m.push p, _, _, fun t c' => t = f d e ∧ c' = [.lst ((ds.take n).flatMap (fun d => (es d).map (f d)) ++ ((es d).take n1).map (f d))], S4, (he d dm e (List.mem_of_getElem? hee)).2 _ _ ⟨rfl, rfl⟩, fun t c' u H7 m7 ⟨et, ec⟩ C7 R7 l7 => ?_⟩
      · show (((((L2.wipe σ [i, j]).set i (some x)).set j none).set j (some x1)).set j none) = ((L2.wipe σ [i, j]).set i (some x)).set j none
        rw [List.set_set, List.set_set]
      subst et ec
      have em := CR.same (by simp [Ad.push, ix0]) C7 l7
      subst em
      obtain ⟨a, h5, xs, h6, h7⟩ := C7.at_ 0 _ rfl
      rw [last] at h5; cases h5
      have hx := rlen h7
      have zl : xs.length < sizeLine := by
        rw [hx, List.length_append, List.length_map, List.length_take]; omega
      have z := cell_put (o := .lst (xs ++ [u])) (ce := .lst (((ds.take n).flatMap (fun d => (es d).map (f d)) ++ ((es d).take n1).map (f d)) ++ [f d e])) C7 last ⟨_, upd_same, by show RL _ _ (hid (m.push p) _) _ _; rw [hid_mut inp]; exact RL.append h7 ⟨u, [], rfl, R7, rfl⟩⟩
      refine ⟨xs, h6, zl, ?_, (l5.trans (l6.trans l7)).trans z.2⟩
      have z1 := z.1
      rw [List.take_add_one, hee, Option.toList_some, List.map_append, ← List.append_assoc]
      exact z1
    · have e1 : n1 = (es d).length := by omega
      subst e1
      rw [List.take_length] at C5
      exact .inl ⟨wk1.stop _ (m.push p) H5 _ l5 C5 (Nat.le_refl _), by rw [grow]; exact C5, (l.trans (l2.trans l4)).trans l5⟩
  · have en : n = ds.length := by omega
    subst en
    rw [List.take_length] at C
    obtain ⟨C', _, ⟨xs, h4, h5⟩, hp1, hp2⟩ := CR.pop (c := []) C rfl
    exact .inl ⟨wk.stop _ (m.push p) H _ l C (Nat.le_refl _), q p H C' ⟨p, xs, rfl, by rw [hid_of ⟨hp1, hp2⟩]; exact h4, RL.low ex_pop (low_push C'.len) _ xs (okDs_flat fun d hd e he' => (he d hd e he').1) h5⟩ ⟨fun _ _ e => e, l.ex.trans ex_pop, rfl, l.hk' ex_pop, fun _ h => .inl h, l.al⟩⟩
section
variable {X : Cx} {iter iter1 elt : Expr} {te : TD} {pos tp tp1 : Pos} {ti tj : TDs} {scope : Scope} {x y : Str} {i j : Nat}
theorem pd_lc2 (hc : X.calm = true) (hN : X.N.Nodup) (hi : PID X (.Name x tp) iter ti) (ok : blkC X.N X.env.scope scope [(x, i), (y, j)] = true)
    (hg : ∀ (s : Shared) (H : Hp) (C : Addr) (cl : List (Str × Addr)) (fp : List Addr), PG (X.blk s H scope (compEnvC scope cl C X.env) fp) (.Name x tp) (gName i))
    (hi1 : ∀ (s : Shared) (H : Hp) (C : Addr) (cl : List (Str × Addr)) (fp : List Addr), PID (X.blk s H scope (compEnvC scope cl C X.env) fp) (.Name y tp1) iter1 tj)
    (hg1 : ∀ (s : Shared) (H : Hp) (C : Addr) (cl : List (Str × Addr)) (fp : List Addr), PG (X.blk s H scope (compEnvC scope cl C X.env) fp) (.Name y tp1) (gName j))
    (he : ∀ (s : Shared) (H : Hp) (C : Addr) (cl : List (Str × Addr)) (fp : List Addr), PD (X.blk s H scope (compEnvC scope cl C X.env) fp) elt te) (hs : ∀ x, foldedSetIterable iter X.env x = pure x := by intro _; rfl) (hs1 : ∀ env x, foldedSetIterable iter1 env x = pure x := by intro _ _; rfl) :
    PD X (.ListComp elt [⟨.Name x tp, iter, [], 0⟩, ⟨.Name y tp1, iter1, [], 0⟩] scope pos) (dLc2 ti i tj j te) :=
  PE.imp (pe_lc2 (own := [(x, i), (y, j)]) (vs1 := [j]) (te := lift X.K te) (wi1 := liftI X.K tj) hc hN hi (blkOk_by ok) (by simp) hg (fun _ _ _ _ _ => pts_nil) (fun s H C cl fp => hi1 s H C cl fp) hg1 (fun _ _ _ _ _ => pts_nil) (fun s H C cl fp => he s H C cl fp) hs hs1) fun σ H Q ⟨m, ρ, c, Φ, S, h, q⟩ =>
    ⟨m, ρ, c, _, S, h, fun ds c1 J H1 m1 ⟨es, f, ec, h1, h2, h3, h4⟩ C1 wk L1 => by
      subst ec
      exact lc2_walk wk (S.step L1 C1) h1 h2 h3 fun p H' C' R' l' => q _ [] _ H' m1 h4 C' R' (L1.trans l')⟩
end
end Cw

namespace Cw
open PySem PySem.Spec PyProof.Rows L2 PySem.Froz

/-! ### len(set(t)), sorted(set(l)) -/
def kD : Key → D
  | .inl i => .int i
  | .inr x => .str x
def keyD (k : List Key) : D := .tup (k.map kD)
theorem rl_keys {K : PySem.W.Frag} {ix : List Addr} {H : Hp} : ∀ {k : List Key} {xs : List V}, RL K ix H (k.map kD) xs → xs = k.map kV
  | [], _, h => h
  | .inl i :: k, _, ⟨x, r, e, h1, h2⟩ => by subst e; rw [rl_keys h2]; cases h1; rfl
  | .inr z :: k, _, ⟨x, r, e, h1, h2⟩ => by subst e; rw [rl_keys h2]; cases h1; rfl
theorem rl_rows {K : PySem.W.Frag} {ix : List Addr} {H : Hp} : ∀ {ks : List (List Key)} {xs : List V}, RL K ix H (ks.map keyD) xs → ∃ ms : List (Addr × List Key), xs = ms.map (fun m => .ref m.1) ∧ ms.map (·.2) = ks ∧ ∀ m ∈ ms, SqT K H m.1 (m.2.map kV)
  | [], _, h => ⟨[], h, rfl, fun m z => absurd z (by simp)⟩
  | k :: ks, _, ⟨x, r, e, ⟨b, ys, ex, h1, h2⟩, h3⟩ => by
    subst e ex
    obtain ⟨ms, e1, e2, e3⟩ := rl_rows h3
    have ey := rl_keys h2
    subst ey
    exact ⟨(b, k) :: ms, by rw [e1]; rfl, by rw [List.map_cons, e2], fun m z => by
      rcases List.mem_cons.mp z with e | z
      · subst e; exact h1
      · exact e3 m z⟩
def dLenSet (te : TD) : TD := fun ρ c Φ => te ρ c fun d c1 => ∃ ks : List (List Key), d = .tup (ks.map keyD) ∧ ks.Nodup ∧ ks.length < 64 ∧ Φ (.int ks.length) c1
section
variable {X : Cx} {e : Expr} {te : TD} {pos pp p1 p2 : Pos}
theorem pd_lenSet (hu : X.A.units + 64 < cLine) (hc : X.calm = true) (he : PD X e te) (hm : X.mg "len" = none) (hm2 : X.mg "set" = none) (hg : Gl X "len" := by rfl) (hg2 : Gl X "set" := by rfl)
    (h1 : starEach [e] X.env = (false, eval e X.env) :: starEach [] X.env := by rfl) (h2 : (backTo p1 (starEach [] X.env)).any (·.1) = false := by rfl)
    (h3 : starEach [.Call (.Name "set" p2) [e] [] p1] X.env = (false, eval (.Call (.Name "set" p2) [e] [] p1) X.env) :: starEach [] X.env := by rfl) (h4 : (backTo pos (starEach [] X.env)).any (·.1) = false := by rfl) :
    PD X (.Call (.Name "len" pp) [.Call (.Name "set" p2) [e] [] p1] [] pos) (dLenSet te) :=
  PE.imp (pe_callB call_lenSz hg hm boot_len (pa_cons (pe_callTy (call_setMx hc hu) hg2 hm2 boot_set (pa_cons he pa_nil h1) (by decide) (by decide) h1 h2) pa_nil h3) (by decide) (by decide) h3 h4) fun σ H Q ⟨m, ρ, c, Φ, S, h, q⟩ =>
    ⟨m, ρ, c, _, S, h, fun d c1 u H1 m1 ⟨ks, ed, nd, few, hΦ⟩ C1 R1 L1 => by
      subst ed
      obtain ⟨l, xs, eu, s1, s2⟩ := R1
      obtain ⟨ms, e1, e2, e3⟩ := rl_rows s2
      subst eu e1 e2
      rw [List.length_map] at few hΦ
      exact ⟨l, ms, rfl, ex_t (ex_hid m1 H1) s1, fun k hk => ex_t (ex_hid m1 H1) (e3 k hk), nd, few, fun a ha => ⟨a, ms.length, rfl, upd_same, few, q _ c1 _ _ m1 hΦ (C1.new ha) rfl (L1.trans (Le.new ha C1))⟩⟩⟩
end
/-! ### bool(x) of an object without a truth of its own -/
section
variable {prog : Program} {w : World} {A : Around} {E : Value → Shared → Prop} {s : Shared} {K : PySem.W.Frag} {x C : Addr} {ox : Obj} {od : Option Obj}
theorem tru_plain {Q : Bool → Shared → Prop} (X : K.In s.heap) (I : PySem.W.InstAt s.heap x ox C od) (hs : PySem.W.findIn K (.ref C) "__bool__" = some none) (hl : PySem.W.findIn K (.ref C) "__len__" = some none) (q : Q true s) : wpAny (model prog w) A (truthy (.ref x)) Q E s := by
  unfold truthy
  refine wpAny_bind (m := callSpecial? (.ref x) (Str.ofString "__bool__")) (wpAny_bind (wpAny_bind (I.type.here ((PySem.W.looks_findIn X hs).here (wpAny_pure ?_)))))
  refine wpAny_bind (wpAny_bind (I.type.here ((PySem.W.looks_findIn X hl).here ?_)))
  exact wp_if_pos (by rfl) (wpAny_pure q)
end
section
variable {X : Cx} {C : Addr} {e : Expr} {te : TD} {pos p : Pos}
theorem call_boolP (hn : PySem.W.findIn X.K (.ref C) "__bool__" = some none) (hs : PySem.W.findIn X.K (.ref C) "__len__" = some none) : CallR X (.type "bool") (fun xs H Q => ∃ a dx fs, xs = [.ref a] ∧ H a = some (.ins C dx fs) ∧ Q (.bl true) H) := by
  intro pins s σ H xs us Q I r ⟨a, dx, fs, ex, ha, q⟩
  subst ex
  obtain rfl := Vals.ref1 r
  obtain ⟨mA, J, _⟩ := ins_get I.hok ha
  obtain ⟨od, J, _⟩ := J.look
  exact bool_tru (tru_plain I.kIn J hn hs ⟨.bl true, H, I, rfl, q⟩)
def dBoolP (C : Addr) (te : TD) : TD := fun ρ c Φ => te ρ c fun d c1 => ∃ ns ds, d = .ins C ns ds ∧ Φ (.bl true) c1
theorem pd_boolP (hn : PySem.W.findIn X.K (.ref C) "__bool__" = some none) (hs : PySem.W.findIn X.K (.ref C) "__len__" = some none) (he : PD X e te) (hm : X.mg "bool" = none) (hg : Gl X "bool" := by rfl) (h1 : starEach [e] X.env = (false, eval e X.env) :: starEach [] X.env := by rfl) (h2 : (backTo pos (starEach [] X.env)).any (·.1) = false := by rfl) :
    PD X (.Call (.Name "bool" p) [e] [] pos) (dBoolP C te) := PE.imp (pe_callTy (call_boolP hn hs) hg hm (by decide +kernel) (pa_cons he pa_nil h1) (by decide) (by decide) h1 h2) fun σ H Q ⟨m, ρ, c, Φ, S, h, q⟩ =>
    ⟨m, ρ, c, _, S, h, fun d c1 u H1 m1 ⟨ns, ds, ed, hΦ⟩ C1 R1 L1 => by
      subst ed
      obtain ⟨a, dx, fs, eu, h3, _, _⟩ := R1
      subst eu
      exact ⟨a, dx, fs, rfl, ex_hid m1 H1 _ _ h3, q _ c1 _ H1 m1 hΦ C1 rfl L1⟩⟩
end
end Cw

namespace Cw
open PySem PySem.Spec PyProof.Rows L2 PySem.Froz

/-! ### t[::-1] of a tuple -/
section
variable {prog : Program} {w : World} {A : Around} {E : Value → Shared → Prop} {s : Shared}
end
section
variable {X : Cx} {e : Expr} {te : TD} {k : Nat} {p1 p2 p3 pos : Pos}
end
end Cw

namespace Cw
open PySem PySem.Spec PyProof.Rows L2

/-! ### a def called by keywords alone, in any order -/
section
variable {X : Cx} {CX : CXT} {k np : Nat} {f : Addr} {fd : FuncData} {ps ks : List Str} {S : Pm} {E : XK} {x : Str} {p pos : Pos} {kws : List Keyword} {tks : TDs} {sp : Sp} {tk : TA} {g : List Value → List Value → List Value} {gV : List V → List V → List V}
end

/-! ### str * int -/
section
variable {X : Cx} {a b : Expr} {ta tb : TD} {pos : Pos}
end

/-! ### s[::-1] of a str -/
section
variable {X : Cx} {e : Expr} {te : TD} {k : Nat} {p1 p2 p3 pos : Pos}
end
end Cw

namespace Cw
open PySem PySem.Spec PyProof.Rows L2

/-! ### for over a mutable list that no turn changes -/
section
variable {X : Cx} {tg iter : Expr} {ta : TD} {pos : Pos}
end

/-! ### name += e -/
section
variable {X : Cx} {te : TD} {e : Expr} {pos pos' : Pos} {x : Str} {i : Nat}
end

/-! ### while -/
section
variable {X : Cx} {e : Expr} {pos : Pos} {tc : TDt} {tb : TSD} {body : List Stmt}
end
end Cw

namespace Cw
open PySem PySem.Spec PyProof.Rows L2
open PySem.Sem (wp)

/-! ### enumerate of a tuple -/
section
variable {prog : Program} {w : World} {A : Around} {E : Value → Shared → Prop} {s : Shared}
end
section
variable {prog : Program} {w : World} {A : Around} {E : Value → Shared → Prop} {s : Shared}
end
section
variable {X : Cx} {e : Expr} {te : TD} {p pos tpos : Pos} {elts : List Expr} {kk : Nat}
end
end Cw

namespace Cw
open PySem PySem.Spec PyProof.Rows L2

/-! ### {k: v for x in ..}, keys texts or ints, each once -/
section
variable {X : Cx} {iter kx vx : Expr} {tk tv : TD} {tt : TDt} {pos pp tp : Pos} {ti : TDs} {ifs : List Expr} {scope : Scope} {x : Str} {i : Nat}
end

section
variable {X : Cx} {iter kx vx : Expr} {tk tv : TD} {tt : TDt} {pos pp tp : Pos} {ti : TDs} {ifs : List Expr} {scope : Scope} {x y : Str} {i j : Nat}
end

/-! ### d[k] -/
section
variable {X : Cx} {o i : Expr} {pos : Pos} {td ty : TD} {k : Nat}
end
end Cw

namespace Cw
open PySem PySem.Spec PyProof.Rows L2
section
variable {X : Cx}
end
section
variable {X : Cx} {e : Expr} {ta : TD} {pos pp : Pos}
end
/-! ### a + b, lists, as a new mutable list; list * int -/
section
variable {X : Cx} {a b : Expr} {ta tb : TD} {pos : Pos}
end
/-! ### a def that knows of no repr around it, nothing mutable handed in -/
section
variable {X : Cx} {k np : Nat} {f : Addr} {fd : FuncData} {ps : List Str} {S : Pm} {E : XK} {x : Str} {p pos : Pos} {e : Expr} {es : List Expr} {tas : TDs}
theorem pd_callPG (F : FnG X.prog X.w X.K X.mg X.base k f fd ps (spD X.K 0 np S)) (hgu : X.A.guards = some []) (hr : Room k X.A) (hm : X.mg x = some (.ref f)) (hk : PySem.W.keepIn X.K (.ref f) = true) (hb : Binds X.K fd ps []) (hx : Passes CX0 X E)
    (ha : PDs X (e :: es) tas) (hg : Gl X x := by rfl) (hdb : (x == ("__debug__" : Str)) = false := by decide) (he : starEach (e :: es) X.env = (false, eval e X.env) :: starEach es X.env := by rfl) (hpl : (backTo pos (starEach es X.env)).any (·.1) = false := by rfl) :
    PD X (.Call (.Name x p) (e :: es) [] pos) (dCallP S np tas) := PE.imp (pe_callG F hgu hr hg hm hk hb hx ha hdb he hpl) fun σ H Q ⟨m, ρ, c, Φ, S', h, q⟩ =>
    ⟨m, ρ, c, _, S', h, fun ds c1 vs H1 m1 ⟨hl, hc⟩ C1 R1 L1 => by show spD _ _ _ _ (_ ++ []) _ _ _; rw [List.append_nil]; exact sp_pure C1 R1 hl hc (KQ.le (K := X.K) q L1)⟩
end
end Cw

namespace Cw
open PySem PySem.Spec PyProof.Rows L2
/-! ### tuple * int, also by 0 and 1 -/
/-! the reading -/
section
variable {X : Cx} {a b : Expr} {ta tb : TD} {pos : Pos}
end
end Cw

/-! # Own exception classes under any of three roots; exceptions that are made and held as values -/
namespace PySem
namespace CwG
open PySem.W PySem.Calls PyProof.Rows PySem.HandSPX
/-- own classes, then the root's own line -/
def refsT (tl : List Value) : List Value → Bool
  | .ref _ :: r => refsT tl r
  | l => l == tl
structure RootOk (B nid iid : String) (tl : List Value) : Prop where
  base : ExcBaseFacts B nid iid tl
  pass : ∀ self, refuseLoop self "__setattr__" tl = pure ()
  obj : tl.contains (.type "object") = true
  hd : tl ≠ []
section
open Builtin Builtin.ObjectAttr
variable {prog : Program} {w : World} {A : Around} {E : Value → Shared → Prop} {R : Result → Shared → Prop} {hp : Heap} {g : Array GenState} {d : Drawn} {t : Nat} {os : OsState}
end
/-! ### C(..) by place or by keywords, C's own __init__ -/
section
variable {prog : Program} {w : World} {A : Around} {E : Value → Shared → Prop} {R : Result → Shared → Prop} {h : Heap} {g : Array GenState} {d : Drawn} {t : Nat} {os : OsState}
variable {nm q : Str} {C N : Addr} {bs bm bmB : List Value} {hdct : Bool} {sn : List Str} {sub : List Value} {ab : Bool} {col : Option Bool} {dd : Option Addr} {k0 k1 k2 k3 k5 : Option Value} {B newId initId : String}
end
end CwG
end PySem

namespace Cw
open PySem PySem.Spec PyProof.Rows L2

/-! ### a dict is locked, and unlocked -/
structure Exr (H H' : Hp) : Prop where
  rd : ∀ a u, (∀ od w, u ≠ .frz od w) → Rd H a u → Rd H' a u
  pl : ∀ a o, H a = some o → (∀ kvs, o ≠ .dK kvs) → (∀ od w, o ≠ .frz od w) → (∀ kvs, o ≠ .dT kvs) → H' a = some o
section
variable {K : PySem.W.Frag} {m : List Addr} {H H' : Hp}
end
section
variable {K : PySem.W.Frag} {m m' : Ad} {H H' : Hp} {σ : L2.St} {ρ : Env} {c c' : List Cell} {a : Addr} {u : HO}
end

/-! ### {k: v for x in d}, d a dict that stands -/
section
variable {X : Cx} {kx vx : Expr} {tk tv : TD} {pos pp tp : Pos} {scope : Scope} {x y : Str} {i j : Nat}
end

/-! ### [e for a, b, .. in ..] -/
section
variable {α : Type}
def setAll : List Nat → List α → List (Option α) → List (Option α)
  | i :: is, x :: xs, ρ => setAll is xs (ρ.set i (some x))
  | _, _, ρ => ρ
end
def wipeE (ρ : Env) : List Nat → Env
  | [] => ρ
  | v :: vs => (wipeE ρ vs).set v none
section
variable {K : PySem.W.Frag} {H : Hp} {m : Ad} {ρ : Env} {c : List Cell} {σ : L2.St}
end
section
variable {X : Cx} {iter elt : Expr} {te : TD} {tt : TDt} {pos tp : Pos} {ti : TDs} {ifs : List Expr} {scope : Scope} {own : List (Str × Nat)} {elts : List Expr} {kk : Nat}
end
end Cw

namespace Cw
open PySem PySem.Spec PyProof.Rows L2

/-! ### min(xs), max(xs) of a list of ints -/
section
variable {X : Cx} {e e2 o a b : Expr} {ta tb : TD} {pos pp apos : Pos}
/-! ### xs + ys as a new list that stands -/
/-! ### xs[::-1] of a list -/
/-! ### == of dicts of ints -/
/-! ### xs[i] += e, xs a mutable list of the def -/
/-! ### whether a list has items -/
/-! ### o.m(e, ..), o an instance that stands -/
end
end Cw

namespace Cw
open PySem PySem.Spec PyProof.Rows L2

/-! ### {k: [..] for x in ..}: the new dict is mutable, the values may be -/
section
variable {X : Cx} {iter kx vx : Expr} {tk tv : TD} {pos pp tp : Pos} {ti : TDs} {scope : Scope} {x y : Str} {i j : Nat}
end
end Cw

namespace Cw
open PySem PySem.Spec PyProof.Rows L2

/-! ### divmod by a wide divisor -/
section
variable {X : Cx} {e e2 : Expr} {ta tb : TD} {pos pp : Pos}
end
end Cw

namespace Cw
open PySem PySem.Spec PyProof.Rows L2
/-! ### sum(xs) of a list of ints -/
section
variable {X : Cx} {e e2 o a b : Expr} {ta tb : TD} {pos pp apos : Pos}
end
end Cw

namespace Cw
open PySem PySem.Spec PyProof.Rows L2
/-! ### [e for x in xs if ..] over a mutable list that stands -/
structure WalksC (K : PySem.W.Frag) (J : It) (m : Ad) (H : Hp) (ds : List D) (k : Nat) (all : List D) : Prop where
  go : ∀ (i : Nat) m' H' c', Le m H m' H' → CR K H' m' c' → c'[k]? = some (.lst all) → i < ds.length → J.go i H'
  stop : ∀ (i : Nat) m' H' c', Le m H m' H' → CR K H' m' c' → c'[k]? = some (.lst all) → ds.length ≤ i → J.stop i H'
  yld : ∀ (i : Nat) m' H' c' x H2, Le m H m' H' → CR K H' m' c' → c'[k]? = some (.lst all) → i < ds.length → J.yld i H' x H2 → ∃ d, ds[i]? = some d ∧ CR K H2 m' c' ∧ Le m' H' m' H2 ∧ RR K H2 m' d x
section
variable {X : Cx} {tg iter e elt : Expr} {ta te : TD} {tt : TDt} {pos pp tp : Pos} {ifs : List Expr} {scope : Scope} {x y : Str} {i j : Nat}
end
end Cw

namespace Cw
open PySem PySem.Spec PyProof.Rows L2
/-! ### dict(xs) of a list of pairs whose keys are tuples -/
section
variable {prog : Program} {w : World}
variable {A : Around} {E : Value → Shared → Prop}
end
section
variable {X : Cx}
end
end Cw

namespace Cw
open PySem PySem.Spec PyProof.Rows L2
/-! ### == of dicts whose keys are tuples -/
section
variable {prog : Program} {w : World} {A : Around} {E : Value → Shared → Prop} {s : Shared}
inductive KqT (A : Around) (s : Shared) (xb : List (List Key × Addr × Value)) : List (List Key × Addr × Value) → Bool → Prop
  | nil : KqT A s xb [] true
  | miss {k : List Key} {p : Addr × Value} {r} : atKey xb k = none → KqT A s xb ((k, p) :: r) false
  | hit {k : List Key} {p y : Addr × Value} {r} {e b : Bool} : atKey xb k = some y → SeqAt.EqAt A s p.2 y.2 e → KqT A s xb r b → KqT A s xb ((k, p) :: r) (e && b)
end
end Cw

namespace Cw
open PySem PySem.Spec PyProof.Rows L2
/-! ### dict([((a, b), v) for x in ..]) -/
end Cw

namespace Cw
open PySem PySem.Spec PyProof.Rows L2
/-! ### dict(..) of pairs -/
section
variable {X : Cx} {a b v : Expr} {ta tb tv : TD} {p1 p2 : Pos} {x1 x2 : Nat}
end
section
variable {X : Cx} {iter elt : Expr} {ta tb tv : TD} {pos pp tp cp : Pos} {ti : TDs} {scope : Scope} {x : Str} {i : Nat}
end
end Cw

namespace Cw
open PySem PySem.Spec PyProof.Rows L2
/-! ### d[k], d.get(k), d.get(k, x), list(d), d[k] = v; keys are tuples -/
section
variable {X : Cx} {o i e f : Expr} {pos apos cpos : Pos} {td ty ta tb tx : TD}
end
end Cw

namespace Cw
open PySem PySem.Spec PyProof.Rows L2
/-! ### d[a, b] = v -/
section
variable {X : Cx} {o i e value : Expr} {pos pos' : Pos} {td ta tb tv : TD} {k : Nat}
end
/-! ### a def that tells a list of dicts -/
section
variable {P : Program} {w : World} {K : PySem.W.Frag} {mg : Str → Option Value} {base : Heap}
end
end Cw

namespace Cw
open PySem PySem.Spec PyProof.Rows L2
/-! ### == of two dicts of ints whose keys are tuples -/
section
variable {prog : Program} {w : World} {A : Around} {E : Value → Shared → Prop} {s : Shared}
end
section
variable {X : Cx} {a b : Expr} {ta tb : TD} {pos : Pos}
end
end Cw

namespace Cw
open PySem PySem.Spec PyProof.Rows L2
/-! ### dict(xs) of a list of pairs whose keys are ints and texts -/
section
variable {X : Cx} {e : Expr} {ta : TD} {pos : Pos}
end
end Cw

namespace Cw
open PySem PySem.Spec PyProof.Rows L2
/-! ### k not in d -/
section
variable {X : Cx} {o i : Expr} {pos : Pos} {td ty : TD}
end
end Cw

/-! # Exceptions over data: what may be raised, beside what comes out -/
namespace Cw
open PySem PySem.Spec PyProof.Rows L2

/-- an exception that is raised: its class, its attributes -/
structure XD where
  C : Addr
  ns : List Str
  ds : List D
abbrev XW := XD → List Cell → Prop
abbrev TDX := Env → List Cell → (D → List Cell → Prop) → XW → Prop
structure DEX where
  nx : Env → List Cell → Prop
  rt : D → List Cell → Prop
  bk : Env → List Cell → Prop := fun _ _ => False
  ct : Env → List Cell → Prop := fun _ _ => False
  ex : XW := fun _ _ => False
def DEX.plain (De : DEX) : DEnds := ⟨De.nx, De.rt, De.bk, De.ct⟩
section
variable {X : Cx} {E : XK} {st : Stmt} {rest a b : List Stmt} {e cE iter tg : Expr} {pos : Pos} {t u : TSX} {ts : TSD} {ta : TD} {tx : TDX} {tA : TDt}
end

/-! ### own exceptions with one attribute -/
section
variable {X : Cx} {CX : CXT} {E : XK} {x f : Str} {e : Expr} {te : TD} {p pos pos' : Pos} {C fI : Addr} {k : Nat} {fd : FuncData} {ps : List Str}
end
section
variable {P : Program} {w : World} {K : PySem.W.Frag} {mg : Str → Option Value} {base : Heap}
end

/-! ### defs that may raise -/
section
variable {P : Program} {w : World} {K : PySem.W.Frag} {mg : Str → Option Value} {base : Heap}
end
section
variable {K : PySem.W.Frag} {m : Ad} {H : Hp} {c : List Cell}
end
section
variable {X : Cx} {E : XK} {k np : Nat} {f : Addr} {fd : FuncData} {ps : List Str} {S : Pmx} {x : Str} {p pos : Pos} {e : Expr} {es : List Expr} {tas : TDs}
end
/-! ### for loops that may raise -/
section
variable {X : Cx} {E : XK} {tg iter : Expr} {pos : Pos} {ti : TDs}
end
end Cw

/-! # Defs that are called while an exception is held, what they ask of it -/
namespace Cw
open PySem PySem.Spec PyProof.Rows L2

structure FnE (P : Program) (w : World) (K : PySem.W.Frag) (mg : Str → Option Value) (base : Heap) (k : Nat) (f : Addr) (fd : FuncData) (ps : List Str) (sp : Addr × Obj → Sp) : Prop where
  ln : ∀ p vs H Q E, sp p vs H Q E → vs.length = ps.length
  rn : ∀ (A : Around) (outer : List PySem.Env) (s : Shared) (H : Hp) (args : Args) (us : List Value) (vs : List V) (Q : VK) (E : XK) (p : Addr × Obj), L2H.RoomH k A → L2H.PinOk outer H s p → Env0 P w K mg base A outer s H → BindsTo s fd args (ps.zip us) → Vals vs us → sp p vs H Q E →
    codeAny (model P w) A (.call (.ref f) args) (L2.CR CX0 outer P w H s Q E) s
section
variable {P : Program} {w : World} {K : PySem.W.Frag} {mg : Str → Option Value} {base : Heap}
end

/-! ### calls of such defs -/
section
variable {X : Cx} {k np : Nat} {f : Addr} {fd : FuncData} {ps : List Str} {sp : Addr × Obj → Sp} {S : Addr × Obj → Pm} {p : Addr × Obj} {x : Str} {q pos : Pos} {e : Expr} {es : List Expr} {ta : TA} {tas : TDs}
end

/-! ### what is asked of the held exception -/
/-- the held exception's object: its class, its dict -/
structure HeldO (p : Addr × Obj) (dd C : Addr) : Prop where
  cls : p.2.cls = .ref C
  dict : p.2.dict = some dd
  flds : ∃ vs, p.2.data = .fields vs
/-- of which classes it is -/
structure ExcA (K : PySem.W.Frag) (C : Addr) : Prop where
  cl : (PySem.W.clsIn K C).isSome = true
  dc : PySem.W.hasDictIn K C = true
  ga : PySem.W.findIn K (.ref C) "__getattribute__" = some (some (.builtin "BaseException.__getattribute__"))
  gt : PySem.W.findIn K (.ref C) "__getattr__" = some none
  su : PySem.W.subIn K (.ref C) (.type "BaseException") = some true
  hc : PySem.W.findIn K (.ref C) "__class__" = some (some (.builtin "object.__class__"))
  hs : PySem.W.specialIn K (.builtin "object.__class__") "__get__" = some (some (.builtin "getset_descriptor.__get__"))
  ht : PySem.W.takesIn K (.builtin "object.__class__") = some true
  hm : PySem.W.mroIn K C (.type "object") = some true
section
variable {X : Cx} {pins : List (Addr × Obj)} {σ : L2.St} {H : Hp} {s : Shared} {p : Addr × Obj} {dd C : Addr}
variable {e e2 : Expr} {ta : TD} {pp pos : Pos}
end

/-! ### lists of booleans: count, index -/
/-! ### xs.count(e), xs.index(e) over booleans -/
section
variable {X : Cx} {o e : Expr} {ta tb : TD} {apos pos : Pos}
end
end Cw

/-! # try .. except (A, B, C) as n; a lambda that is handed to a def which calls it so -/
namespace Cw
open PySem PySem.Spec PyProof.Rows L2

/-! ### the catch of three classes -/
abbrev TSP := Addr × Obj → Value → Option Addr → TS
section
variable {X : Cx} {i : Nat} {n x1 x2 x3 : Str} {c1 c2 c3 : Value} {body suite : List Stmt} {b0 : Stmt} {tb : WX → TS} {ts : TSP} {q1 q2 q3 tp pos pos' : Pos} {kt : Nat}
end
end Cw

/-! # x(lambda: e), x the def that tells what a call raises or returns -/
namespace Cw
open PySem PySem.Spec PyProof.Rows L2

section
variable {X : Cx} {pins : List (Addr × Obj)} {σ : L2.St} {H : Hp} {s : Shared}
end
section
variable {K : PySem.W.Frag} {m : Ad} {H H1 : Hp} {σ : L2.St} {ρ : Env} {c : List Cell} {P c' : Addr}
end

/-! ### the def that tells -/
end Cw

/-! # The law's own entry with one table of code objects; a def whose code object is known -/
namespace Cw
open PySem PySem.Spec PyProof.Rows L2

structure FunC (K : PySem.W.Frag) (x qual : Str) (st : Stmt) (f : Addr) (fd : FuncData) (cd : Value) : Prop where
  ex : ∃ (oc : Value) (od : Option Addr) (dV kV doc pm : Value) (an : Option Addr) (ct : Value) (osl : Array (Option Value)),
    fd = PySem.W.fnOf x qual (defArgs st) (defBody st) (defScope st) dV kV doc pm an cd ct ∧ K.lookup f = some ⟨oc, od, .func fd, osl⟩ ∧ PySem.W.codeIn K cd qual = true
section
variable {P : Program} {w : World} {K : PySem.W.Frag} {mg : Str → Option Value} {base : Heap}
end

section
variable {P : Program} {w : World} {K : PySem.W.Frag} {mg mb : Str → Option Value} {k : Nat} {fa a : Addr} {fd : FuncData} {x : Str} {sp : Sp} {s₁ : Shared} {vs : List Value} {ns : List Int}
end
end Cw

/-! # Own exception classes as the written part tells them; comparisons while an exception is held -/
namespace Cw
open PySem PySem.Spec PyProof.Rows L2

section
variable {X : Cx} {a b : Expr} {ta tb : TD} {pos : Pos}
end
end Cw

/-! # isinstance(x, (A, B)); {} -/
namespace Cw
open PySem PySem.Spec PyProof.Rows L2
section
variable {X : Cx} {e e1 e2 : Expr} {ta : TD} {pos pp tp : Pos} {kt : Nat}
theorem pd_dict0 : PD X (.Dict [] [] pos) (dC (.dct [] [])) := PE.imp pe_dnewK fun σ H Q ⟨m, ρ, c, Φ, S, h, q⟩ p hp =>
  q _ c _ _ m h (S.cr.new hp) ⟨p, [], rfl, .inl (new_at hp S.cr), rfl, rfl⟩ (Le.new hp S.cr)
end
end Cw

/-! # try .. several clauses `except A as n` -/
namespace Cw
open PySem PySem.Spec PyProof.Rows L2
inductive ClsN (X : Cx) (n : Str) : List ExceptHandler → List (Value × TSP) → Prop
  | nil : ClsN X n [] []
  | cons {x : Str} {c : Value} {ts : TSP} {b0 : Stmt} {suite : List Stmt} {np pos' : Pos} {hds : List ExceptHandler} {l : List (Value × TSP)} (g : Gl X x) (m : X.mg x = some c) (dbg : (x == ("__debug__" : Str)) = false)
      (hsu : ∀ (p : Addr × Obj) (cls : Value) (d : Option Addr) (pn : List (Addr × Obj)), Zc cls d p.2 → (∃ vs, p.2.data = .fields vs) → PSs (X.suite p.1 (p :: pn)) (b0 :: suite) (ts p cls d)) (r : ClsN X n hds l) :
      ClsN X n (.ExceptHandler (some (.Name x np)) (some n) (b0 :: suite) pos' :: hds) ((c, ts) :: l)
section
variable {X : Cx} {i : Nat} {n : Str} {body : List Stmt} {h0 : ExceptHandler} {hds : List ExceptHandler} {l : List (Value × TSP)} {tb : WX → TS} {pos : Pos}
end
end Cw

/-! # x(lambda: e), x the def that tells by clauses what a call raises -/
namespace Cw
open PySem PySem.Spec PyProof.Rows L2
end Cw

/-! # repr, of an empty dict too -/
namespace Cw
open PySem PySem.Spec PyProof.Rows L2
section
variable {X : Cx}
end
section
variable {X : Cx} {e : Expr} {ta : TD} {pos pp : Pos}
end
/-! # f(k=x, ..) that may raise -/
section
variable {X : Cx} {E : XK} {k np : Nat} {f : Addr} {fd : FuncData} {ps ks : List Str} {S : Pmx} {x : Str} {p pos : Pos} {kws : List Keyword} {tks : TDs} {is : List Nat}
end
/-! # a clause's suite: the class is known by the reading; a clause that takes nothing -/
section
variable {X : Cx} {st : List Stmt} {p : Addr × Obj} {C : Addr} {t : Addr → TSD}
end
end Cw

/-! # static methods called on their class: C.m(..), C.m(), C.m(k=..), which may raise -/
namespace Cw
open PySem PySem.Spec PyProof.Rows L2
/-- C.m is a static method: its record at p, its def at g -/
structure SMet (K : PySem.W.Frag) (C : Addr) (mc : Value) (m : Str) (p g : Addr) : Prop where
  rd : ClX.CRead K C mc
  at_ : PySem.W.findCls K (.ref C) mc m = some (.get (.builtin "staticmethod.__get__") (.ref p) .none (.ref C))
  rc : ∃ rest, PySem.W.recIn K p "staticmethod" = some (.ref g :: rest)
  kp : PySem.W.keepIn K (.ref g) = true
section
variable {X : Cx} {pins : List (Addr × Obj)} {σ : L2.St} {H : Hp} {s : Shared} {C p g : Addr} {mc : Value} {m : Str} {A : Around} {E : Value → Shared → Prop}
end
section
variable {X : Cx} {CX : CXT} {k : Nat} {C p g : Addr} {mc : Value} {sp : Sp} {E : XK} {o e : Expr} {es : List Expr} {m : Str} {pos apos : Pos} {ta : TE} {t tk : TA} {pl : Sem Bool} {fd : FuncData} {ps ks : List Str} {ds : List Value} {dvs : List V} {kws : List Keyword} {gg : List Value → List Value → List Value} {gV : List V → List V → List V}
end
/-! ### over data -/
section
variable {X : Cx} {E : XK} {CX : CXT} {k np : Nat} {C p g : Addr} {mc : Value} {fd : FuncData} {ps ks : List Str} {S : Pm} {Sx : Pmx} {x m : Str} {xp pos apos : Pos} {e : Expr} {es : List Expr} {tas tks : TDs} {pl : Sem Bool} {ds : List Value} {dd : List D} {dvs : List V} {kws : List Keyword}
end
end Cw

/-! # f'{n:+d}', f'{a}{b} c', static methods that raise nothing -/
namespace Cw
open PySem PySem.Spec PyProof.Rows L2 PySem.W
section
variable {X : Cx} {a b : Expr} {ta tb : TD} {pos : Pos}
end
/-! ### static methods that raise nothing -/
section
variable {X : Cx} {E : XK} {CX : CXT} {k np : Nat} {C p g : Addr} {mc : Value} {fd : FuncData} {ps ks : List Str} {S : Pm} {x m : Str} {xp pos apos : Pos} {e : Expr} {es : List Expr} {tas tks : TDs} {pl : Sem Bool} {ds : List Value} {dd : List D} {dvs : List V} {kws : List Keyword}
end
end Cw

/-! # repr of data with dicts in it -/
namespace Cw
open PySem PySem.Spec PyProof.Rows L2
def keyPy : Key → PyData
  | .inl i => .int i
  | .inr x => .str x
mutual
inductive DpG (K : PySem.W.Frag) (H : Hp) : V → PyData → Prop
  | non : DpG K H .non .none
  | bl (b : Bool) : DpG K H (.bl b) (.bool b)
  | int (i : Int) : DpG K H (.int i) (.int i)
  | str (x : Str) : DpG K H (.str x) (.str x)
  | lst {a : Addr} {xs : List V} {ds : List PyData} (h : SqL K H a xs) (r : DpGs K H xs ds) : DpG K H (.ref a) (.list ds)
  | tup {a : Addr} {xs : List V} {ds : List PyData} (h : SqT K H a xs) (r : DpGs K H xs ds) : DpG K H (.ref a) (.tuple ds)
  | dct {a : Addr} {kvs : List (Key × V)} {ps : List (PyData × PyData)} (h : Rd H a (.dK kvs)) (hk : ps.map (·.1) = kvs.map fun kv => keyPy kv.1) (r : DpGs K H (kvs.map (·.2)) (ps.map (·.2))) : DpG K H (.ref a) (.dict ps)
inductive DpGs (K : PySem.W.Frag) (H : Hp) : List V → List PyData → Prop
  | nil : DpGs K H [] []
  | cons {v : V} {vs : List V} {d : PyData} {ds : List PyData} (h : DpG K H v d) (r : DpGs K H vs ds) : DpGs K H (v :: vs) (d :: ds)
end
section
variable {P : Program} {w : World} {h : Heap}
end
section
variable {X : Cx} {pins : List (Addr × Obj)} {σ : L2.St} {H : Hp} {s : Shared}
end
section
variable {A : Around} {E : Value → Shared → Prop} {s : Shared} {Q : Value → Shared → Prop} {P : Program} {w : World}
end
structure ShowG (p : PyData) : Prop where
  sh : p.showable = true
  dp : p.depth ≤ 60
  sz : p.shown.length ≤ sizeLine
section
variable {X : Cx}
end
/-! ### over data -/
section
variable {K : PySem.W.Frag} {m : List Addr} {H : Hp}
end
section
variable {X : Cx} {e : Expr} {ta : TD} {pos pp : Pos}
end
end Cw

/-! # defs with defaults -/
namespace Cw
open PySem PySem.Spec PyProof.Rows L2
section
variable {P : Program} {w : World} {K : PySem.W.Frag} {mg : Str → Option Value} {base : Heap} {x qual : Str} {st : Stmt} {f : Addr} {fd : FuncData} {N ps ks : List Str} {k n0 : Nat} {dvs : List V} {kws : List (Str × V)}
end
end Cw

/-! # dict(zip(text, row)) -/
namespace Cw
open PySem PySem.Spec PyProof.Rows L2
section
variable {P : Program} {w : World} {A : Around} {E : Value → Shared → Prop} {s : Shared} {zp TI TO i1 i2 T : Addr} {fp1 fp2 : List Addr} {n1 n2 i : Nat} {P1 P2 : Nat → Value → Prop} {St1 St2 : Nat → Heap → Prop} {f : Bool} {oT : Obj}
end
structure ZApart (zp TI TO i1 i2 l : Addr) : Prop where
  sep : ZipSep2 zp TI TO i1 i2 [i1] [i2, l]
  li2 : l ≠ i2
section
variable {X : Cx}
end
end Cw

/-! # methods that may raise: o.m(e, ..), o.m(k=e, ..) -/
namespace Cw
open PySem PySem.Spec PyProof.Rows L2 PySem.W
section
variable {X : Cx} {CX : CXT} {k : Nat} {C f : Addr} {sp : Sp} {E : XK} {o : Expr} {m : Str} {pos apos : Pos} {ta : TE} {tk : TA} {pl : Sem Bool} {fd : FuncData} {ps ks : List Str} {kws : List Keyword} {gg : List Value → List Value → List Value} {gV : List V → List V → List V}
end
section
variable {X : Cx} {E : XK} {k np : Nat} {f C : Addr} {fd : FuncData} {ps ks : List Str} {S : Pmx} {m : Str} {o e : Expr} {es : List Expr} {ta : TD} {tas tks : TDs} {pl : Sem Bool} {pos apos : Pos} {kws : List Keyword}
end
/-! ### min(row) of a tuple of ints -/
section
variable {X : Cx} {e : Expr} {ta : TD} {pos pp : Pos}
end
end Cw

/-! # defs that may raise and are handed cells; C(e) whose __init__ may raise; f(e) where e may raise -/
namespace Cw
open PySem PySem.Spec PyProof.Rows L2 PySem.W
section
variable {P : Program} {w : World} {K : PySem.W.Frag} {mg : Str → Option Value} {base : Heap}
end
section
variable {K : PySem.W.Frag} {m : Ad} {H : Hp} {c : List Cell}
end
section
variable {X : Cx} {k np : Nat} {f C : Addr} {fd : FuncData} {ps ks : List Str} {S : Pmy} {E : XK} {x : Str} {p pos : Pos} {e : Expr} {es : List Expr} {kws : List Keyword} {tas tks : TDs}
end
section
variable {X : Cx} {CX : CXT} {k : Nat} {f : Addr} {fd : FuncData} {ps : List Str} {S : Pm} {E E' : XK} {x : Str} {p pos : Pos} {e : Expr} {tx : TDX}
end
end Cw

/-! # t.split(s) as a new list that may change; none among rows; {"a": x} -/
namespace Cw
open PySem PySem.Spec PyProof.Rows L2 PySem.W
section
variable {X : Cx} {o e : Expr} {ta tb : TD} {pos apos : Pos}
end
end Cw

/-! # {"a": x} -/
namespace Cw
open PySem PySem.Spec PyProof.Rows L2 PySem.W
section
variable {X : Cx} {pos p1 p2 : Pos} {k x : Str} {j : Nat} {kk : Nat}
end
end Cw

namespace Cw
open PySem PySem.Spec PyProof.Rows L2 PySem.Froz

/-! ### len(set(t)) of rows among which some may be alike; len(set(l)) of texts -/
section
variable {P : Program} {w : World} {A : Around} {E : Value → Shared → Prop} {s : Shared} {a : Addr} {L : List (Addr × List Key)} {es : Array (Int × Value)} {ep : Nat} {t : SetTable}
end
section
variable {X : Cx}
end
section
variable {X : Cx} {e : Expr} {te : TD} {pos pp p1 p2 : Pos}
end
end Cw

namespace Cw
open PySem PySem.Spec PyProof.Rows L2

/-! ### zip(l, t) of a list and a tuple, under a target of two names -/
structure ZSep (zp TI TO i1 i2 l1 l2 : Addr) : Prop where
  sep : ZipSep2 zp TI TO i1 i2 [i1, l1] [i2, l2]
  n1 : l1 ≠ i1
  n2 : l2 ≠ i2
section
variable {X : Cx} {e e2 : Expr} {ta : TDs} {p pos tpos : Pos} {elts : List Expr} {kk : Nat}
end
/-! ### l.insert(i, x) -/
section
variable {X : Cx} {o e1 e2 : Expr} {to ti te : TD} {pos apos : Pos}
end
/-! ### y = [e for a, b in .. if ..] -/
section
variable {X : Cx} {iter elt : Expr} {te : TD} {tt : TDt} {pos tp : Pos} {ti : TDs} {ifs : List Expr} {scope : Scope} {own : List (Str × Nat)} {elts : List Expr} {kk j : Nat} {y : Str}
end
end Cw

/-! # C(..) as a value, isinstance of it, its attributes: own exception classes under three roots -/
namespace Cw
open PySem PySem.Spec PyProof.Rows L2

structure OexG (K : PySem.W.Frag) (C : Addr) : Prop where
  cls : ∃ B nid iid tl nm q N bs bm sn sub ab col dd k0 k1 k2 k3 k5, CwG.RootOk B nid iid tl ∧ K.lookup C = some (excClassObj nm q C N bs bm true sn sub ab col dd k0 k1 k2 k3 k5 nid) ∧ CwG.refsT tl bm = true
  sa : PySem.W.findIn K (.ref C) "__setattr__" = some (some (.builtin "object.__setattr__"))
  kC : PySem.W.keepIn K (.ref C) = true
section
variable {X : Cx} {pins : List (Addr × Obj)} {σ : L2.St} {H : Hp} {s : Shared} {a C dx : Addr} {f : Str} {y : V} {u : Value} {fs : List (Str × V)} {Q : Unit → Shared → Prop} {E : Value → Shared → Prop} {A : Around}
end
section
variable {P : Program} {w : World} {K : PySem.W.Frag} {mg : Str → Option Value} {base : Heap}
end
/-! ### C(..) -/
section
variable {X : Cx} {k n : Nat} {C fI : Addr} {fd : FuncData} {ps ks ns : List Str} {g : List Value → List Value → List Value} {gV : List V → List V → List V}
end
section
variable {X : Cx} {k : Nat} {C fI : Addr} {fd : FuncData} {ps ks ns : List Str} {x : Str} {p pos : Pos} {e : Expr} {es : List Expr} {kws : List Keyword} {ta tk : TA}
end
section
variable {K : PySem.W.Frag} {m : Ad} {H : Hp} {c : List Cell}
end
section
variable {X : Cx} {k : Nat} {C fI : Addr} {fd : FuncData} {ps ks ns : List Str} {x : Str} {p pos : Pos} {e : Expr} {es : List Expr} {kws : List Keyword} {tas tks : TDs}
end
/-! ### what is asked of it -/
section
variable {X : Cx} {pins : List (Addr × Obj)} {σ : L2.St} {H : Hp} {s : Shared} {a C : Addr} {od : Option Addr} {fs : List (Str × V)}
end
section
variable {X : Cx} {e e2 : Expr} {ta : TD} {pp pos : Pos}
end
end Cw

/-! # Own exception classes as the written part tells them: by one run each -/
namespace Cw
open PySem PySem.Spec PyProof.Rows L2

end Cw
namespace Cw
open PySem PySem.Spec PyProof.Rows L2 PySem.W
section
variable {X : Cx} {pos p1 p2 : Pos} {k : Str} {i : Int}
end
end Cw
namespace Cw
open PySem PySem.Spec PyProof.Rows L2 PySem.W
section
variable {X : Cx} {CX : CXT} {k : Nat} {f : Addr} {fd : FuncData} {ps : List Str} {S : Pm} {E : XK} {x : Str} {p pos : Pos}
end
end Cw

/-! # Objects that hold a mutable part: defs whose new cells stay, calls that hand one cell in wherever it stands -/
namespace Cw
open PySem PySem.Spec PyProof.Rows L2

/-! ### cells by other numbers -/
def Ren0 (f : Nat → Nat → Prop) (d d' : D) : Prop := (okD 0 d = true ∧ d' = d) ∨ ∃ k k', d = .cell k ∧ d' = .cell k' ∧ f k k'
inductive Ren0s (f : Nat → Nat → Prop) : List D → List D → Prop
  | nil : Ren0s f [] []
  | cons {d d' : D} {ds ds' : List D} (h : Ren0 f d d') (t : Ren0s f ds ds') : Ren0s f (d :: ds) (d' :: ds')
def Ren1 (f : Nat → Nat → Prop) (d d' : D) : Prop := Ren0 f d d' ∨ ∃ C ns es es', d = .ins C ns es ∧ d' = .ins C ns es' ∧ Ren0s f es es'
inductive Ren1s (f : Nat → Nat → Prop) : List D → List D → Prop
  | nil : Ren1s f [] []
  | cons {d d' : D} {ds ds' : List D} (h : Ren1 f d d') (t : Ren1s f ds ds') : Ren1s f (d :: ds) (d' :: ds')
section
variable {K : PySem.W.Frag} {ix ix' : List Addr} {H H' : Hp} {f : Nat → Nat → Prop}
end
/-! ### one cell is handed in, wherever it stands -/
section
variable {K : PySem.W.Frag} {m : Ad} {H : Hp} {c : List Cell}
end
/-! ### defs whose new cells stay -/
section
variable {P : Program} {w : World} {K : PySem.W.Frag} {mg : Str → Option Value} {base : Heap}
end
section
variable {K : PySem.W.Frag} {m : Ad} {H : Hp} {c : List Cell}
end
end Cw

/-! # Tuples that stand tracked as keys; dicts of texts as cells; calls by the rules of CwZd -/
namespace Cw
open PySem PySem.Spec PyProof.Rows L2 PySem.W

/-! ### keys -/
section
variable {X : Cx} {es : List Expr} {tas : TDs} {pos pos' : Pos} {o i value : Expr} {td ty tv : TD} {k : Nat}
end
/-! ### new dicts as cells -/
section
variable {X : Cx} {pos p1 p2 : Pos}
end
/-! ### dicts of texts -/
section
variable {X : Cx} {pos pos' apos cpos pp : Pos} {o i e f value : Expr} {td ty tv ta tb tx : TD} {k : Nat}
end
/-! ### calls -/
section
variable {X : Cx} {CX : CXT} {k np : Nat} {f C : Addr} {fd : FuncData} {ps : List Str} {S : Pm} {E : XK} {x : Str} {p pos apos : Pos} {e o : Expr} {es : List Expr} {ta : TD} {tas : TDs}
end
end Cw

/-! # zip of two lists, of two tuples; enumerate of a list -/
namespace Cw
open PySem PySem.Spec PyProof.Rows L2
section
variable {X : Cx} {e e2 : Expr} {ta : TDs} {te : TD} {p pos tpos : Pos} {elts : List Expr} {kk : Nat}
end
end Cw

namespace Cw
open PySem PySem.Spec PyProof.Rows L2
/-! ### k in d -/
section
variable {X : Cx} {o i : Expr} {pos : Pos} {td ty : TD}
end
end Cw

/-! # [e for a, b in .. for c, d in .. if ..], with cells around it -/
namespace Cw
open PySem PySem.Spec PyProof.Rows L2
def flF (E : D → List D) (B : D → D → Bool) (f : D → D → D) (ds : List D) : List D := ds.flatMap fun d => ((E d).filter (B d)).map (f d)
structure lcG (ds : List D) (is js vs : List Nat) (uo ui : D → List D → Prop) (tj : TDs) (tt : TDt) (te : TD) (ρ : Env) (c : List Cell) (E : D → List D) (F : D → List D) (G : D → D → List D) (B : D → D → Bool) (f : D → D → D) : Prop where
  ok : okCs c.length c = true
  out : ∀ d ∈ ds, uo d (F d)
  it : ∀ d ∈ ds, ∀ acc (Ψ : List D → List Cell → Prop), okDs c.length acc = true → Ψ (E d) (c ++ [.lst acc]) → tj (setAll is (F d) (wipeE ρ vs)) (c ++ [.lst acc]) Ψ
  inn : ∀ d ∈ ds, ∀ e ∈ E d, ui e (G d e)
  ts : ∀ d ∈ ds, ∀ e ∈ E d, ∀ acc (Ψ : Bool → List Cell → Prop), okDs c.length acc = true → Ψ (B d e) (c ++ [.lst acc]) → tt (setAll js (G d e) (wipeE (setAll is (F d) (wipeE ρ vs)) js)) (c ++ [.lst acc]) Ψ
  okf : ∀ d ∈ ds, ∀ e ∈ E d, B d e = true → okD c.length (f d e) = true
  el : ∀ d ∈ ds, ∀ e ∈ E d, B d e = true → ∀ acc (Ψ : D → List Cell → Prop), okDs c.length acc = true → Ψ (f d e) (c ++ [.lst acc]) → te (setAll js (G d e) (wipeE (setAll is (F d) (wipeE ρ vs)) js)) (c ++ [.lst acc]) Ψ
  sz : (flF E B f ds).length ≤ sizeLine
section
variable {X : Cx} {iter iter1 elt tg tg1 : Expr} {te : TD} {tt : TDt} {pos : Pos} {ti tj : TDs} {ifs : List Expr} {scope : Scope} {go gi : TG} {uo ui : D → List D → Prop} {is js vs : List Nat} {own : List (Str × Nat)}
end
end Cw

/-! # xs.index(e) over integers -/
namespace Cw
open PySem PySem.Spec PyProof.Rows L2
section
variable {X : Cx} {o e : Expr} {ta tb : TD} {apos pos : Pos}
end
/-! ### reversed(range(n)) -/
section
variable {X : Cx} {tg e : Expr} {ta : TD} {p p2 pos pos2 : Pos}
end
end Cw

/-! # a <= b < c -/
namespace Cw
open PySem PySem.Spec PyProof.Rows L2
section
variable {X : Cx} {a b cE : Expr} {ta tb tc : TD} {pos : Pos}
end
end Cw

/-! # sum(t) of a tuple; sorted(rows, key=sum); sorted of (int, tuple of ints) -/
namespace Cw
open PySem PySem.Spec PyProof.Rows L2 PySem.W
/-! ### over values -/
section
variable {X : Cx}
/-! ### pairs of an int and a tuple of ints -/
end
/-! ### as readings -/
section
variable {X : Cx} {e : Expr} {ta : TD} {pos pp sp kp : Pos}
/-! ### sorted(e, key=sum) -/
end
end Cw

/-! # ys = [e for a in .. for b in ..] -/
namespace Cw
open PySem PySem.Spec PyProof.Rows L2
section
variable {X : Cx} {iter iter1 elt : Expr} {x y z : Str} {tp tp1 : Pos} {te : TD} {pos : Pos} {ti tj : TDs} {i j k : Nat} {scope : Scope}
end
end Cw

/-! # raise C(x), C under any of the three roots; x(lambda: e), x the def that tells by clauses what a call raises or returns -/
namespace Cw
open PySem PySem.Spec PyProof.Rows L2
structure OexR (K : PySem.W.Frag) (C : Addr) : Prop where
  g : OexG K C
  exC : PySem.W.subIn K (.ref C) (.type "BaseException") = some true
  tyC : PySem.W.typeIn K (.ref C) = some (.type "type")
section
variable {X : Cx} {CX : CXT} {E : XK} {x f : Str} {e : Expr} {es : List Expr} {te : TD} {ta : TA} {p pos pos' : Pos} {C fI : Addr} {k : Nat} {fd : FuncData} {ps : List Str}
end
section
variable {P : Program} {w : World} {K : PySem.W.Frag} {mg : Str → Option Value} {base : Heap}
end
/-! ### what a call tells, or what it raises -/
end Cw

/-! # {k: v for x in ..}, keys tuples that stand tracked -/
namespace Cw
open PySem PySem.Spec PyProof.Rows L2
section
variable {X : Cx} {pins : List (Addr × Obj)} {σ : L2.St} {H : Hp} {s : Shared} {E : Value → Shared → Prop}
end
section
variable {X : Cx} {pins : List (Addr × Obj)} {s : Shared} {σ : L2.St} {H : Hp} {Q : VK} {kx vx tg iter : Expr} {scope : Scope} {own : List (Str × Nat)} {pos pos' : Pos} {wi : TI} {g : TG} {tk tv : TE} {use : Option (Value → Sem Unit)} {Qf : Value → Shared → Prop}
end
/-! ### as readings -/
section
variable {X : Cx} {iter kx vx : Expr} {tk tv : TD} {pos pp tp : Pos} {ti : TDs} {scope : Scope} {x : Str} {i n : Nat}
end
end Cw

/-! # Tuples that stand tracked: as plain ones, added, sorted by their sums; for a, b in d.items(), d with tuple keys -/
namespace Cw
open PySem PySem.Spec PyProof.Rows L2 PySem.W
/-! ### sorted(rows, key=sum), rows that stand tracked -/
/-! ### the items of a locked dict -/
section
variable {X : Cx} {e : Expr} {te : TE} {apos cpos : Pos}
end
/-! ### over data -/
section
variable {X : Cx} {E : XK} {e : Expr} {tx : TDX} {apos cpos pos tpos : Pos} {elts : List Expr} {kk : Nat}
end
end Cw

/-! # x *= e; f(a, b, e) where e may raise and f doesn't -/
namespace Cw
open PySem PySem.Spec PyProof.Rows L2
section
variable {X : Cx} {e : Expr} {te : TD} {pos pos' : Pos} {i : Nat} {x : Str}
end
section
variable {X : Cx} {CX : CXT} {k : Nat} {f : Addr} {fd : FuncData} {ps : List Str} {S : Pm} {E E' : XK} {x : Str} {p pos : Pos} {a b e : Expr} {ta tb : TD} {tx : TDX}
end
end Cw

/-! # [e for x in d if t], d a name of a dict with tuple keys -/
namespace Cw
open PySem PySem.Spec PyProof.Rows L2
section
variable {X : Cx} {elt : Expr} {te : TD} {tt : TDt} {ifs : List Expr} {pos pp tp : Pos} {scope : Scope} {x y : Str} {i j : Nat}
end
/-! # great factors, int(bool) -/
section
variable {X : Cx} {a b e : Expr} {ta tb te : TD} {pos pos' pp : Pos} {i : Nat} {x : Str}
end
/-! # a, b = f(..), e where f may raise -/
section
variable {X : Cx} {E : XK} {a b e tg : Expr} {tb : TD} {tx : TDX} {g : TGD} {pos : Pos} {kt : Nat}
end
/-! # f(..) that may raise, and does not here -/
end Cw

/-! # what may raise, within more: f(..) is None, all(..), for a, b in f(..), [.. for a, b in f(..)] -/
namespace Cw
open PySem PySem.Spec PyProof.Rows L2
section
variable {X : Cx} {E : XK} {a b e elt iter tg : Expr} {tb te : TD} {tt : TDt} {tx : TDX} {pos pp tp : Pos} {g : TGD} {ts : TSD} {elts ifs : List Expr} {kk : Nat} {scope : Scope} {own : List (Str × Nat)}
end
end Cw

/-! # raise C() of a class without own __init__; several clauses, some `except C:` without a name -/
namespace Cw
open PySem PySem.Spec PyProof.Rows L2
/-! ### max(row) of a tuple of ints; tuple(list) as a tuple that stands tracked -/
section
variable {X : Cx} {e : Expr} {ta : TD} {pos pp : Pos}
end
/-! ### f(..), g(..), both may raise -/
/-! ### raise C() -/
section
variable {X : Cx} {E : XK} {C : Addr} {bmB : List Value} {B newId initId : String} {x : Str} {p pos pos' : Pos}
end
/-! ### clauses -/
inductive ClsM (X : Cx) (n : Str) : List ExceptHandler → List (Value × Bool × TSP) → Prop
  | nil : ClsM X n [] []
  | named {x : Str} {c : Value} {ts : TSP} {b0 : Stmt} {suite : List Stmt} {np pos' : Pos} {hds : List ExceptHandler} {l : List (Value × Bool × TSP)} (g : Gl X x) (m : X.mg x = some c) (dbg : (x == ("__debug__" : Str)) = false)
      (hsu : ∀ (p : Addr × Obj) (cls : Value) (d : Option Addr) (pn : List (Addr × Obj)), Zc cls d p.2 → (∃ vs, p.2.data = .fields vs) → PSs (X.suite p.1 (p :: pn)) (b0 :: suite) (ts p cls d)) (r : ClsM X n hds l) :
      ClsM X n (.ExceptHandler (some (.Name x np)) (some n) (b0 :: suite) pos' :: hds) ((c, true, ts) :: l)
  | plain {x : Str} {c : Value} {ts : TSP} {b0 : Stmt} {suite : List Stmt} {np pos' : Pos} {hds : List ExceptHandler} {l : List (Value × Bool × TSP)} (g : Gl X x) (m : X.mg x = some c) (dbg : (x == ("__debug__" : Str)) = false)
      (hsu : ∀ (p : Addr × Obj) (cls : Value) (d : Option Addr) (pn : List (Addr × Obj)), Zc cls d p.2 → (∃ vs, p.2.data = .fields vs) → PSs (X.suite p.1 (p :: pn)) (b0 :: suite) (ts p cls d)) (r : ClsM X n hds l) :
      ClsM X n (.ExceptHandler (some (.Name x np)) none (b0 :: suite) pos' :: hds) ((c, false, ts) :: l)
section
variable {X : Cx} {i : Nat} {n : Str} {body : List Stmt} {h0 : ExceptHandler} {hds : List ExceptHandler} {l : List (Value × Bool × TSP)} {tb : WX → TS} {pos : Pos}
end
/-! ### what a call tells, or what it raises: clauses with and without names -/
end Cw

/-! # for x in zip(a, b): the pair stays with the name -/
namespace Cw
open PySem PySem.Spec PyProof.Rows L2 RZ
section
variable {t1 : Bool} {prog : Program} {w : World} {A : Around} {E : Value → Shared → Prop} {s : Shared}
end
section
variable {X : Cx} {e e2 : Expr} {ta : TDs} {p pos tpos : Pos} {x : Str}
end
end Cw

/-! # d[k] += e, d a cell of a dict of texts, ints within; d.get(k, x) by a tuple that stands tracked -/
namespace Cw
open PySem PySem.Spec PyProof.Rows L2
section
variable {X : Cx} {pos tpos apos cpos : Pos} {o i e f : Expr} {td ty te tx : TD} {k : Nat}
end
/-! ### walks over the keys of a dict of texts -/
section
variable {X : Cx} {elt : Expr} {te : TD} {tt : TDt} {ifs : List Expr} {pos pp tp : Pos} {scope : Scope} {x y : Str} {i j : Nat}
end
/-! ### y = {k: v for x in d} -/
section
variable {X : Cx} {kx vx : Expr} {tk tv : TD} {pos pp tp : Pos} {scope : Scope} {x y w : Str} {i j l : Nat}
end
end Cw

/-! # lambdas as values: made, handed on, called -/
namespace Cw
open PySem PySem.Spec PyProof.Rows L2
section
variable {X : Cx} {pins : List (Addr × Obj)} {σ : L2.St} {H : Hp} {s : Shared}
end
/-! ### what stays when a lambda is handed on -/
/-- one parameter, no other name of its own -/
structure LamS1 (sc scope : Scope) (p : Str) : Prop where
  kind : scope.kind = .function
  co : scope.isCoroutine = false
  gen : scope.isGenerator = false
  par : scope.names.lookup p = some .local
  own : ∀ y ∈ scope.names, y.2 ≠ .cell ∧ (y.2 = .local → y.1 = p)
  free : ∀ y ∈ scope.names, y.2 = .free → sc.names.lookup y.1 = some .cell ∨ sc.names.lookup y.1 = some .free
section
variable {X : Cx} {pins : List (Addr × Obj)} {σ : L2.St} {H HZ : Hp} {s s1 : Shared}
end
end Cw

/-! # a def that is handed a lambda -/
namespace Cw
open PySem PySem.Spec PyProof.Rows L2
section
variable {K : PySem.W.Frag} {H : Hp} {m : Ad} {caps : List D} {vs : List V}
end
section
variable {P : Program} {w : World} {K : PySem.W.Frag} {mg : Str → Option Value} {base : Heap}
end
end Cw

/-! # a comprehension whose element knows what stood in the def when its block began -/
namespace Cw
open PySem PySem.Spec PyProof.Rows L2
/-- an expression's run where the names stand as W says -/
structure PEw (X : Cx) (W : L2.St → Prop) (e : Expr) (t : TE) : Prop where
  go : ∀ (pins : List (Addr × Obj)) (s : Shared) (σ : L2.St) (H : Hp) (Q : VK), Inv X pins σ H s → W σ → t σ H Q → wpAny (model X.prog X.w) X.A (eval e X.env) (EP X pins σ Q) X.xe s
end Cw

/-! # lambdas without parameters, called in a def that they were handed to; x(a) by clauses -/
namespace Cw
open PySem PySem.Spec PyProof.Rows L2
section
variable {X : Cx} {pins : List (Addr × Obj)} {σ : L2.St} {H : Hp} {s : Shared}
end
/-- one of the lambdas that x may be handed: its text and its reading -/
structure LamT where
  ps : Arguments
  body : Expr
  sc : Scope
  tx : TDX
end Cw

/-! # x(a) by clauses, exceptions without a dict among them; the list of what x tells of each lambda of a list -/
namespace Cw
open PySem PySem.Spec PyProof.Rows L2
/-! ### what an except clause holds -/
section
variable {X : Cx} {pins : List (Addr × Obj)} {σ : L2.St} {H : Hp} {s : Shared} {p : Addr × Obj} {C : Addr} {d : Option Addr}
variable {e e2 : Expr} {ta : TD} {pp pos : Pos}
variable {st : List Stmt} {t : Option Addr → TSD}
end
end Cw

/-! # instances whose address is known -/
namespace Cw
open PySem PySem.Spec PyProof.Rows L2
def unA : D → D
  | .insA _ C ns ds => .ins C ns ds
  | d => d
theorem rr_unA {K : PySem.W.Frag} {H : Hp} {m : Ad} {d : D} {v : V} (h : RR K H m d v) : RR K H m (unA d) v := by
  cases d <;> try exact h
  obtain ⟨dx, fs, e, h1, h2, h3⟩ := h
  exact ⟨_, dx, fs, e, h1, h2, h3⟩
section
variable {X : Cx} {E : XK} {e : Expr} {t : TD} {tx : TDX}
/-- as an instance, its address forgotten -/
def dUnA (t : TD) : TD := fun ρ c Φ => t ρ c fun d c1 => Φ (unA d) c1
theorem pd_unA (h : PD X e t) : PD X e (dUnA t) := PE.imp h fun σ H Q ⟨m, ρ, c, Φ, S, w, q⟩ => ⟨m, ρ, c, _, S, w, fun d c1 v H1 m1 hd C R L => q _ c1 v H1 m1 hd C (rr_unA R) L⟩
/-- an instance gets its address -/
def dNamed (t : TD) : TD := fun ρ c Φ => t ρ c fun d c1 => ∃ C ns ds, d = .ins C ns ds ∧ ∀ a, Φ (.insA a C ns ds) c1
theorem pd_named (h : PD X e t) : PD X e (dNamed t) := PE.imp h fun σ H Q ⟨m, ρ, c, Φ, S, w, q⟩ => ⟨m, ρ, c, _, S, w, fun d c1 v H1 m1 ⟨C0, ns, ds, ed, hd⟩ C R L => by
  subst ed
  obtain ⟨a, dx, fs, e1, h1, h2, h3⟩ := R
  exact q (.insA a C0 ns ds) c1 v H1 m1 (hd a) C ⟨dx, fs, e1, h1, h2, h3⟩ L⟩
end
end Cw

namespace Cw
open PySem PySem.Spec PyProof.Rows L2
/-! # own objects compared with values of any kind -/
section
variable {C dx x : Addr}
open AutoSeq1 (wpAny_loadPart')
theorem dec_int_bool (b : Bool) :
    Meets (Builtin.«int.__eq__» ⟨[.bool b, .ref x], []⟩) (fun _ R s => s.heap.get? x = some (PySem.W.instObj C dx) ∧ R (.ok (.ret .notImplemented)) s) :=
  .of_wp fun prog w A R s h => by obtain ⟨hp, g, d, tk, os⟩ := s; obtain ⟨hl, h⟩ := h; wp_walk using wpAny_loadPart' hl, wpAny_load hl; exact ⟨_, rfl, h⟩
theorem dec_int_boolN (b : Bool) :
    Meets (Builtin.«int.__ne__» ⟨[.bool b, .ref x], []⟩) (fun _ R s => s.heap.get? x = some (PySem.W.instObj C dx) ∧ R (.ok (.ret .notImplemented)) s) :=
  .of_wp fun prog w A R s h => by obtain ⟨hp, g, d, tk, os⟩ := s; obtain ⟨hl, h⟩ := h; wp_walk using wpAny_loadPart' hl, wpAny_load hl; exact ⟨_, rfl, h⟩
theorem dec_int (b : Int) (u : Tok) :
    Meets (Builtin.«int.__eq__» ⟨[.int b u, .ref x], []⟩) (fun _ R s => s.heap.get? x = some (PySem.W.instObj C dx) ∧ R (.ok (.ret .notImplemented)) s) :=
  .of_wp fun prog w A R s h => by obtain ⟨hp, g, d, tk, os⟩ := s; obtain ⟨hl, h⟩ := h; wp_walk using wpAny_loadPart' hl, wpAny_load hl; exact ⟨_, rfl, h⟩
theorem dec_intN (b : Int) (u : Tok) :
    Meets (Builtin.«int.__ne__» ⟨[.int b u, .ref x], []⟩) (fun _ R s => s.heap.get? x = some (PySem.W.instObj C dx) ∧ R (.ok (.ret .notImplemented)) s) :=
  .of_wp fun prog w A R s h => by obtain ⟨hp, g, d, tk, os⟩ := s; obtain ⟨hl, h⟩ := h; wp_walk using wpAny_loadPart' hl, wpAny_load hl; exact ⟨_, rfl, h⟩
theorem dec_str (b : Str) (u : Tok) :
    Meets (Builtin.«str.__eq__» ⟨[.str b u, .ref x], []⟩) (fun _ R s => s.heap.get? x = some (PySem.W.instObj C dx) ∧ R (.ok (.ret .notImplemented)) s) :=
  .of_wp fun prog w A R s h => by obtain ⟨hp, g, d, tk, os⟩ := s; obtain ⟨hl, h⟩ := h; wp_walk using wpAny_loadPart' hl, wpAny_load hl; exact ⟨_, rfl, h⟩
theorem dec_strN (b : Str) (u : Tok) :
    Meets (Builtin.«str.__ne__» ⟨[.str b u, .ref x], []⟩) (fun _ R s => s.heap.get? x = some (PySem.W.instObj C dx) ∧ R (.ok (.ret .notImplemented)) s) :=
  .of_wp fun prog w A R s h => by obtain ⟨hp, g, d, tk, os⟩ := s; obtain ⟨hl, h⟩ := h; wp_walk using wpAny_loadPart' hl, wpAny_load hl; exact ⟨_, rfl, h⟩
end
section
variable {prog : Program} {w : World} {A : Around} {E : Value → Shared → Prop} {s : Shared} {K : PySem.W.Frag} {x C f : Addr} {ox : Obj} {od : Option Obj} {a b : Value}
theorem looks_inst {M : Model} {h : Heap} {T : String} {r : Bool} (X : K.In h) (I : PySem.W.InstAt h x ox C od) (e : PySem.W.subIn K (.ref C) (.type T) = some r) : PySem.W.Looks M h (isInstance (.ref x) (.type T)) r :=
  I.type.andThen (PySem.W.looks_subIn X e)
theorem dec_tup {l : Addr} {Q : Fin → Shared → Prop} (X : K.In s.heap) (I : PySem.W.InstAt s.heap x ox C od) (e : PySem.W.subIn K (.ref C) (.type "tuple") = some false) (h : Q (.done (.ret .notImplemented)) s) :
    wpAny (model prog w) A (Builtin.«tuple.__eq__» ⟨[.ref l, .ref x], []⟩) Q E s := by
  obtain ⟨hp, g, d, tk, os⟩ := s
  have L := fun M => looks_inst (M := M) X I e
  wp_walk using (L _).here
  exact h
theorem dec_tupN {l : Addr} {Q : Fin → Shared → Prop} (X : K.In s.heap) (I : PySem.W.InstAt s.heap x ox C od) (e : PySem.W.subIn K (.ref C) (.type "tuple") = some false) (h : Q (.done (.ret .notImplemented)) s) :
    wpAny (model prog w) A (Builtin.«tuple.__ne__» ⟨[.ref l, .ref x], []⟩) Q E s := by
  obtain ⟨hp, g, d, tk, os⟩ := s
  have L := fun M => looks_inst (M := M) X I e
  wp_walk using (L _).here
  exact h
theorem dec_lst {l : Addr} {Q : Fin → Shared → Prop} (X : K.In s.heap) (I : PySem.W.InstAt s.heap x ox C od) (e : PySem.W.subIn K (.ref C) (.type "list") = some false) (h : Q (.done (.ret .notImplemented)) s) :
    wpAny (model prog w) A (Builtin.«list.__eq__» ⟨[.ref l, .ref x], []⟩) Q E s := by
  obtain ⟨hp, g, d, tk, os⟩ := s
  have L := fun M => looks_inst (M := M) X I e
  wp_walk using (L _).here
  exact h
theorem dec_lstN {l : Addr} {Q : Fin → Shared → Prop} (X : K.In s.heap) (I : PySem.W.InstAt s.heap x ox C od) (e : PySem.W.subIn K (.ref C) (.type "list") = some false) (h : Q (.done (.ret .notImplemented)) s) :
    wpAny (model prog w) A (Builtin.«list.__ne__» ⟨[.ref l, .ref x], []⟩) Q E s := by
  obtain ⟨hp, g, d, tk, os⟩ := s
  have L := fun M => looks_inst (M := M) X I e
  wp_walk using (L _).here
  exact h
theorem dec_dct {l : Addr} {Q : Fin → Shared → Prop} (X : K.In s.heap) (I : PySem.W.InstAt s.heap x ox C od) (e : PySem.W.subIn K (.ref C) (.type "dict") = some false) (h : Q (.done (.ret .notImplemented)) s) :
    wpAny (model prog w) A (Builtin.«dict.__eq__» ⟨[.ref l, .ref x], []⟩) Q E s := by
  obtain ⟨hp, g, d, tk, os⟩ := s
  have L := fun M => looks_inst (M := M) X I e
  wp_walk using (L _).here
  exact h
theorem dec_dctN {l : Addr} {Q : Fin → Shared → Prop} (X : K.In s.heap) (I : PySem.W.InstAt s.heap x ox C od) (e : PySem.W.subIn K (.ref C) (.type "dict") = some false) (h : Q (.done (.ret .notImplemented)) s) :
    wpAny (model prog w) A (Builtin.«dict.__ne__» ⟨[.ref l, .ref x], []⟩) Q E s := by
  obtain ⟨hp, g, d, tk, os⟩ := s
  have L := fun M => looks_inst (M := M) X I e
  wp_walk using (L _).here
  exact h
/-- the other side says that it does not know -/
abbrev Dec (prog : Program) (w : World) (A : Around) (E : Value → Shared → Prop) (s : Shared) (a : Value) (n : Str) (b : Value) : Prop := wpAny (model prog w) A (tryCompare a n b) (fun r s' => r = none ∧ s' = s) E s
def cmpN : Bool → CmpOp
  | false => .Eq
  | true => .NotEq
def nameN : Bool → Str
  | false => "__eq__"
  | true => "__ne__"
theorem declines_none {dx : Addr} (neg : Bool) : Dec prog w A E s .none (nameN neg) (.ref x) := by
  cases neg
  · exact wpAny_tryCompare_declines (show s.TypeIs .none "NoneType" from rfl) F.slot_NoneType_eq (call_gives F.slot_NoneType_eq rfl F.entry_NoneType_eq (F.args_NoneType_eq_2 _ _) (SeqAt.NoneType___eq___none_ref_0 x) ⟨rfl, rfl, rfl⟩)
  · exact wpAny_tryCompare_declines (show s.TypeIs .none "NoneType" from rfl) F.slot_NoneType_ne (call_gives F.slot_NoneType_ne rfl F.entry_NoneType_ne (F.args_NoneType_ne_2 _ _) (SeqAt.NoneType___ne___none_ref_0 x) ⟨rfl, rfl, rfl⟩)
theorem declines_bool {dx : Addr} (b neg : Bool) (hl : s.heap.get? x = some (PySem.W.instObj C dx)) : Dec prog w A E s (.bool b) (nameN neg) (.ref x) := by
  cases neg
  · exact wpAny_tryCompare_declines (show s.TypeIs (.bool b) "bool" from rfl) F.slot_bool_eq (call_meets F.slot_bool_eq rfl F.entry_int_eq (F.args_int_eq_2 _ _) (dec_int_bool b) ⟨hl, by repeat (first | exact rfl | refine ⟨rfl, ?_⟩)⟩)
  · exact wpAny_tryCompare_declines (show s.TypeIs (.bool b) "bool" from rfl) F.slot_bool_ne (call_meets F.slot_bool_ne rfl F.entry_int_ne (F.args_int_ne_2 _ _) (dec_int_boolN b) ⟨hl, by repeat (first | exact rfl | refine ⟨rfl, ?_⟩)⟩)
theorem declines_int {dx : Addr} (i : Int) (t : Tok) (neg : Bool) (hl : s.heap.get? x = some (PySem.W.instObj C dx)) : Dec prog w A E s (.int i t) (nameN neg) (.ref x) := by
  cases neg
  · exact wpAny_tryCompare_declines (typeIs_int s i t) F.slot_int_eq (call_meets F.slot_int_eq (typeIs_int s i t) F.entry_int_eq (F.args_int_eq_2 _ _) (dec_int i t) ⟨hl, by repeat (first | exact rfl | refine ⟨rfl, ?_⟩)⟩)
  · exact wpAny_tryCompare_declines (typeIs_int s i t) F.slot_int_ne (call_meets F.slot_int_ne (typeIs_int s i t) F.entry_int_ne (F.args_int_ne_2 _ _) (dec_intN i t) ⟨hl, by repeat (first | exact rfl | refine ⟨rfl, ?_⟩)⟩)
theorem declines_str {dx : Addr} (i : Str) (t : Tok) (neg : Bool) (hl : s.heap.get? x = some (PySem.W.instObj C dx)) : Dec prog w A E s (.str i t) (nameN neg) (.ref x) := by
  cases neg
  · exact wpAny_tryCompare_declines (typeIs_str s i t) F.slot_str_eq (call_meets F.slot_str_eq (typeIs_str s i t) F.entry_str_eq (F.args_str_eq_2 _ _) (dec_str i t) ⟨hl, by repeat (first | exact rfl | refine ⟨rfl, ?_⟩)⟩)
  · exact wpAny_tryCompare_declines (typeIs_str s i t) F.slot_str_ne (call_meets F.slot_str_ne (typeIs_str s i t) F.entry_str_ne (F.args_str_ne_2 _ _) (dec_strN i t) ⟨hl, by repeat (first | exact rfl | refine ⟨rfl, ?_⟩)⟩)
theorem declines_tup {l : Addr} (neg : Bool) (X : K.In s.heap) (I : PySem.W.InstAt s.heap x ox C od) (e : PySem.W.subIn K (.ref C) (.type "tuple") = some false) (hT : s.TypeIs (.ref l) "tuple") : Dec prog w A E s (.ref l) (nameN neg) (.ref x) := by
  cases neg
  · exact wpAny_tryCompare_declines hT F.slot_tuple_eq (wpAny_call_entry F.slot_tuple_eq hT F.entry_tuple_eq (dec_tup X I e ⟨_, rfl, rfl, rfl, rfl⟩) (F.args_tuple_eq_2 _ _))
  · exact wpAny_tryCompare_declines hT F.slot_tuple_ne (wpAny_call_entry F.slot_tuple_ne hT F.entry_tuple_ne (dec_tupN X I e ⟨_, rfl, rfl, rfl, rfl⟩) (F.args_tuple_ne_2 _ _))
theorem declines_lst {l : Addr} (neg : Bool) (X : K.In s.heap) (I : PySem.W.InstAt s.heap x ox C od) (e : PySem.W.subIn K (.ref C) (.type "list") = some false) (hT : s.TypeIs (.ref l) "list") : Dec prog w A E s (.ref l) (nameN neg) (.ref x) := by
  cases neg
  · exact wpAny_tryCompare_declines hT F.slot_list_eq (wpAny_call_entry F.slot_list_eq hT F.entry_list_eq (dec_lst X I e ⟨_, rfl, rfl, rfl, rfl⟩) (F.args_list_eq_2 _ _))
  · exact wpAny_tryCompare_declines hT F.slot_list_ne (wpAny_call_entry F.slot_list_ne hT F.entry_list_ne (dec_lstN X I e ⟨_, rfl, rfl, rfl, rfl⟩) (F.args_list_ne_2 _ _))
theorem declines_dct {l : Addr} (neg : Bool) (X : K.In s.heap) (I : PySem.W.InstAt s.heap x ox C od) (e : PySem.W.subIn K (.ref C) (.type "dict") = some false) (hT : s.TypeIs (.ref l) "dict") : Dec prog w A E s (.ref l) (nameN neg) (.ref x) := by
  cases neg
  · exact wpAny_tryCompare_declines hT F.slot_dict_eq (wpAny_call_entry F.slot_dict_eq hT F.entry_dict_eq (dec_dct X I e ⟨_, rfl, rfl, rfl, rfl⟩) (F.args_dict_eq_2 _ _))
  · exact wpAny_tryCompare_declines hT F.slot_dict_ne (wpAny_call_entry F.slot_dict_ne hT F.entry_dict_ne (dec_dctN X I e ⟨_, rfl, rfl, rfl, rfl⟩) (F.args_dict_ne_2 _ _))
/-- x's own answer -/
theorem try_eq_own {Q : Value → Shared → Prop} (X : K.In s.heap) (I : PySem.W.InstAt s.heap x ox C od) (hs : PySem.W.findIn K (.ref C) "__eq__" = some (some (.ref f))) (hf : PySem.W.isFn K (.ref f) = true)
    (h : wpAny (model prog w) A (call (.ref f) [.ref x, b]) (fun v s' => ∃ k, v = .bool k ∧ Q (.bool k) s') E s) : wpAny (model prog w) A (tryCompare (.ref x) "__eq__" b) (fun r s' => ∃ v, r = some v ∧ Q v s') E s := by
  unfold tryCompare
  refine wpAny_bind (PySem.W.ifBound_K X I hs hf (wpAny_mono h (fun v s' hv => ?_) fun _ _ e => e))
  obtain ⟨k, rfl, q⟩ := hv
  exact wpAny_pure ⟨_, rfl, q⟩
theorem try_ne_own {Q : Value → Shared → Prop} (hu : A.in1.units < cLine) (X : K.In s.heap) (I : PySem.W.InstAt s.heap x ox C od) (hm : PySem.W.mroIn K C (.type "object") = some true) (hn : PySem.W.findIn K (.ref C) "__ne__" = some (some (.builtin "object.__ne__"))) (hs : PySem.W.findIn K (.ref C) "__eq__" = some (some (.ref f))) (hf : PySem.W.isFn K (.ref f) = true)
    (h : wpAny (model prog w) A.in1 (call (.ref f) [.ref x, b]) (fun v s' => ∃ k, v = .bool k ∧ Q (.bool (!k)) s') E s) : wpAny (model prog w) A (tryCompare (.ref x) "__ne__" b) (fun r s' => ∃ v, r = some v ∧ Q v s') E s := by
  unfold tryCompare
  refine wpAny_bind (NtL.csib (I.type.andThen (PySem.W.looks_findIn X hn)) (PySem.F.slot_object_ne.bind _) (wpAny_mono (ne_body hu X I hm hs hf (Q := fun v s' => ∃ k, v = .bool k ∧ Q v s') (wpAny_mono h (fun v s' hv => ?_) fun _ _ e => e)) (fun v s' hv => ?_) fun _ _ e => e))
  · obtain ⟨k, rfl, q⟩ := hv
    exact ⟨k, rfl, _, rfl, q⟩
  · obtain ⟨k, rfl, q⟩ := hv
    exact wpAny_pure ⟨_, rfl, q⟩
theorem nameN_eq (neg : Bool) : (cmpInfo (cmpN neg)).2.1 = nameN neg ∧ (cmpInfo (cmpN neg)).2.2 = nameN neg := by cases neg <;> exact ⟨rfl, rfl⟩
theorem compareOp_N (neg : Bool) (a b : Value) : compareOp (cmpN neg) a b = richCompare (cmpN neg) a b := by cases neg <;> rfl
/-- x == b: x is asked first -/
theorem rc_own {tb : Value} {Q : Value → Shared → Prop} (neg : Bool) (hu : A.units < cLine) (X : K.In s.heap) (I : PySem.W.InstAt s.heap x ox C od) (hb : PySem.W.Looks (model prog w) s.heap (typeOf b) tb) (hn : PySem.W.notFirst K C tb = true)
    (one : wpAny (model prog w) A (tryCompare (.ref x) (nameN neg) b) (fun r s' => ∃ v, r = some v ∧ Q v s') E s) : wpAny (model prog w) A (richCompare (cmpN neg) (.ref x) b) Q E s := by
  rcases hi : cmpInfo (cmpN neg) with ⟨sym, fn, r⟩
  obtain ⟨e1, e2⟩ := nameN_eq neg
  rw [hi] at e1 e2
  dsimp only at e1 e2
  subst e1 e2
  unfold richCompare
  simp only [oneThing_ref, hi]
  refine wpAny_holding (wpAny_bind (wpAny_cRoomFor hu ?_))
  refine wpAny_bind (I.type.here (wpAny_bind (hb.here ?_)))
  split
  · rename_i q
    have e : PySem.W.subIn K tb (.ref C) = some false := by
      rcases Bool.or_eq_true_iff.mp hn with e | e
      · rw [beq_iff_eq.mp e] at q; simp at q
      · exact beq_iff_eq.mp e
    refine wpAny_bind ((PySem.W.looks_subIn X e).here ?_)
    simp only [Bool.false_eq_true, if_false]
    refine wpAny_bind (wpAny_mono one (fun r s' z => ?_) fun _ _ e => e)
    obtain ⟨v, rfl, hq⟩ := z
    exact wpAny_pure hq
  · refine wpAny_bind (wpAny_pure ?_)
    simp only [Bool.false_eq_true, if_false]
    refine wpAny_bind (wpAny_mono one (fun r s' z => ?_) fun _ _ e => e)
    obtain ⟨v, rfl, hq⟩ := z
    exact wpAny_pure hq
/-- a == x: a does not know, x is asked -/
theorem rc_ref {ta : Value} {Q : Value → Shared → Prop} (neg : Bool) (hu : A.units < cLine) (X : K.In s.heap) (I : PySem.W.InstAt s.heap x ox C od) (h1 : oneThing? (cmpN neg) a (.ref x) = none) (ha : PySem.W.Looks (model prog w) s.heap (typeOf a) ta) (hn : PySem.W.subIn K (.ref C) ta = some false)
    (dec : Dec prog w A E s a (nameN neg) (.ref x)) (one : wpAny (model prog w) A (tryCompare (.ref x) (nameN neg) a) (fun r s' => ∃ v, r = some v ∧ Q v s') E s) : wpAny (model prog w) A (richCompare (cmpN neg) a (.ref x)) Q E s := by
  rcases hi : cmpInfo (cmpN neg) with ⟨sym, fn, r⟩
  obtain ⟨e1, e2⟩ := nameN_eq neg
  rw [hi] at e1 e2
  dsimp only at e1 e2
  subst e1 e2
  unfold richCompare
  simp only [h1, hi]
  refine wpAny_holding (wpAny_bind (wpAny_cRoomFor hu ?_))
  refine wpAny_bind (ha.here (wpAny_bind (I.type.here ?_)))
  have fin : wpAny (model prog w) A (do
      if let some v ← tryCompare a (nameN neg) (.ref x) then return v
      if !false then
        if let some v ← tryCompare (.ref x) (nameN neg) a then return v
      match cmpN neg with
      | .Eq => rule "compare.eq-identity"; return .bool (← isSame a (.ref x))
      | .NotEq => rule "compare.ne-identity"; return .bool (!(← isSame a (.ref x)))
      | _ =>
        rule "compare.unsupported"
        raiseError "TypeError" s!"'{sym}' not supported between instances of '{← typeNameOf a}' and '{← typeNameOf (.ref x)}'") Q E s := by
    refine wpAny_bind (m := tryCompare a _ _) (wpAny_mono dec (fun r s1 z => ?_) fun _ _ e => e)
    obtain ⟨rfl, rfl⟩ := z
    simp only [Bool.not_false, if_true]
    refine wpAny_bind (m := tryCompare (.ref x) _ _) (wpAny_mono one (fun r s' z => ?_) fun _ _ e => e)
    obtain ⟨v, rfl, hq⟩ := z
    exact wpAny_pure hq
  split
  · refine wpAny_bind ((PySem.W.looks_subIn X hn).here ?_)
    simp only [Bool.false_eq_true, if_false]
    exact fin
  · refine wpAny_bind (wpAny_pure ?_)
    simp only [Bool.false_eq_true, if_false]
    exact fin
end

/-! ### the same over data -/
section
variable {X : Cx} {pins : List (Addr × Obj)} {σ : L2.St} {H : Hp} {s : Shared} {m : Ad} {c : List Cell}
theorem tup_at {a : Addr} {xs : List V} (I : Inv X pins σ H s) (h : SqT X.K H a xs) : s.TypeIs (.ref a) "tuple" := by
  rcases h with (ea | ⟨ob, ea⟩) | ⟨o, its, n, hk, hc, _⟩
  · obtain ⟨_, _, _, o, h1, h2, _⟩ := (show ObjOk X.prog X.w H s.heap a (.tup xs) from I.hok a _ ea)
    exact ⟨o, h1, h2⟩
  · obtain ⟨_, _, _, _, o, h1, h2, _⟩ := (show ObjOk X.prog X.w H s.heap a (.frz ob (.tup xs)) from I.hok a _ ea)
    exact ⟨o, h1, h2⟩
  · exact ⟨o, I.kIn a o hk, hc⟩
theorem lst_at {a : Addr} {xs : List V} (I : Inv X pins σ H s) (ea : H a = some (.lst xs)) : s.TypeIs (.ref a) "list" := by
  obtain ⟨_, _, n, _, h1⟩ := (show ObjOk X.prog X.w H s.heap a (.lst xs) from I.hok a _ ea)
  exact ⟨_, h1, rfl⟩
theorem dct_at {a : Addr} {kvs : List (Key × V)} (I : Inv X pins σ H s) (h : Rd H a (.dK kvs)) : s.TypeIs (.ref a) "dict" := by
  rcases h with ea | ⟨ob, ea⟩
  · obtain ⟨_, _, vs, _, o, es, ep, h1, h2, _⟩ := (show ObjOk X.prog X.w H s.heap a (.dK kvs) from I.hok a _ ea)
    exact ⟨o, h1, h2.1⟩
  · obtain ⟨_, _, _, vs, _, o, es, ep, h1, h2, _⟩ := (show ObjOk X.prog X.w H s.heap a (.frz ob (.dK kvs)) from I.hok a _ ea)
    exact ⟨o, h1, h2.1⟩
theorem looks_at {M : Model} {a : Addr} {T : String} (h : s.TypeIs (.ref a) T) : PySem.W.Looks M s.heap (typeOf (.ref a)) (.type T) := by
  obtain ⟨o, h1, h2⟩ := h
  have L : PySem.W.Looks M s.heap (typeOf (.ref a)) o.cls := (PySem.W.Looks.ld h1).andThen .now
  rw [h2] at L
  exact L
theorem type_of {M : Model} {d : D} {v : V} {u : Value} {t : Ty} (I : Inv X pins σ H s) (r : RR X.K H m d v) (rv : RelV v u) (e : tyD d = some t) : PySem.W.Looks M s.heap (typeOf u) t.val := by
  cases d <;> first | (cases e; done) | skip
  · cases e; cases (show v = _ from r); cases (show u = Value.none from rv); exact .of_pure rfl
  · cases e; cases (show v = _ from r); cases (show u = Value.bool _ from rv); exact .of_pure rfl
  · cases e; cases (show v = _ from r); obtain ⟨t, q⟩ := (show ∃ t, u = Value.int _ t from rv); cases q; exact .of_pure rfl
  · cases e; cases (show v = _ from r); obtain ⟨t, q⟩ := (show ∃ t, u = Value.str _ t from rv); cases q; exact .of_pure rfl
  · cases e
    obtain ⟨a, xs, rfl, h1, h2⟩ := r
    cases (show u = Value.ref a from rv)
    exact looks_at (tup_at I (ex_t (ex_hid m H) h1))
  · cases e
    obtain ⟨a, xs, rfl, h1, h2⟩ := r
    cases (show u = Value.ref a from rv)
    exact looks_at (lst_at I (ex_hid m H _ _ h1))
  · cases e
    obtain ⟨a, dx, fs, rfl, h1, _⟩ := r
    cases (show u = Value.ref a from rv)
    obtain ⟨mA, O, _⟩ := ins_get I.hok (ex_hid m H _ _ h1)
    obtain ⟨od, J, _⟩ := O.look
    exact J.type
  · cases e
    obtain ⟨a, kvs, rfl, h1, _⟩ := r
    cases (show u = Value.ref a from rv)
    exact looks_at (dct_at I (ex_rd (ex_hid m H) h1))
/-- a value that is no object of an own class does not know an own object -/
theorem declines_of {d : D} {v : V} {u : Value} {t : Ty} {x C dx : Addr} {od : Option Obj} {E : Value → Shared → Prop} (neg : Bool) (I : Inv X pins σ H s) (r : RR X.K H m d v) (rv : RelV v u) (e : tyD d = some t) (hb : ∀ D, t ≠ .ins D) (J : PySem.W.InstAt s.heap x (PySem.W.instObj C dx) C od)
    (hn : PySem.W.subIn X.K (.ref C) t.val = some false) : Dec X.prog X.w X.A E s u (nameN neg) (.ref x) := by
  cases d <;> first | (cases e; done) | skip
  · cases e; cases (show v = _ from r); cases (show u = Value.none from rv); exact declines_none (dx := dx) neg
  · cases e; cases (show v = _ from r); cases (show u = Value.bool _ from rv); exact declines_bool _ neg J.at_
  · cases e; cases (show v = _ from r); obtain ⟨t, q⟩ := (show ∃ t, u = Value.int _ t from rv); cases q; exact declines_int _ _ neg J.at_
  · cases e; cases (show v = _ from r); obtain ⟨t, q⟩ := (show ∃ t, u = Value.str _ t from rv); cases q; exact declines_str _ _ neg J.at_
  · cases e
    obtain ⟨a, xs, rfl, h1, h2⟩ := r
    cases (show u = Value.ref a from rv)
    exact declines_tup neg I.kIn J hn (tup_at I (ex_t (ex_hid m H) h1))
  · cases e
    obtain ⟨a, xs, rfl, h1, h2⟩ := r
    cases (show u = Value.ref a from rv)
    exact declines_lst neg I.kIn J hn (lst_at I (ex_hid m H _ _ h1))
  · cases e
    exact (hb _ rfl).elim
  · cases e
    obtain ⟨a, kvs, rfl, h1, _⟩ := r
    cases (show u = Value.ref a from rv)
    exact declines_dct neg I.kIn J hn (dct_at I (ex_rd (ex_hid m H) h1))
theorem one_none {d : D} {v : V} {u : Value} {t : Ty} {x : Addr} (neg : Bool) (r : RR X.K H m d v) (rv : RelV v u) (e : tyD d = some t) : oneThing? (cmpN neg) u (.ref x) = none := by
  cases d <;> first | (cases e; done) | skip
  · cases (show v = _ from r); cases (show u = Value.none from rv); rfl
  · cases (show v = _ from r); cases (show u = Value.bool _ from rv); rfl
  · cases (show v = _ from r); obtain ⟨t, q⟩ := (show ∃ t, u = Value.int _ t from rv); cases q; rfl
  · cases (show v = _ from r); obtain ⟨t, q⟩ := (show ∃ t, u = Value.str _ t from rv); cases q; rfl
  · obtain ⟨a, xs, rfl, h1, h2⟩ := r
    cases (show u = Value.ref a from rv); rfl
  · obtain ⟨a, xs, rfl, h1, h2⟩ := r
    cases (show u = Value.ref a from rv); rfl
  · obtain ⟨a, dx, fs, rfl, h1, _⟩ := r
    cases (show u = Value.ref a from rv); rfl
  · obtain ⟨a, kvs, rfl, h1, _⟩ := r
    cases (show u = Value.ref a from rv); rfl
end
/-- an own object's answer to an equality with data -/
def TryR (X : Cx) (P : D → D → Bool → Prop) : Prop := ∀ (neg : Bool) (pins : List (Addr × Obj)) (s : Shared) (σ : L2.St) (H : Hp) (m : Ad) (c : List Cell) (d1 d2 : D) (v1 v2 : V) (u1 u2 : Value) (k : Bool) (Q : VK),
  Inv X pins σ H s → CR X.K H m c → RR X.K H m d1 v1 → RR X.K H m d2 v2 → RelV v1 u1 → RelV v2 u2 → okDs 0 [d1, d2] = true → P d1 d2 k →
  (∀ H' m', CR X.K H' m' c → Le m H m' H' → Q (.bl (neg ^^ k)) H') → wpAny (model X.prog X.w) X.A (tryCompare u1 (nameN neg) u2) (fun r s' => ∃ v, r = some v ∧ EP X pins σ Q v s') X.xe s
section
variable {X : Cx} {CX : CXT} {k : Nat} {C f : Addr} {fd : FuncData} {ps : List Str} {S : Pm} {E : XK} {P P' : D → D → Bool → Prop}
theorem TryR.or (h : TryR X P) (h' : TryR X P') : TryR X (fun a b k => P a b k ∨ P' a b k) := fun neg pins s σ H m c d1 d2 v1 v2 u1 u2 k Q I C r1 r2 e1 e2 ok hp q =>
  hp.elim (fun hp => h neg pins s σ H m c d1 d2 v1 v2 u1 u2 k Q I C r1 r2 e1 e2 ok hp q) fun hp => h' neg pins s σ H m c d1 d2 v1 v2 u1 u2 k Q I C r1 r2 e1 e2 ok hp q
theorem tryR_of (F : FnOk X.prog X.w X.K X.mg X.base CX k f fd ps (spD X.K 0 2 S)) (hs : PySem.W.findIn X.K (.ref C) "__eq__" = some (some (.ref f))) (hn : PySem.W.findIn X.K (.ref C) "__ne__" = some (some (.builtin "object.__ne__"))) (hm : PySem.W.mroIn X.K C (.type "object") = some true) (hf : PySem.W.isFn X.K (.ref f) = true) (hb : Binds X.K fd ps []) (hx : Passes CX X E) (hr : Room (k + 1) X.A)
    (hS : ∀ d1 d2 b, P d1 d2 b → (∃ ns ds, d1 = .ins C ns ds) ∧ ∀ Φ : D → List Cell → Prop, Φ (.bl b) [] → S [] [d1, d2] Φ) : TryR X P := by
  intro neg pins s σ H m c d1 d2 v1 v2 u1 u2 b Q I Cc r1 r2 e1 e2 ok hp q
  obtain ⟨⟨ns, ds, rfl⟩, hS⟩ := hS d1 d2 b hp
  have rr : RRL X.K H m [.ins C ns ds, d2] [v1, v2] := by
    show RL _ _ _ [_, _] [_, _]
    exact ⟨v1, [v2], rfl, r1, v2, [], rfl, r2, rfl⟩
  have sp : spD X.K 0 2 S [v1, v2] H (fun v H' => v = .bl b ∧ ∃ m', CR X.K H' m' c ∧ Le m H m' H') E :=
    sp_pure (Φ := fun d c' => d = .bl b ∧ c' = c) Cc rr rfl ⟨ok, hS _ ⟨rfl, rfl⟩⟩ fun d c' w H' m' ⟨hd, hc⟩ C' r' l' => by
      subst hd hc
      cases (show w = _ from r')
      exact ⟨rfl, m', C', l'⟩
  obtain ⟨a, dx, fs, rfl, h1, _⟩ := r1
  cases (show u1 = Value.ref a from e1)
  obtain ⟨mA, J, _⟩ := ins_get I.hok (ex_hid m H _ _ h1)
  obtain ⟨od, J, _⟩ := J.look
  have vv : Vals [V.ref a, v2] [Value.ref a, u2] := .cons rfl (.cons e2 .nil)
  cases neg with
  | false =>
    refine try_eq_own I.kIn J hs hf (wpAny_mono (call_own ⟨hr.mono (by omega), rfl⟩ I F hb hx vv sp) (fun v s' z => ?_) fun _ _ e => e)
    obtain ⟨z, H', I', rz, rfl, m', C', l'⟩ := z
    cases rz
    exact ⟨b, rfl, .bl b, H', I', rfl, by simpa using q H' m' C' l'⟩
  | true =>
    refine try_ne_own hr.in1.units0 I.kIn J hm hn hs hf (wpAny_mono (call_own ⟨hr.in1, rfl⟩ I F hb hx vv sp) (fun v s' z => ?_) fun _ _ e => e)
    obtain ⟨z, H', I', rz, rfl, m', C', l'⟩ := z
    cases rz
    exact ⟨b, rfl, .bl (!b), H', I', rfl, by simpa using q H' m' C' l'⟩
/-- d1 == d2: an own object's answer b -/
def EqP (K : PySem.W.Frag) (P : D → D → Bool → Prop) (d1 d2 : D) (b : Bool) : Prop :=
  (∃ C ns ds t, d1 = .ins C ns ds ∧ tyD d2 = some t ∧ PySem.W.notFirst K C t.val = true ∧ P d1 d2 b) ∨
  ∃ C ns ds t, d2 = .ins C ns ds ∧ tyD d1 = some t ∧ (∀ D, t ≠ .ins D) ∧ PySem.W.subIn K (.ref C) t.val = some false ∧ P d2 d1 b
def rEqA (K : PySem.W.Frag) (P : D → D → Bool → Prop) (neg : Bool) : R2 := fun x y H Q => ∃ m c d1 d2 b, CR K H m c ∧ RR K H m d1 x ∧ RR K H m d2 y ∧ okDs 0 [d1, d2] = true ∧ EqP K P d1 d2 b ∧ ∀ H' m', CR K H' m' c → Le m H m' H' → Q (.bl (neg ^^ b)) H'
theorem ok_swap {a b : D} (h : okDs 0 [a, b] = true) : okDs 0 [b, a] = true := by
  have h : (okD 0 a && (okD 0 b && true)) = true := h
  show (okD 0 b && (okD 0 a && true)) = true
  revert h
  cases okD 0 a <;> cases okD 0 b <;> simp
theorem op_eqA (hr : Room k X.A) (T : TryR X P) (neg : Bool) : OpR X (compareOp (cmpN neg)) (rEqA X.K P neg) := by
  intro pins s σ H x y v u Q I rx ry d
  obtain ⟨m, c, d1, d2, b, Cc, r1, r2, ok, hp, q⟩ := d
  rw [compareOp_N]
  rcases hp with ⟨C, ns, ds, t, e, ht, hn, hp⟩ | ⟨C, ns, ds, t, e, ht, hb, hn, hp⟩
  · subst e
    have one := T neg pins s σ H m c _ _ x y v u b Q I Cc r1 r2 rx ry ok hp q
    have tl := fun M => type_of (M := M) I r2 ry ht
    obtain ⟨a, dx, fs, rfl, h1, _⟩ := r1
    cases (show v = Value.ref a from rx)
    obtain ⟨mA, J, _⟩ := ins_get I.hok (ex_hid m H _ _ h1)
    obtain ⟨od, J, _⟩ := J.look
    exact rc_own neg hr.units0 I.kIn J (tl _) hn one
  · subst e
    have one := T neg pins s σ H m c _ _ y x u v b Q I Cc r2 r1 ry rx (ok_swap ok) hp q
    have tl := fun M => type_of (M := M) I r1 rx ht
    obtain ⟨a, dx, fs, rfl, h1, _⟩ := r2
    cases (show u = Value.ref a from ry)
    obtain ⟨mA, J, _⟩ := ins_get I.hok (ex_hid m H _ _ h1)
    obtain ⟨od, J, _⟩ := J.look
    exact rc_ref neg hr.units0 I.kIn J (one_none neg r1 rx ht) (tl _) hn (declines_of neg I r1 rx ht hb J hn) one
variable {a b : Expr} {pos : Pos} {ta tb : TD}
def dEqA (K : PySem.W.Frag) (P : D → D → Bool → Prop) (neg : Bool) (ta tb : TD) : TD := fun ρ c Φ => ta ρ c fun x c1 => tb ρ c1 fun y c2 => okDs 0 [x, y] = true ∧ ∃ k, EqP K P x y k ∧ Φ (.bl (neg ^^ k)) c2
theorem lift_eqA {K : PySem.W.Frag} {neg : Bool} {σ : L2.St} {H : Hp} {Q : VK} (h : lift K (dEqA K P neg ta tb) σ H Q) : tOp (rEqA K P neg) (lift K ta) (lift K tb) σ H Q := by
  obtain ⟨m, ρ, c, Φ, S', h, q⟩ := h
  refine ⟨m, ρ, c, _, S', h, fun x c1 u H1 m1 hx C1 R1 L1 => ⟨m1, ρ, c1, _, S'.step L1 C1, hx, fun y c2 v H2 m2 hy C2 R2 L2 => ?_⟩⟩
  obtain ⟨ok, k, hp, hΦ⟩ := hy
  exact ⟨m2, c2, x, y, k, C2, L2.r R1, R2, ok, hp, fun H' m' C' l' => q _ c2 _ H' m' hΦ C' rfl ((L1.trans L2).trans l')⟩
theorem pd_eqA (hr : Room k X.A) (T : TryR X P) (h1 : PD X a ta) (h2 : PD X b tb) : PD X (.Compare a [.Eq] [b] pos) (dEqA X.K P false ta tb) := PE.imp (pe_cmpR (op_eqA hr T false) h1 h2 (nomark _)) fun σ H Q h => lift_eqA h
theorem pd_neA (hr : Room k X.A) (T : TryR X P) (h1 : PD X a ta) (h2 : PD X b tb) : PD X (.Compare a [.NotEq] [b] pos) (dEqA X.K P true ta tb) := PE.imp (pe_cmpR (op_eqA hr T true) h1 h2 (nomark _)) fun σ H Q h => lift_eqA h
end
end Cw

namespace Cw
open PySem PySem.Spec PyProof.Rows L2
section
variable {prog : Program} {w : World} {A : Around} {E : Value → Shared → Prop} {s : Shared} {K : PySem.W.Frag} {x y C D f : Addr} {ox oy : Obj} {od od' : Option Obj} {a b : Value}
open SeqAt in
theorem objEq2 {Q : Value → Shared → Prop} (X : K.In s.heap) (I : PySem.W.InstAt s.heap x ox C od) (hy : s.heap.get? y = some oy) (hnt : oy.cls ≠ .type "tuple") (hxy : x ≠ y) (hm : PySem.W.mroIn K C (.type "object") = some true) (hq : Q .notImplemented s) :
    wpAny (model prog w) A (call (.builtin "object.__eq__") [.ref x, .ref y]) Q E s := by
  refine wpAny_call (codeAny_call_builtin F.cmp_object.eq.plain F.cmpEntry_eq (PySem.W.check_slot F.cmpKind_eq F.cmpSplit_eq (I.type.andThen (PySem.W.looks_mroIn X hm)) (F.cmpArgs_eq _ _) ?_))
  unfold Builtin.«object.__eq__»
  repeat (first | with_reducible refine wpAny_isSame_ref_other' hxy I.at_ hy hnt ?_ | wp_step)
  exact hq
open SeqAt in
theorem rc_obj {Q : Value → Shared → Prop} (hu : A.units < cLine) (X : K.In s.heap) (I : PySem.W.InstAt s.heap x ox C od) (I' : PySem.W.InstAt s.heap y oy C od') (hxy : x ≠ y) (hm : PySem.W.mroIn K C (.type "object") = some true) (hs : PySem.W.findIn K (.ref C) "__eq__" = some (some (.builtin "object.__eq__")))
    (hq : Q (.bool false) s) : wpAny (model prog w) A (richCompare .Eq (.ref x) (.ref y)) Q E s := by
  have one : wpAny (model prog w) A (tryCompare (.ref x) "__eq__" (.ref y)) (fun r s' => r = none ∧ s' = s) E s := by
    unfold tryCompare
    exact wpAny_bind (HN.ifBound_objEq X I hs (objEq2 X I I'.at_ (by rw [I'.cls]; exact fun z => nomatch z) hxy hm (wpAny_pure ⟨rfl, rfl⟩)))
  have two : wpAny (model prog w) A (tryCompare (.ref y) "__eq__" (.ref x)) (fun r s' => r = none ∧ s' = s) E s := by
    unfold tryCompare
    exact wpAny_bind (HN.ifBound_objEq X I' hs (objEq2 X I' I.at_ (by rw [I.cls]; exact fun z => nomatch z) hxy.symm hm (wpAny_pure ⟨rfl, rfl⟩)))
  simp only [richCompare, cmpInfo_Eq, oneThing_ref]
  refine wpAny_holding (wpAny_bind (wpAny_cRoomFor hu ?_))
  refine wpAny_bind (I.type.here (wpAny_bind (I'.type.here ?_)))
  split
  · rename_i q
    exact absurd q (by simp)
  refine wpAny_bind (wpAny_pure ?_)
  simp only [Bool.false_eq_true, if_false, Bool.not_false, if_true]
  refine wpAny_bind (m := tryCompare (.ref x) _ (.ref y)) (wpAny_mono one (fun r s1 z => ?_) fun _ _ e => e)
  obtain ⟨rfl, rfl⟩ := z
  refine wpAny_bind (m := tryCompare (.ref y) _ (.ref x)) (wpAny_mono two (fun r s2 z => ?_) fun _ _ e => e)
  obtain ⟨rfl, rfl⟩ := z
  exact wpAny_bind (wpAny_rule (wpAny_bind (wpAny_isSame_ref_other' hxy I.at_ I'.at_ (by rw [I'.cls]; exact fun z => nomatch z) (wpAny_pure hq))))
end
section
variable {X : Cx} {C : Addr} {a b : Expr} {pos : Pos} {ta tb : TD} {k : Nat}
def rEqI (C : Addr) : R2 := fun u v H Q => ∃ x dx fs y dy gs, u = .ref x ∧ v = .ref y ∧ H x = some (.ins C dx fs) ∧ H y = some (.ins C dy gs) ∧ x ≠ y ∧ Q (.bl false) H
theorem op_eqI (hr : Room k X.A) (hm : PySem.W.mroIn X.K C (.type "object") = some true) (hs : PySem.W.findIn X.K (.ref C) "__eq__" = some (some (.builtin "object.__eq__"))) : OpR X (compareOp .Eq) (rEqI C) := by
  intro pins s σ H x y v u Q I rx ry d
  obtain ⟨a, dx, fs, b, dy, gs, rfl, rfl, ha, hb', ne, q⟩ := d
  cases rx
  cases ry
  obtain ⟨mA, J, _⟩ := ins_get I.hok ha
  obtain ⟨mB, J', _⟩ := ins_get I.hok hb'
  obtain ⟨od, J, _⟩ := J.look
  obtain ⟨od', J', _⟩ := J'.look
  show wpAny (model X.prog X.w) X.A (richCompare .Eq _ _) _ _ _
  exact rc_obj hr.units0 I.kIn J J' ne hm hs ⟨.bl false, H, I, rfl, q⟩
def dEqI (C : Addr) (ta tb : TD) : TD := fun ρ c Φ => ta ρ c fun x c1 => tb ρ c1 fun y c2 => ∃ p ns ds q ms es, x = .insA p C ns ds ∧ y = .insA q C ms es ∧ p ≠ q ∧ Φ (.bl false) c2
theorem lift_eqI {K : PySem.W.Frag} {σ : L2.St} {H : Hp} {Q : VK} (h : lift K (dEqI C ta tb) σ H Q) : tOp (rEqI C) (lift K ta) (lift K tb) σ H Q := by
  obtain ⟨m, ρ, c, Φ, S', h, q⟩ := h
  refine ⟨m, ρ, c, _, S', h, fun x c1 u H1 m1 hx C1 R1 L1 => ⟨m1, ρ, c1, _, S'.step L1 C1, hx, fun y c2 v H2 m2 hy C2 R2 L2 => ?_⟩⟩
  obtain ⟨p, ns, ds, p', ms, es, rfl, rfl, ne, hΦ⟩ := hy
  have R1' := L2.r R1
  obtain ⟨dx, fs, rfl, h1, _⟩ := R1'
  obtain ⟨dy, gs, rfl, h2, _⟩ := R2
  exact ⟨p, dx, fs, p', dy, gs, rfl, rfl, (hid_some h1).2, (hid_some h2).2, ne, q _ c2 _ H2 m2 hΦ C2 rfl (L1.trans L2)⟩
theorem pd_eqI (hr : Room k X.A) (hm : PySem.W.mroIn X.K C (.type "object") = some true) (hs : PySem.W.findIn X.K (.ref C) "__eq__" = some (some (.builtin "object.__eq__"))) (h1 : PD X a ta) (h2 : PD X b tb) : PD X (.Compare a [.Eq] [b] pos) (dEqI C ta tb) :=
  PE.imp (pe_cmpR (op_eqI hr hm hs) h1 h2 (nomark _)) fun σ H Q h => lift_eqI h
end
/-! ### C() -/
section
variable {X : Cx} {CX : CXT} {k np : Nat} {f C : Addr} {fd : FuncData} {ps : List Str} {S : Pm} {E : XK} {x : Str} {p pos : Pos} {e : Expr} {ta : TD}
theorem pd_make0 (M : Mk X.K C f) (F : FnOk X.prog X.w X.K X.mg X.base CX k f fd ps (spD X.K 1 1 S)) (hr : Room (k + 1) X.A) (hm : X.mg x = some (.ref C)) (hb : Binds X.K fd ps []) (hx : Passes CX X E)
    (hg : Gl X x := by rfl) (hdb : (x == ("__debug__" : Str)) = false := by decide) : PD X (.Call (.Name x p) [] [] pos) (dMake C S 1 dNil) := PE.imp (pe_make0 M F hr hg hm hb .nil hx hdb) fun σ H Q ⟨m, ρ, c, Φ, S', ⟨hl, hc⟩, q⟩ =>
    fun a dx h1 h2 h3 => by
      have := sp_make (vs := []) (E := E) S'.cr (show RRL X.K H m [] [] from rfl) hl hc (KQ.le (K := X.K) q (Le.refl _ _)) h1 h2 h3
      simpa using this
/-! ### bool of an object that says it itself -/
theorem call_boolB {sp : Sp} (F : FnOk X.prog X.w X.K X.mg X.base CX k f fd ps sp) (hs : PySem.W.findIn X.K (.ref C) "__bool__" = some (some (.ref f))) (hf : PySem.W.isFn X.K (.ref f) = true) (hb : Binds X.K fd ps []) (hx : Passes CX X E) (hr : Room (k + 2) X.A) :
    CallR X (.type "bool") (rOwn1 C sp E fun v Q H => ∃ b, v = .bl b ∧ Q (.bl b) H) := by
  intro pins s σ H xs us Q I r h
  obtain ⟨a, dx, fs, rfl, ha, h⟩ := h
  obtain rfl := Vals.ref1 r
  obtain ⟨mA, J, _⟩ := ins_get I.hok ha
  obtain ⟨od, J, _⟩ := J.look
  obtain ⟨m, hF⟩ := I.fr
  refine bool_tru (PySem.W.truthy_K hF I.ok.mod.kin J hs hf (wpAny_mono (call_own ⟨hr.in1.in1, rfl⟩ I F hb hx (v1 a) h) (fun v s' q => ?_) fun _ _ e => e))
  obtain ⟨z, H', I', rz, b, rfl, q⟩ := q
  cases (show v = Value.bool b from rz)
  exact ⟨.bl b, H', I', rfl, q⟩
def gBl : D → List Cell → (D → List Cell → Prop) → Prop := fun d c Φ => ∃ b, d = .bl b ∧ Φ (.bl b) c
theorem pd_boolB (F : FnOk X.prog X.w X.K X.mg X.base CX k f fd ps (spD X.K 0 1 S)) (hs : PySem.W.findIn X.K (.ref C) "__bool__" = some (some (.ref f))) (hf : PySem.W.isFn X.K (.ref f) = true) (hb : Binds X.K fd ps []) (hx : Passes CX X E) (hr : Room (k + 2) X.A)
    (ha : PD X e ta) (hm : X.mg "bool" = none) (hg : Gl X "bool" := by rfl) (he : starEach [e] X.env = (false, eval e X.env) :: starEach [] X.env := by rfl) (hpl : (backTo pos (starEach [] X.env)).any (·.1) = false := by rfl) :
    PD X (.Call (.Name "bool" p) [e] [] pos) (dOwn1 C S gBl ta) := PE.imp (pe_callTy (call_boolB F hs hf hb hx hr) hg hm (by decide +kernel) (pds_cons ha pds_nil he) (by decide) (by decide) he hpl) fun σ H Q h =>
    lift_own1 (fun d c Φ w H m Q ⟨i, hd, hΦ⟩ C r q => by subst hd; cases (show w = _ from r); exact ⟨i, rfl, q.pure C hΦ rfl⟩) h
end
/-! ### a new thing is not the one that a name keeps -/
section
variable {K : PySem.W.Frag} {m : Ad} {H : Hp} {a : Addr}
def plainC (c : List Cell) : Prop := ∀ ce ∈ c, ∃ is : List Int, ce = .lst (is.map .int)
theorem rl_int {ix : List Addr} {H H' : Hp} {ix' : List Addr} : ∀ {is : List Int} {xs : List V}, RL K ix H (is.map .int) xs → RL K ix' H' (is.map .int) xs
  | [], _, h => h
  | i :: is, _, ⟨x, r, e1, h1, h2⟩ => ⟨x, r, e1, h1, rl_int h2⟩
def Ad.hide (m : Ad) (a : Addr) : Ad := ⟨m.ix, a :: m.hd⟩
theorem hid_hide {b : Addr} (h : b ≠ a) : hid (m.hide a) H b = hid m H b := by
  unfold hid Ad.hide
  simp [h]
theorem tab_hide {P : Addr} {C : Addr} {dx : Addr} {fs : List (Str × V)} (ha : H a = some (.ins C dx fs)) (t : TabK m H P) : TabK (m.hide a) H P := by
  obtain ⟨ps, h1, h2, h3⟩ := t
  refine ⟨ps, h1, h2, fun pos cv hc => ?_⟩
  obtain ⟨c, e1, x⟩ := h3 pos cv hc
  refine ⟨c, e1, ?_⟩
  rw [hid_hide]
  · exact x
  · rintro rfl
    have := (hid_some x).2
    rw [ha] at this
    exact nomatch this
theorem cr_plain {m' : Ad} {H' : Hp} {c : List Cell} (p : plainC c) {b : Addr} {ce : Cell} (hce : ce ∈ c) (h : CellAt K m H b ce) (e : ∀ o, H b = some o → H' b = some o) : CellAt K m' H' b ce := by
  obtain ⟨is, rfl⟩ := p ce hce
  obtain ⟨xs, h1, h2⟩ := h
  exact ⟨xs, e _ h1, rl_int h2⟩
theorem cr_hide {c : List Cell} (Cc : CR K H m c) (p : plainC c) {C dx : Addr} {fs : List (Str × V)} (ha : H a = some (.ins C dx fs)) (hx : a ∉ m.ix) : CR K H (m.hide a) c :=
  ⟨Cc.len, Cc.nd, fun k ce e => let ⟨b, h1, h2⟩ := Cc.at_ k ce e; ⟨b, h1, cr_plain p (List.mem_of_getElem? e) h2 fun _ z => z⟩,
   fun b hb => (List.mem_cons.mp hb).elim (fun z => by subst z; exact ⟨_, ha, fun _ y => nomatch y⟩) (Cc.hs b), fun b hb hz => (List.mem_cons.mp hz).elim (fun z => hx (z ▸ hb)) (Cc.dj b hb),
   fun q hq => ⟨List.mem_cons_of_mem _ (Cc.tk q hq).1, tab_hide ha (Cc.tk q hq).2⟩⟩
theorem ex_hide {m1 : Ad} (h : ∀ b, b ∈ m.hd → b ∈ m1.hd) (hi : m1.ix = m.ix) : Ex (hid m1 H) (hid m H) := fun b o e => by
  obtain ⟨⟨h1, h2⟩, h3⟩ := hid_some e
  rw [hid_of ⟨by rw [← hi]; exact h1, fun z => h2 (h b z)⟩]
  exact h3
theorem le_show {m1 : Ad} {H1 : Hp} {c : List Cell} {C dx : Addr} {fs : List (Str × V)} (ha : hid m H a = some (.ins C dx fs)) (C1 : CR K H1 m1 c) (l : Le (m.hide a) H m1 H1) : Le m H ⟨m1.ix, m.hd⟩ H1 := by
  have hd : m1.hd = a :: m.hd := l.hd
  have exm : Ex (hid m1 H1) (hid ⟨m1.ix, m.hd⟩ H1) := ex_hide (fun b z => by rw [hd]; exact List.mem_cons_of_mem _ z) rfl
  have hA := hid_some ha
  have e1 : H1 a = some (.ins C dx fs) := l.kc (b := a) (.head _) hA.2 fun _ z => nomatch z
  refine ⟨l.pre, fun b o e => ?_, rfl, fun b hb => ?_, l.fr, l.al⟩
  · by_cases z : b = a
    · subst z
      rw [ha] at e
      cases e
      exact (hid_of (m := ⟨m1.ix, m.hd⟩) ⟨fun y => C1.dj _ y (by rw [hd]; exact .head _), hA.1.2⟩).trans e1
    · exact exm b o (l.ex b o (by rw [hid_hide z]; exact e))
  · rcases l.hk b (List.mem_cons_of_mem _ hb) with z | ⟨z, y⟩
    · exact .inl z
    · exact .inr ⟨z, fun t => (y (tab_hide hA.2 t)).keep rfl exm⟩
theorem cr_show {m1 : Ad} {H1 : Hp} {c : List Cell} {C dx : Addr} {fs : List (Str × V)} (Cc : CR K H m c) (p : plainC c) (ha : hid m H a = some (.ins C dx fs)) (C1 : CR K H1 m1 c) (l : Le (m.hide a) H m1 H1) : CR K H1 ⟨m1.ix, m.hd⟩ c := by
  have hd : m1.hd = a :: m.hd := l.hd
  have up : ∀ b, b ∈ m.hd → b ∈ m1.hd := fun b z => by rw [hd]; exact List.mem_cons_of_mem _ z
  exact ⟨C1.len, C1.nd, fun k ce e => let ⟨b, h1, h2⟩ := C1.at_ k ce e; ⟨b, h1, cr_plain p (List.mem_of_getElem? e) h2 fun _ z => z⟩, fun b hb => C1.hs b (up b hb), fun b hb hz => C1.dj b hb (up b hz),
    fun q hq => ⟨(Cc.tk q hq).1, (C1.tk q hq).2.keep rfl (ex_hide up rfl)⟩⟩
end
section
variable {X : Cx} {e : Expr} {t : TD}
def dApart (i : Nat) (t : TD) : TD := fun ρ c Φ => ∃ C n a C2 ns ds, ρ[i]? = some (some (.ins C [n] [.insA a C2 ns ds])) ∧ plainC c ∧ t (ρ.map fun _ => none) c fun d c1 => ∃ C' n' b C2' ms es, d = .ins C' [n'] [.insA b C2' ms es] ∧ c1 = c ∧ (b ≠ a → Φ d c)
theorem pd_apart (i : Nat) (h : PD X e t) : PD X e (dApart i t) := PE.imp h fun σ H Q ⟨m, ρ, c, Φ, S, ⟨C, n, a, C2, ns, ds, hi, hp, w⟩, q⟩ => by
  obtain ⟨v, hv, r⟩ := S.sl i _ hi
  obtain ⟨b, dx, fs, rfl, h1, h2, h3⟩ := r
  obtain ⟨u, us, e1, ⟨dy, gs, e2, ha, _⟩, _⟩ := h3
  have hx : a ∉ m.ix := (hid_some ha).1.1
  refine ⟨m.hide a, ρ.map fun _ => none, c, _, ⟨cr_hide S.cr hp (hid_some ha).2 hx, by rw [List.length_map]; exact S.len, fun j d hj => ?_⟩, w, fun d c1 v H1 m1 ⟨C', n', b', C2', ms, es, ed, ec, hΦ⟩ C1 R L => ?_⟩
  · rw [List.getElem?_map] at hj
    cases z : ρ[j]? with
    | none => rw [z] at hj; cases hj
    | some y => rw [z] at hj; cases hj
  · subst ed ec
    have ne : b' ≠ a := by
      obtain ⟨p, dz, hs, rfl, k1, k2, k3⟩ := R
      obtain ⟨u', us', e1', ⟨dy', gs', e2', ha', _⟩, _⟩ := k3
      rintro rfl
      exact (hid_some ha').1.2 (by rw [show m1.hd = _ from L.hd]; exact .head _)
    exact q _ _ v H1 _ (hΦ ne) (cr_show S.cr hp ha C1 L) (R.mono (ex_hide (m := ⟨m1.ix, m.hd⟩) (m1 := m1) (fun b z => by rw [show m1.hd = _ from L.hd]; exact List.mem_cons_of_mem _ z) rfl) (fun _ _ z => z) _ _) (le_show ha C1 L)
end
/-! ### len of a dict of names -/
section
variable {X : Cx} {e : Expr} {ta : TD} {pos pp : Pos}
def rLenD : List V → Hp → VK → Prop := fun xs H Q => ∃ a kvs, xs = [.ref a] ∧ Rd H a (.dK kvs) ∧ Q (.int kvs.length) H
theorem call_lenD : CallR X (.builtin "len") rLenD := by
  intro pins s σ H xs us Q I r h
  obtain ⟨a, kvs, rfl, h, q⟩ := h
  obtain rfl := Vals.ref1 r
  exact d_len I h fun t s' I' => ⟨.int kvs.length, H, I', ⟨t, rfl⟩, q⟩
def fLenD : F1
  | .dct ks _, c, Φ => Φ (.int ks.length) c
  | _, _, _ => False
theorem l1_lenD {K : PySem.W.Frag} : L1f K fLenD (fun u H Q => rLenD [u] H Q) := by
  intro x c Φ h H m u C r Q q
  cases x <;> first | exact h.elim | skip
  obtain ⟨a, kvs, rfl, h1, h2, _⟩ := r
  refine ⟨a, kvs, rfl, h1, ?_⟩
  have e : kvs.length = (kvs.map (·.1)).length := by simp
  rw [e, h2]
  exact q.pure C h rfl
theorem pd_lenD (ha : PD X e ta) (hm : X.mg "len" = none) (hg : Gl X "len" := by rfl) (he : starEach [e] X.env = (false, eval e X.env) :: starEach [] X.env := by rfl) (hpl : (backTo pos (starEach [] X.env)).any (·.1) = false := by rfl) :
    PD X (.Call (.Name "len" pp) [e] [] pos) (dCB (un1 fLenD) (dCons ta dNil)) := pd_B1 call_lenD l1_lenD boot_len (by decide) (by decide) ha hg hm he hpl
end
end Cw

namespace K17
open PySem PySem.Spec PyProof.Rows L2 Cw
def topS (i : Nat) : Stmt := PySem.Challenge.pw_cornerways_k17_equal_and_unlike_values.main.body.getD i (.Pass ⟨0, 0, 0, 0⟩)
abbrev st_is_letters : Stmt := topS 24
theorem sc_is_letters : FnScope ["text", "most", "sign"] ["text", "most"] (defScope st_is_letters) := ⟨rfl, rfl, rfl, by decide +kernel, rfl, by decide +kernel, by decide +kernel⟩
abbrev st_is_word : Stmt := topS 25
theorem sc_is_word : FnScope ["value"] ["value"] (defScope st_is_word) := ⟨rfl, rfl, rfl, by decide +kernel, rfl, by decide +kernel, by decide +kernel⟩
abbrev st_number_of : Stmt := topS 28
theorem sc_number_of : FnScope ["text", "least", "most"] ["text", "least", "most"] (defScope st_number_of) := ⟨rfl, rfl, rfl, by decide +kernel, rfl, by decide +kernel, by decide +kernel⟩
abbrev st_signs_of : Stmt := topS 40
theorem sc_signs_of : FnScope ["line", "words"] ["line"] (defScope st_signs_of) := ⟨rfl, rfl, rfl, by decide +kernel, rfl, by decide +kernel, by decide +kernel⟩
abbrev st_states_of : Stmt := topS 41
theorem sc_states_of : FnScope ["signs", "phase", "way"] ["signs"] (defScope st_states_of) := ⟨rfl, rfl, rfl, by decide +kernel, rfl, by decide +kernel, by decide +kernel⟩
abbrev st_piece_of : Stmt := topS 42
theorem sc_piece_of : FnScope ["line", "states", "words", "name", "begin", "end", "length", "cost"] ["line", "states"] (defScope st_piece_of) := ⟨rfl, rfl, rfl, by decide +kernel, rfl, by decide +kernel, by decide +kernel⟩
abbrev st_corner_of : Stmt := topS 43
theorem sc_corner_of : FnScope ["line", "states", "words", "name", "turn", "begin", "end", "cost"] ["line", "states"] (defScope st_corner_of) := ⟨rfl, rfl, rfl, by decide +kernel, rfl, by decide +kernel, by decide +kernel⟩
abbrev st_names_of : Stmt := topS 44
theorem sc_names_of : FnScope ["rows", "row"] ["rows"] (defScope st_names_of) := ⟨rfl, rfl, rfl, by decide +kernel, rfl, by decide +kernel, by decide +kernel⟩
abbrev st_pieces_fit : Stmt := topS 45
theorem sc_pieces_fit : FnScope ["pieces"] ["pieces"] (defScope st_pieces_fit) := ⟨rfl, rfl, rfl, by decide +kernel, rfl, by decide +kernel, by decide +kernel⟩
abbrev st_corners_fit : Stmt := topS 46
theorem sc_corners_fit : FnScope ["corners"] ["corners"] (defScope st_corners_fit) := ⟨rfl, rfl, rfl, by decide +kernel, rfl, by decide +kernel, by decide +kernel⟩
abbrev st_parts_of : Stmt := topS 47
theorem sc_parts_of : FnScope ["text", "lines", "signs", "states", "behind", "pieces", "corners", "line"] ["text"] (defScope st_parts_of) := ⟨rfl, rfl, rfl, by decide +kernel, rfl, by decide +kernel, by decide +kernel⟩
abbrev st_plus_of : Stmt := topS 51
theorem sc_plus_of : FnScope ["text", "number"] ["text"] (defScope st_plus_of) := ⟨rfl, rfl, rfl, by decide +kernel, rfl, by decide +kernel, by decide +kernel⟩
abbrev st_side_of : Stmt := topS 52
theorem sc_side_of : FnScope ["text", "words", "plus"] ["text"] (defScope st_side_of) := ⟨rfl, rfl, rfl, by decide +kernel, rfl, by decide +kernel, by decide +kernel⟩
abbrev st_sides_of : Stmt := topS 53
theorem sc_sides_of : FnScope ["text", "sides", "part"] ["text"] (defScope st_sides_of) := ⟨rfl, rfl, rfl, by decide +kernel, rfl, by decide +kernel, by decide +kernel⟩
abbrev st__law_spring : Stmt := topS 101
theorem sc__law_spring : FnScope ["_law_cells", "_law_at", "_law_own", "_law_mixed", "_law_cell"] ["_law_cells", "_law_at"] (defScope st__law_spring) := ⟨rfl, rfl, rfl, by decide +kernel, rfl, by decide +kernel, by decide +kernel⟩
abbrev st__law_take : Stmt := topS 102
theorem sc__law_take : FnScope ["_law_spring_here", "_law_much", "_law_here", "_law_factor", "_law_figure"] ["_law_spring_here", "_law_much"] (defScope st__law_take) := ⟨rfl, rfl, rfl, by decide +kernel, rfl, by decide +kernel, by decide +kernel⟩
abbrev st__law_word : Stmt := topS 103
theorem sc__law_word : FnScope ["_law_spring_here", "_law_some", "_law_small", "_law_k"] ["_law_spring_here"] (defScope st__law_word) := ⟨rfl, rfl, rfl, by decide +kernel, rfl, by decide +kernel, by decide +kernel⟩
abbrev st__law_words : Stmt := topS 104
theorem sc__law_words : FnScope ["_law_spring_here", "_law_much", "_law_found", "_law_turn", "_law_word_here"] ["_law_spring_here", "_law_much"] (defScope st__law_words) := ⟨rfl, rfl, rfl, by decide +kernel, rfl, by decide +kernel, by decide +kernel⟩
abbrev st__law_state : Stmt := topS 105
theorem sc__law_state : FnScope ["_law_spring_here", "_law_period"] ["_law_spring_here", "_law_period"] (defScope st__law_state) := ⟨rfl, rfl, rfl, by decide +kernel, rfl, by decide +kernel, by decide +kernel⟩
abbrev st__law_piece : Stmt := topS 106
theorem sc__law_piece : FnScope ["_law_spring_here", "_law_title", "_law_period", "_law_near", "_law_far"] ["_law_spring_here", "_law_title", "_law_period"] (defScope st__law_piece) := ⟨rfl, rfl, rfl, by decide +kernel, rfl, by decide +kernel, by decide +kernel⟩
abbrev st__law_joint : Stmt := topS 107
theorem sc__law_joint : FnScope ["_law_spring_here", "_law_title", "_law_period", "_law_bend", "_law_near", "_law_far"] ["_law_spring_here", "_law_title", "_law_period"] (defScope st__law_joint) := ⟨rfl, rfl, rfl, by decide +kernel, rfl, by decide +kernel, by decide +kernel⟩
abbrev st__law_spec : Stmt := topS 108
theorem sc__law_spec : FnScope ["_law_spring_here", "_law_small", "_law_period", "_law_reach", "_law_marks", "_law_parts", "_law_pool", "_law_joints", "_law_k", "_law_row", "_law_title"] ["_law_spring_here"] (defScope st__law_spec) := ⟨rfl, rfl, rfl, by decide +kernel, rfl, by decide +kernel, by decide +kernel⟩
abbrev st__law_piece_row : Stmt := topS 109
theorem sc__law_piece_row : FnScope ["_law_part", "_law_title", "_law_near", "_law_far", "_law_span", "_law_dear"] ["_law_part"] (defScope st__law_piece_row) := ⟨rfl, rfl, rfl, by decide +kernel, rfl, by decide +kernel, by decide +kernel⟩
abbrev st__law_joint_row : Stmt := topS 110
theorem sc__law_joint_row : FnScope ["_law_joint_here", "_law_title", "_law_bend", "_law_near", "_law_far", "_law_dear"] ["_law_joint_here"] (defScope st__law_joint_row) := ⟨rfl, rfl, rfl, by decide +kernel, rfl, by decide +kernel, by decide +kernel⟩
abbrev st__law_rows : Stmt := topS 111
theorem sc__law_rows : FnScope ["_law_spec_here", "_law_found", "_law_part", "_law_joint_here"] ["_law_spec_here"] (defScope st__law_rows) := ⟨rfl, rfl, rfl, by decide +kernel, rfl, by decide +kernel, by decide +kernel⟩
abbrev st__law_joined : Stmt := topS 112
theorem sc__law_joined : FnScope ["_law_spec_here"] ["_law_spec_here"] (defScope st__law_joined) := ⟨rfl, rfl, rfl, by decide +kernel, rfl, by decide +kernel, by decide +kernel⟩
abbrev st__law_shuts : Stmt := topS 113
theorem sc__law_shuts : FnScope ["_law_spring_here", "_law_most_here", "_law_reach", "_law_lean", "_law_found", "_law_k", "_law_more"] ["_law_spring_here", "_law_most_here", "_law_reach", "_law_lean"] (defScope st__law_shuts) := ⟨rfl, rfl, rfl, by decide +kernel, rfl, by decide +kernel, by decide +kernel⟩
abbrev st__law_shut_row : Stmt := topS 114
theorem sc__law_shut_row : FnScope ["_law_shut", "_law_letter", "_law_more", "_law_bend"] ["_law_shut"] (defScope st__law_shut_row) := ⟨rfl, rfl, rfl, by decide +kernel, rfl, by decide +kernel, by decide +kernel⟩
abbrev st__law_plan : Stmt := topS 115
theorem sc__law_plan : FnScope ["_law_shuts_here", "_law_shut"] ["_law_shuts_here"] (defScope st__law_plan) := ⟨rfl, rfl, rfl, by decide +kernel, rfl, by decide +kernel, by decide +kernel⟩
abbrev st__law_pair : Stmt := topS 116
theorem sc__law_pair : FnScope ["_law_first", "_law_second", "_law_same", "_law_told"] ["_law_first", "_law_second", "_law_same"] (defScope st__law_pair) := ⟨rfl, rfl, rfl, by decide +kernel, rfl, by decide +kernel, by decide +kernel⟩
abbrev st__law_right : Stmt := topS 117
theorem sc__law_right : FnScope ["_law_spring_here", "_law_spec_here", "_law_shuts_here", "_law_thing", "_law_plan_here", "_law_mate_spec", "_law_mate_shuts", "_law_letter", "_law_more", "_law_bend", "_law_mine", "_law_room_here", "_law_box", "_law_some", "_law_turn", "_law_odd"] ["_law_spring_here"] (defScope st__law_right) := ⟨rfl, rfl, rfl, by decide +kernel, rfl, by decide +kernel, by decide +kernel⟩
abbrev st_law : Stmt := topS 118
theorem sc_law : FnScope ["_law_cells", "_law_at"] ["_law_cells"] (defScope st_law) := ⟨rfl, rfl, rfl, by decide +kernel, rfl, by decide +kernel, by decide +kernel⟩
abbrev st_Borders___init__ : Stmt := inClass (topS 48) 0
theorem sc_Borders___init__ : FnScope ["self", "text", "parts"] ["self", "text"] (defScope st_Borders___init__) := ⟨rfl, rfl, rfl, by decide +kernel, rfl, by decide +kernel, by decide +kernel⟩
abbrev st_Borders_text : Stmt := inClass (topS 48) 1
theorem sc_Borders_text : FnScope ["self"] ["self"] (defScope st_Borders_text) := ⟨rfl, rfl, rfl, by decide +kernel, rfl, by decide +kernel, by decide +kernel⟩
abbrev st_Borders___eq__ : Stmt := inClass (topS 48) 9
theorem sc_Borders___eq__ : FnScope ["self", "other"] ["self", "other"] (defScope st_Borders___eq__) := ⟨rfl, rfl, rfl, by decide +kernel, rfl, by decide +kernel, by decide +kernel⟩
abbrev st_Room___init__ : Stmt := inClass (topS 56) 0
theorem sc_Room___init__ : FnScope ["self", "text", "sides", "side"] ["self", "text"] (defScope st_Room___init__) := ⟨rfl, rfl, rfl, by decide +kernel, rfl, by decide +kernel, by decide +kernel⟩
abbrev st_Room_text : Stmt := inClass (topS 56) 2
abbrev st_Room___eq__ : Stmt := inClass (topS 56) 6
theorem sc_Room___eq__ : FnScope ["self", "other"] ["self", "other"] (defScope st_Room___eq__) := ⟨rfl, rfl, rfl, by decide +kernel, rfl, by decide +kernel, by decide +kernel⟩
abbrev st_Room___len__ : Stmt := inClass (topS 56) 8
theorem sc_Room___len__ : FnScope ["self"] ["self"] (defScope st_Room___len__) := ⟨rfl, rfl, rfl, by decide +kernel, rfl, by decide +kernel, by decide +kernel⟩
abbrev st_Page___init__ : Stmt := inClass (topS 98) 0
theorem sc_Page___init__ : FnScope ["self", "shelf", "row", "behind"] ["self", "shelf", "row", "behind"] (defScope st_Page___init__) := ⟨rfl, rfl, rfl, by decide +kernel, rfl, by decide +kernel, by decide +kernel⟩
abbrev st_Book___init__ : Stmt := inClass (topS 99) 0
theorem sc_Book___init__ : FnScope ["self"] ["self"] (defScope st_Book___init__) := ⟨rfl, rfl, rfl, by decide +kernel, rfl, by decide +kernel, by decide +kernel⟩
abbrev st_Book___len__ : Stmt := inClass (topS 99) 13
theorem sc_Book___len__ : FnScope ["self"] ["self"] (defScope st_Book___len__) := ⟨rfl, rfl, rfl, by decide +kernel, rfl, by decide +kernel, by decide +kernel⟩
abbrev st_Book___bool__ : Stmt := inClass (topS 99) 14
theorem sc_Book___bool__ : FnScope ["self"] ["self"] (defScope st_Book___bool__) := ⟨rfl, rfl, rfl, by decide +kernel, rfl, by decide +kernel, by decide +kernel⟩
abbrev st_Book___eq__ : Stmt := inClass (topS 99) 15
theorem sc_Book___eq__ : FnScope ["self", "other"] ["self", "other"] (defScope st_Book___eq__) := ⟨rfl, rfl, rfl, by decide +kernel, rfl, by decide +kernel, by decide +kernel⟩
def gOwnX (C : Addr) (Ds : List Addr) : Ty → Option Bool
  | .ins D => if D = C then some true else if Ds.contains D then some false else none
  | _ => some false
def gOwn (C : Addr) : Ty → Option Bool
  | .ins D => if D = C then some true else none
  | _ => some false
set_option maxHeartbeats 0 in
structure Tx (K : PySem.W.Frag) (mg : Str → Option Value) where
  n_all : mg "all" = none
  n_len : mg "len" = none
  n_isinstance : mg "isinstance" = none
  n_str : mg "str" = none
  n_int : mg "int" = none
  n_tuple : mg "tuple" = none
  n_range : mg "range" = none
  n_sorted : mg "sorted" = none
  n_set : mg "set" = none
  n_abs : mg "abs" = none
  n_divmod : mg "divmod" = none
  n_repr : mg "repr" = none
  n_bool : mg "bool" = none
  n_max : mg "max" = none
  n_min : mg "min" = none
  c_LETTERS : ∃ t, mg "LETTERS" = some (.str "abcdefghijklmnopqrstuvwxyz" t)
  c_DIGITS : ∃ t, mg "DIGITS" = some (.str "0123456789" t)
  c_LONGEST_WORD : ∃ t, mg "LONGEST_WORD" = some (.int 8 t)
  c_MOST_CLAIMED : ∃ t, mg "MOST_CLAIMED" = some (.int 1000 t)
  c_MOST_SIGNS : ∃ t, mg "MOST_SIGNS" = some (.int 5 t)
  c_MOST_PIECES : ∃ t, mg "MOST_PIECES" = some (.int 8 t)
  c_MOST_CORNERS : ∃ t, mg "MOST_CORNERS" = some (.int 12 t)
  c_MOST_NAMES : ∃ t, mg "MOST_NAMES" = some (.int 4 t)
  c_MOST_LONG : ∃ t, mg "MOST_LONG" = some (.int 6 t)
  c_MOST_COST : ∃ t, mg "MOST_COST" = some (.int 9 t)
  c_MOST_SIDES : ∃ t, mg "MOST_SIDES" = some (.int 12 t)
  c_MOST_PLUS : ∃ t, mg "MOST_PLUS" = some (.int 9 t)
  c_MOST_SIZE : ∃ t, mg "MOST_SIZE" = some (.int 1000000000000000000000000000000 t)
  c_MOST_TABLE : ∃ t, mg "MOST_TABLE" = some (.int 900 t)
  c_NO_COST : ∃ t, mg "NO_COST" = some (.int 1000000 t)
  c_TURNS : TupK K mg "TURNS" ["out", "in"]
  c_SIDE_LETTERS : TupK K mg "SIDE_LETTERS" ["x", "y", "z"]
  a_is_letters : Addr
  d_is_letters : FuncData
  F_is_letters : Fun K "is_letters" "is_letters" st_is_letters a_is_letters d_is_letters
  g_is_letters : mg "is_letters" = some (.ref a_is_letters)
  b_is_letters : Binds K d_is_letters ["text", "most"] []
  a_is_word : Addr
  d_is_word : FuncData
  F_is_word : Fun K "is_word" "is_word" st_is_word a_is_word d_is_word
  g_is_word : mg "is_word" = some (.ref a_is_word)
  b_is_word : Binds K d_is_word ["value"] []
  a_number_of : Addr
  d_number_of : FuncData
  F_number_of : Fun K "number_of" "number_of" st_number_of a_number_of d_number_of
  g_number_of : mg "number_of" = some (.ref a_number_of)
  b_number_of : Binds K d_number_of ["text", "least", "most"] []
  a_signs_of : Addr
  d_signs_of : FuncData
  F_signs_of : Fun K "signs_of" "signs_of" st_signs_of a_signs_of d_signs_of
  g_signs_of : mg "signs_of" = some (.ref a_signs_of)
  b_signs_of : Binds K d_signs_of ["line"] []
  a_states_of : Addr
  d_states_of : FuncData
  F_states_of : Fun K "states_of" "states_of" st_states_of a_states_of d_states_of
  g_states_of : mg "states_of" = some (.ref a_states_of)
  b_states_of : Binds K d_states_of ["signs"] []
  a_piece_of : Addr
  d_piece_of : FuncData
  F_piece_of : Fun K "piece_of" "piece_of" st_piece_of a_piece_of d_piece_of
  g_piece_of : mg "piece_of" = some (.ref a_piece_of)
  b_piece_of : Binds K d_piece_of ["line", "states"] []
  a_corner_of : Addr
  d_corner_of : FuncData
  F_corner_of : Fun K "corner_of" "corner_of" st_corner_of a_corner_of d_corner_of
  g_corner_of : mg "corner_of" = some (.ref a_corner_of)
  b_corner_of : Binds K d_corner_of ["line", "states"] []
  a_names_of : Addr
  d_names_of : FuncData
  F_names_of : Fun K "names_of" "names_of" st_names_of a_names_of d_names_of
  g_names_of : mg "names_of" = some (.ref a_names_of)
  b_names_of : Binds K d_names_of ["rows"] []
  a_pieces_fit : Addr
  d_pieces_fit : FuncData
  F_pieces_fit : Fun K "pieces_fit" "pieces_fit" st_pieces_fit a_pieces_fit d_pieces_fit
  g_pieces_fit : mg "pieces_fit" = some (.ref a_pieces_fit)
  b_pieces_fit : Binds K d_pieces_fit ["pieces"] []
  a_corners_fit : Addr
  d_corners_fit : FuncData
  F_corners_fit : Fun K "corners_fit" "corners_fit" st_corners_fit a_corners_fit d_corners_fit
  g_corners_fit : mg "corners_fit" = some (.ref a_corners_fit)
  b_corners_fit : Binds K d_corners_fit ["corners"] []
  a_parts_of : Addr
  d_parts_of : FuncData
  F_parts_of : Fun K "parts_of" "parts_of" st_parts_of a_parts_of d_parts_of
  g_parts_of : mg "parts_of" = some (.ref a_parts_of)
  b_parts_of : Binds K d_parts_of ["text"] []
  a_plus_of : Addr
  d_plus_of : FuncData
  F_plus_of : Fun K "plus_of" "plus_of" st_plus_of a_plus_of d_plus_of
  g_plus_of : mg "plus_of" = some (.ref a_plus_of)
  b_plus_of : Binds K d_plus_of ["text"] []
  a_side_of : Addr
  d_side_of : FuncData
  F_side_of : Fun K "side_of" "side_of" st_side_of a_side_of d_side_of
  g_side_of : mg "side_of" = some (.ref a_side_of)
  b_side_of : Binds K d_side_of ["text"] []
  a_sides_of : Addr
  d_sides_of : FuncData
  F_sides_of : Fun K "sides_of" "sides_of" st_sides_of a_sides_of d_sides_of
  g_sides_of : mg "sides_of" = some (.ref a_sides_of)
  b_sides_of : Binds K d_sides_of ["text"] []
  a__law_spring : Addr
  d__law_spring : FuncData
  F__law_spring : Fun K "_law_spring" "_law_spring" st__law_spring a__law_spring d__law_spring
  g__law_spring : mg "_law_spring" = some (.ref a__law_spring)
  b__law_spring : Binds K d__law_spring ["_law_cells", "_law_at"] []
  a__law_take : Addr
  d__law_take : FuncData
  F__law_take : Fun K "_law_take" "_law_take" st__law_take a__law_take d__law_take
  g__law_take : mg "_law_take" = some (.ref a__law_take)
  b__law_take : Binds K d__law_take ["_law_spring_here", "_law_much"] []
  a__law_word : Addr
  d__law_word : FuncData
  F__law_word : Fun K "_law_word" "_law_word" st__law_word a__law_word d__law_word
  g__law_word : mg "_law_word" = some (.ref a__law_word)
  b__law_word : Binds K d__law_word ["_law_spring_here"] []
  a__law_words : Addr
  d__law_words : FuncData
  F__law_words : Fun K "_law_words" "_law_words" st__law_words a__law_words d__law_words
  g__law_words : mg "_law_words" = some (.ref a__law_words)
  b__law_words : Binds K d__law_words ["_law_spring_here", "_law_much"] []
  a__law_state : Addr
  d__law_state : FuncData
  F__law_state : Fun K "_law_state" "_law_state" st__law_state a__law_state d__law_state
  g__law_state : mg "_law_state" = some (.ref a__law_state)
  b__law_state : Binds K d__law_state ["_law_spring_here", "_law_period"] []
  a__law_piece : Addr
  d__law_piece : FuncData
  F__law_piece : Fun K "_law_piece" "_law_piece" st__law_piece a__law_piece d__law_piece
  g__law_piece : mg "_law_piece" = some (.ref a__law_piece)
  b__law_piece : Binds K d__law_piece ["_law_spring_here", "_law_title", "_law_period"] []
  a__law_joint : Addr
  d__law_joint : FuncData
  F__law_joint : Fun K "_law_joint" "_law_joint" st__law_joint a__law_joint d__law_joint
  g__law_joint : mg "_law_joint" = some (.ref a__law_joint)
  b__law_joint : Binds K d__law_joint ["_law_spring_here", "_law_title", "_law_period"] []
  a__law_spec : Addr
  d__law_spec : FuncData
  F__law_spec : Fun K "_law_spec" "_law_spec" st__law_spec a__law_spec d__law_spec
  g__law_spec : mg "_law_spec" = some (.ref a__law_spec)
  b__law_spec : Binds K d__law_spec ["_law_spring_here"] []
  a__law_piece_row : Addr
  d__law_piece_row : FuncData
  F__law_piece_row : Fun K "_law_piece_row" "_law_piece_row" st__law_piece_row a__law_piece_row d__law_piece_row
  g__law_piece_row : mg "_law_piece_row" = some (.ref a__law_piece_row)
  b__law_piece_row : Binds K d__law_piece_row ["_law_part"] []
  a__law_joint_row : Addr
  d__law_joint_row : FuncData
  F__law_joint_row : Fun K "_law_joint_row" "_law_joint_row" st__law_joint_row a__law_joint_row d__law_joint_row
  g__law_joint_row : mg "_law_joint_row" = some (.ref a__law_joint_row)
  b__law_joint_row : Binds K d__law_joint_row ["_law_joint_here"] []
  a__law_rows : Addr
  d__law_rows : FuncData
  F__law_rows : Fun K "_law_rows" "_law_rows" st__law_rows a__law_rows d__law_rows
  g__law_rows : mg "_law_rows" = some (.ref a__law_rows)
  b__law_rows : Binds K d__law_rows ["_law_spec_here"] []
  a__law_joined : Addr
  d__law_joined : FuncData
  F__law_joined : Fun K "_law_joined" "_law_joined" st__law_joined a__law_joined d__law_joined
  g__law_joined : mg "_law_joined" = some (.ref a__law_joined)
  b__law_joined : Binds K d__law_joined ["_law_spec_here"] []
  a__law_shuts : Addr
  d__law_shuts : FuncData
  F__law_shuts : Fun K "_law_shuts" "_law_shuts" st__law_shuts a__law_shuts d__law_shuts
  g__law_shuts : mg "_law_shuts" = some (.ref a__law_shuts)
  b__law_shuts : Binds K d__law_shuts ["_law_spring_here", "_law_most_here", "_law_reach", "_law_lean"] []
  a__law_shut_row : Addr
  d__law_shut_row : FuncData
  F__law_shut_row : Fun K "_law_shut_row" "_law_shut_row" st__law_shut_row a__law_shut_row d__law_shut_row
  g__law_shut_row : mg "_law_shut_row" = some (.ref a__law_shut_row)
  b__law_shut_row : Binds K d__law_shut_row ["_law_shut"] []
  a__law_plan : Addr
  d__law_plan : FuncData
  F__law_plan : Fun K "_law_plan" "_law_plan" st__law_plan a__law_plan d__law_plan
  g__law_plan : mg "_law_plan" = some (.ref a__law_plan)
  b__law_plan : Binds K d__law_plan ["_law_shuts_here"] []
  a__law_pair : Addr
  d__law_pair : FuncData
  F__law_pair : Fun K "_law_pair" "_law_pair" st__law_pair a__law_pair d__law_pair
  g__law_pair : mg "_law_pair" = some (.ref a__law_pair)
  b__law_pair : Binds K d__law_pair ["_law_first", "_law_second", "_law_same"] []
  a__law_right : Addr
  d__law_right : FuncData
  F__law_right : Fun K "_law_right" "_law_right" st__law_right a__law_right d__law_right
  g__law_right : mg "_law_right" = some (.ref a__law_right)
  b__law_right : Binds K d__law_right ["_law_spring_here"] []
  a_law : Addr
  d_law : FuncData
  F_law : Fun K "law" "law" st_law a_law d_law
  g_law : mg "law" = some (.ref a_law)
  b_law : Binds K d_law ["_law_cells"] []
  C_Borders : Addr
  g_Borders : mg "Borders" = some (.ref C_Borders)
  cl_Borders : Cls K C_Borders
  na_whole : NoAttr K C_Borders "whole"
  na_all_states : NoAttr K C_Borders "all_states"
  na_corner_names : NoAttr K C_Borders "corner_names"
  na_motif : NoAttr K C_Borders "motif"
  na_piece_rows : NoAttr K C_Borders "piece_rows"
  na_corner_rows : NoAttr K C_Borders "corner_rows"
  ne_Borders : PySem.W.findIn K (.ref C_Borders) "__ne__" = some (some (.builtin "object.__ne__"))
  mro_Borders : PySem.W.mroIn K C_Borders (.type "object") = some true
  bool_Borders : PySem.W.findIn K (.ref C_Borders) "__bool__" = some none
  i_Borders : IsiT K (.ref C_Borders) (gOwn C_Borders)
  nolen_Borders : PySem.W.findIn K (.ref C_Borders) "__len__" = some none
  a_Borders___init__ : Addr
  d_Borders___init__ : FuncData
  F_Borders___init__ : Fun K "__init__" "Borders.__init__" st_Borders___init__ a_Borders___init__ d_Borders___init__
  b_Borders___init__ : Binds K d_Borders___init__ ["self", "text"] []
  mk_Borders : Mk K C_Borders a_Borders___init__
  kb_Borders : KBn K d_Borders___init__ ["self", "text"] 1 ["text"] (fun us ws => us ++ ws) (fun us ws => us ++ ws)
  a_Borders_text : Addr
  d_Borders_text : FuncData
  F_Borders_text : Fun K "text" "Borders.text" st_Borders_text a_Borders_text d_Borders_text
  b_Borders_text : Binds K d_Borders_text ["self"] []
  p_Borders_text : Addr
  P_Borders_text : PropOf K C_Borders "text" p_Borders_text a_Borders_text
  a_Borders___eq__ : Addr
  d_Borders___eq__ : FuncData
  F_Borders___eq__ : Fun K "__eq__" "Borders.__eq__" st_Borders___eq__ a_Borders___eq__ d_Borders___eq__
  b_Borders___eq__ : Binds K d_Borders___eq__ ["self", "other"] []
  f_Borders___eq__ : PySem.W.findIn K (.ref C_Borders) "__eq__" = some (some (.ref a_Borders___eq__))
  k_Borders___eq__ : PySem.W.isFn K (.ref a_Borders___eq__) = true
  C_Room : Addr
  g_Room : mg "Room" = some (.ref C_Room)
  cl_Room : Cls K C_Room
  na_Room_whole : NoAttr K C_Room "whole"
  na_rows : NoAttr K C_Room "rows"
  na_alphabet : NoAttr K C_Room "alphabet"
  ne_Room : PySem.W.findIn K (.ref C_Room) "__ne__" = some (some (.builtin "object.__ne__"))
  mro_Room : PySem.W.mroIn K C_Room (.type "object") = some true
  bool_Room : PySem.W.findIn K (.ref C_Room) "__bool__" = some none
  i_Room : IsiT K (.ref C_Room) (gOwn C_Room)
  a_Room___init__ : Addr
  d_Room___init__ : FuncData
  F_Room___init__ : Fun K "__init__" "Room.__init__" st_Room___init__ a_Room___init__ d_Room___init__
  b_Room___init__ : Binds K d_Room___init__ ["self", "text"] []
  mk_Room : Mk K C_Room a_Room___init__
  kb_Room : KBn K d_Room___init__ ["self", "text"] 1 ["text"] (fun us ws => us ++ ws) (fun us ws => us ++ ws)
  a_Room_text : Addr
  d_Room_text : FuncData
  F_Room_text : Fun K "text" "Room.text" st_Room_text a_Room_text d_Room_text
  b_Room_text : Binds K d_Room_text ["self"] []
  p_Room_text : Addr
  P_Room_text : PropOf K C_Room "text" p_Room_text a_Room_text
  a_Room___eq__ : Addr
  d_Room___eq__ : FuncData
  F_Room___eq__ : Fun K "__eq__" "Room.__eq__" st_Room___eq__ a_Room___eq__ d_Room___eq__
  b_Room___eq__ : Binds K d_Room___eq__ ["self", "other"] []
  f_Room___eq__ : PySem.W.findIn K (.ref C_Room) "__eq__" = some (some (.ref a_Room___eq__))
  k_Room___eq__ : PySem.W.isFn K (.ref a_Room___eq__) = true
  a_Room___len__ : Addr
  d_Room___len__ : FuncData
  F_Room___len__ : Fun K "__len__" "Room.__len__" st_Room___len__ a_Room___len__ d_Room___len__
  b_Room___len__ : Binds K d_Room___len__ ["self"] []
  f_Room___len__ : PySem.W.findIn K (.ref C_Room) "__len__" = some (some (.ref a_Room___len__))
  k_Room___len__ : PySem.W.isFn K (.ref a_Room___len__) = true
  C_Page : Addr
  g_Page : mg "Page" = some (.ref C_Page)
  cl_Page : Cls K C_Page
  na_shelf : NoAttr K C_Page "shelf"
  na_row : NoAttr K C_Page "row"
  na_behind : NoAttr K C_Page "behind"
  na_many : NoAttr K C_Page "many"
  ne_Page : PySem.W.findIn K (.ref C_Page) "__ne__" = some (some (.builtin "object.__ne__"))
  mro_Page : PySem.W.mroIn K C_Page (.type "object") = some true
  bool_Page : PySem.W.findIn K (.ref C_Page) "__bool__" = some none
  i_Page : IsiT K (.ref C_Page) (gOwn C_Page)
  nolen_Page : PySem.W.findIn K (.ref C_Page) "__len__" = some none
  a_Page___init__ : Addr
  d_Page___init__ : FuncData
  F_Page___init__ : Fun K "__init__" "Page.__init__" st_Page___init__ a_Page___init__ d_Page___init__
  b_Page___init__ : Binds K d_Page___init__ ["self", "shelf", "row", "behind"] []
  mk_Page : Mk K C_Page a_Page___init__
  kb_Page : KBn K d_Page___init__ ["self", "shelf", "row", "behind"] 1 ["shelf", "row", "behind"] (fun us ws => us ++ ws) (fun us ws => us ++ ws)
  C_Book : Addr
  g_Book : mg "Book" = some (.ref C_Book)
  cl_Book : Cls K C_Book
  na_page : NoAttr K C_Book "page"
  ne_Book : PySem.W.findIn K (.ref C_Book) "__ne__" = some (some (.builtin "object.__ne__"))
  mro_Book : PySem.W.mroIn K C_Book (.type "object") = some true
  i_Book : IsiT K (.ref C_Book) (gOwn C_Book)
  a_Book___init__ : Addr
  d_Book___init__ : FuncData
  F_Book___init__ : Fun K "__init__" "Book.__init__" st_Book___init__ a_Book___init__ d_Book___init__
  b_Book___init__ : Binds K d_Book___init__ ["self"] []
  mk_Book : Mk K C_Book a_Book___init__
  kb_Book : KBn K d_Book___init__ ["self"] 1 [] (fun us ws => us ++ ws) (fun us ws => us ++ ws)
  a_Book___len__ : Addr
  d_Book___len__ : FuncData
  F_Book___len__ : Fun K "__len__" "Book.__len__" st_Book___len__ a_Book___len__ d_Book___len__
  b_Book___len__ : Binds K d_Book___len__ ["self"] []
  f_Book___len__ : PySem.W.findIn K (.ref C_Book) "__len__" = some (some (.ref a_Book___len__))
  k_Book___len__ : PySem.W.isFn K (.ref a_Book___len__) = true
  a_Book___bool__ : Addr
  d_Book___bool__ : FuncData
  F_Book___bool__ : Fun K "__bool__" "Book.__bool__" st_Book___bool__ a_Book___bool__ d_Book___bool__
  b_Book___bool__ : Binds K d_Book___bool__ ["self"] []
  f_Book___bool__ : PySem.W.findIn K (.ref C_Book) "__bool__" = some (some (.ref a_Book___bool__))
  k_Book___bool__ : PySem.W.isFn K (.ref a_Book___bool__) = true
  a_Book___eq__ : Addr
  d_Book___eq__ : FuncData
  F_Book___eq__ : Fun K "__eq__" "Book.__eq__" st_Book___eq__ a_Book___eq__ d_Book___eq__
  b_Book___eq__ : Binds K d_Book___eq__ ["self", "other"] []
  f_Book___eq__ : PySem.W.findIn K (.ref C_Book) "__eq__" = some (some (.ref a_Book___eq__))
  k_Book___eq__ : PySem.W.isFn K (.ref a_Book___eq__) = true
  ix_Borders : IsiT K (.ref C_Borders) (gOwnX C_Borders [C_Room, C_Book])
  sx_Borders_Room : PySem.W.subIn K (.ref C_Room) (.ref C_Borders) = some false
  nx_Borders_Room : C_Room ≠ C_Borders
  sx_Borders_Book : PySem.W.subIn K (.ref C_Book) (.ref C_Borders) = some false
  nx_Borders_Book : C_Book ≠ C_Borders
  st_Borders_NoneType : PySem.W.subIn K (.ref C_Borders) (.type "NoneType") = some false
  su_Borders_NoneType : PySem.W.subIn K (.type "NoneType") (.ref C_Borders) = some false
  st_Borders_bool : PySem.W.subIn K (.ref C_Borders) (.type "bool") = some false
  su_Borders_bool : PySem.W.subIn K (.type "bool") (.ref C_Borders) = some false
  st_Borders_int : PySem.W.subIn K (.ref C_Borders) (.type "int") = some false
  su_Borders_int : PySem.W.subIn K (.type "int") (.ref C_Borders) = some false
  st_Borders_str : PySem.W.subIn K (.ref C_Borders) (.type "str") = some false
  su_Borders_str : PySem.W.subIn K (.type "str") (.ref C_Borders) = some false
  st_Borders_tuple : PySem.W.subIn K (.ref C_Borders) (.type "tuple") = some false
  su_Borders_tuple : PySem.W.subIn K (.type "tuple") (.ref C_Borders) = some false
  st_Borders_list : PySem.W.subIn K (.ref C_Borders) (.type "list") = some false
  su_Borders_list : PySem.W.subIn K (.type "list") (.ref C_Borders) = some false
  st_Borders_dict : PySem.W.subIn K (.ref C_Borders) (.type "dict") = some false
  su_Borders_dict : PySem.W.subIn K (.type "dict") (.ref C_Borders) = some false
  ix_Room : IsiT K (.ref C_Room) (gOwnX C_Room [C_Borders, C_Book])
  sx_Room_Borders : PySem.W.subIn K (.ref C_Borders) (.ref C_Room) = some false
  nx_Room_Borders : C_Borders ≠ C_Room
  sx_Room_Book : PySem.W.subIn K (.ref C_Book) (.ref C_Room) = some false
  nx_Room_Book : C_Book ≠ C_Room
  st_Room_NoneType : PySem.W.subIn K (.ref C_Room) (.type "NoneType") = some false
  su_Room_NoneType : PySem.W.subIn K (.type "NoneType") (.ref C_Room) = some false
  st_Room_bool : PySem.W.subIn K (.ref C_Room) (.type "bool") = some false
  su_Room_bool : PySem.W.subIn K (.type "bool") (.ref C_Room) = some false
  st_Room_int : PySem.W.subIn K (.ref C_Room) (.type "int") = some false
  su_Room_int : PySem.W.subIn K (.type "int") (.ref C_Room) = some false
  st_Room_str : PySem.W.subIn K (.ref C_Room) (.type "str") = some false
  su_Room_str : PySem.W.subIn K (.type "str") (.ref C_Room) = some false
  st_Room_tuple : PySem.W.subIn K (.ref C_Room) (.type "tuple") = some false
  su_Room_tuple : PySem.W.subIn K (.type "tuple") (.ref C_Room) = some false
  st_Room_list : PySem.W.subIn K (.ref C_Room) (.type "list") = some false
  su_Room_list : PySem.W.subIn K (.type "list") (.ref C_Room) = some false
  st_Room_dict : PySem.W.subIn K (.ref C_Room) (.type "dict") = some false
  su_Room_dict : PySem.W.subIn K (.type "dict") (.ref C_Room) = some false
  ix_Book : IsiT K (.ref C_Book) (gOwnX C_Book [C_Borders, C_Room])
  sx_Book_Borders : PySem.W.subIn K (.ref C_Borders) (.ref C_Book) = some false
  nx_Book_Borders : C_Borders ≠ C_Book
  sx_Book_Room : PySem.W.subIn K (.ref C_Room) (.ref C_Book) = some false
  nx_Book_Room : C_Room ≠ C_Book
  st_Book_NoneType : PySem.W.subIn K (.ref C_Book) (.type "NoneType") = some false
  su_Book_NoneType : PySem.W.subIn K (.type "NoneType") (.ref C_Book) = some false
  st_Book_bool : PySem.W.subIn K (.ref C_Book) (.type "bool") = some false
  su_Book_bool : PySem.W.subIn K (.type "bool") (.ref C_Book) = some false
  st_Book_int : PySem.W.subIn K (.ref C_Book) (.type "int") = some false
  su_Book_int : PySem.W.subIn K (.type "int") (.ref C_Book) = some false
  st_Book_str : PySem.W.subIn K (.ref C_Book) (.type "str") = some false
  su_Book_str : PySem.W.subIn K (.type "str") (.ref C_Book) = some false
  st_Book_tuple : PySem.W.subIn K (.ref C_Book) (.type "tuple") = some false
  su_Book_tuple : PySem.W.subIn K (.type "tuple") (.ref C_Book) = some false
  st_Book_list : PySem.W.subIn K (.ref C_Book) (.type "list") = some false
  su_Book_list : PySem.W.subIn K (.type "list") (.ref C_Book) = some false
  st_Book_dict : PySem.W.subIn K (.ref C_Book) (.type "dict") = some false
  su_Book_dict : PySem.W.subIn K (.type "dict") (.ref C_Book) = some false
  eq_Page : PySem.W.findIn K (.ref C_Page) "__eq__" = some (some (.builtin "object.__eq__"))
theorem own_is {C D : Addr} {b : Bool} (h : gOwn C (.ins D) = some b) : D = C := by
  have h : (if D = C then some true else none) = some b := h
  by_cases e : D = C
  · exact e
  · rw [if_neg e] at h; cases h
theorem own_kit {K : PySem.W.Frag} {C : Addr} (k0 : PySem.W.kitOne K (.type "NoneType") (.ref C) = some false) (k1 : PySem.W.kitOne K (.type "bool") (.ref C) = some false) (k2 : PySem.W.kitOne K (.type "int") (.ref C) = some false) (k3 : PySem.W.kitOne K (.type "str") (.ref C) = some false) (k4 : PySem.W.kitOne K (.type "tuple") (.ref C) = some false) (k5 : PySem.W.kitOne K (.type "list") (.ref C) = some false) (k6 : PySem.W.kitOne K (.type "dict") (.ref C) = some false) (t : Ty) (b : Bool) (h : gOwn C t = some b) : PySem.W.kitOne K t.val (.ref C) = some b := by
  cases t <;> first | (cases h; first | exact k0 | exact k1 | exact k2 | exact k3 | exact k4 | exact k5 | exact k6) | skip
  rename_i D
  have e := own_is h
  subst e
  have h : (if D = D then some true else none) = some b := h
  rw [if_pos rfl] at h
  cases h
  show PySem.W.kitOne K (.ref D) (.ref D) = some true
  unfold PySem.W.kitOne
  rw [if_pos (by simp)]
theorem own_ne {K : PySem.W.Frag} {C D : Addr} (h : PySem.W.kitOne K (.ref D) (.ref C) = some false) : D ≠ C := by
  rintro rfl
  unfold PySem.W.kitOne at h
  rw [if_pos (by simp)] at h
  cases h
theorem all_nil {P : Addr → Prop} : ∀ D ∈ ([] : List Addr), P D := fun _ h => nomatch h
theorem all_cons {P : Addr → Prop} {a : Addr} {l : List Addr} (h : P a) (t : ∀ D ∈ l, P D) : ∀ D ∈ a :: l, P D := fun D hd => (List.mem_cons.mp hd).elim (fun e => e ▸ h) (t D)
theorem ownX_ins {K : PySem.W.Frag} {C D : Addr} {Ds : List Addr} {b : Bool} (h : gOwnX C Ds (.ins D) = some b) (a : ∀ D ∈ C :: Ds, ClsI K D) : ClsI K D := by
  have h : (if D = C then some true else if Ds.contains D then some false else none) = some b := h
  by_cases e : D = C
  · exact a D (by rw [e]; exact .head _)
  · rw [if_neg e] at h
    by_cases e2 : Ds.contains D = true
    · exact a D (List.mem_cons_of_mem _ (by simpa using e2))
    · rw [if_neg e2] at h; cases h
theorem ownX_kit {K : PySem.W.Frag} {C : Addr} {Ds : List Addr} (k0 : PySem.W.kitOne K (.type "NoneType") (.ref C) = some false) (k1 : PySem.W.kitOne K (.type "bool") (.ref C) = some false) (k2 : PySem.W.kitOne K (.type "int") (.ref C) = some false) (k3 : PySem.W.kitOne K (.type "str") (.ref C) = some false) (k4 : PySem.W.kitOne K (.type "tuple") (.ref C) = some false) (k5 : PySem.W.kitOne K (.type "list") (.ref C) = some false) (k6 : PySem.W.kitOne K (.type "dict") (.ref C) = some false) (kd : ∀ D ∈ Ds, PySem.W.kitOne K (.ref D) (.ref C) = some false) (t : Ty) (b : Bool) (h : gOwnX C Ds t = some b) : PySem.W.kitOne K t.val (.ref C) = some b := by
  cases t <;> first | (cases h; first | exact k0 | exact k1 | exact k2 | exact k3 | exact k4 | exact k5 | exact k6) | skip
  rename_i D
  have h : (if D = C then some true else if Ds.contains D then some false else none) = some b := h
  by_cases e : D = C
  · rw [if_pos e] at h; cases h; subst e
    show PySem.W.kitOne K (.ref D) (.ref D) = some true
    unfold PySem.W.kitOne
    rw [if_pos (by simp)]
  · rw [if_neg e] at h
    by_cases e2 : Ds.contains D = true
    · rw [if_pos e2] at h; cases h; exact kd D (by simpa using e2)
    · rw [if_neg e2] at h; cases h
def mkTx {K : PySem.W.Frag} {h : Heap} {mg : Str → Option Value} (X : K.In h) (G : h.Ns mainGlobals mg) {t_LETTERS : Tok} {t_DIGITS : Tok} {t_LONGEST_WORD : Tok} {t_MOST_CLAIMED : Tok} {t_MOST_SIGNS : Tok} {t_MOST_PIECES : Tok} {t_MOST_CORNERS : Tok} {t_MOST_NAMES : Tok} {t_MOST_LONG : Tok} {t_MOST_COST : Tok} {t_MOST_SIDES : Tok} {t_MOST_PLUS : Tok} {t_MOST_SIZE : Tok} {t_MOST_TABLE : Tok} {t_NO_COST : Tok} {p_TURNS : Addr} {n_TURNS : Nat} {q_TURNS_0 : Tok} {q_TURNS_1 : Tok} {dd_TURNS : Option Addr} {sl_TURNS : Array (Option Value)} {p_SIDE_LETTERS : Addr} {n_SIDE_LETTERS : Nat} {q_SIDE_LETTERS_0 : Tok} {q_SIDE_LETTERS_1 : Tok} {q_SIDE_LETTERS_2 : Tok} {dd_SIDE_LETTERS : Option Addr} {sl_SIDE_LETTERS : Array (Option Value)} {f_is_letters : Addr} {oc_is_letters kV_is_letters dc_is_letters pm_is_letters cd_is_letters ct_is_letters : Value} {od_is_letters an_is_letters : Option Addr} {sl_is_letters : Array (Option Value)} {f_is_word : Addr} {oc_is_word kV_is_word dc_is_word pm_is_word cd_is_word ct_is_word : Value} {od_is_word an_is_word : Option Addr} {sl_is_word : Array (Option Value)} {f_number_of : Addr} {oc_number_of kV_number_of dc_number_of pm_number_of cd_number_of ct_number_of : Value} {od_number_of an_number_of : Option Addr} {sl_number_of : Array (Option Value)} {f_signs_of : Addr} {oc_signs_of kV_signs_of dc_signs_of pm_signs_of cd_signs_of ct_signs_of : Value} {od_signs_of an_signs_of : Option Addr} {sl_signs_of : Array (Option Value)} {f_states_of : Addr} {oc_states_of kV_states_of dc_states_of pm_states_of cd_states_of ct_states_of : Value} {od_states_of an_states_of : Option Addr} {sl_states_of : Array (Option Value)} {f_piece_of : Addr} {oc_piece_of kV_piece_of dc_piece_of pm_piece_of cd_piece_of ct_piece_of : Value} {od_piece_of an_piece_of : Option Addr} {sl_piece_of : Array (Option Value)} {f_corner_of : Addr} {oc_corner_of kV_corner_of dc_corner_of pm_corner_of cd_corner_of ct_corner_of : Value} {od_corner_of an_corner_of : Option Addr} {sl_corner_of : Array (Option Value)} {f_names_of : Addr} {oc_names_of kV_names_of dc_names_of pm_names_of cd_names_of ct_names_of : Value} {od_names_of an_names_of : Option Addr} {sl_names_of : Array (Option Value)} {f_pieces_fit : Addr} {oc_pieces_fit kV_pieces_fit dc_pieces_fit pm_pieces_fit cd_pieces_fit ct_pieces_fit : Value} {od_pieces_fit an_pieces_fit : Option Addr} {sl_pieces_fit : Array (Option Value)} {f_corners_fit : Addr} {oc_corners_fit kV_corners_fit dc_corners_fit pm_corners_fit cd_corners_fit ct_corners_fit : Value} {od_corners_fit an_corners_fit : Option Addr} {sl_corners_fit : Array (Option Value)} {f_parts_of : Addr} {oc_parts_of kV_parts_of dc_parts_of pm_parts_of cd_parts_of ct_parts_of : Value} {od_parts_of an_parts_of : Option Addr} {sl_parts_of : Array (Option Value)} {f_plus_of : Addr} {oc_plus_of kV_plus_of dc_plus_of pm_plus_of cd_plus_of ct_plus_of : Value} {od_plus_of an_plus_of : Option Addr} {sl_plus_of : Array (Option Value)} {f_side_of : Addr} {oc_side_of kV_side_of dc_side_of pm_side_of cd_side_of ct_side_of : Value} {od_side_of an_side_of : Option Addr} {sl_side_of : Array (Option Value)} {f_sides_of : Addr} {oc_sides_of kV_sides_of dc_sides_of pm_sides_of cd_sides_of ct_sides_of : Value} {od_sides_of an_sides_of : Option Addr} {sl_sides_of : Array (Option Value)} {f__law_spring : Addr} {oc__law_spring kV__law_spring dc__law_spring pm__law_spring cd__law_spring ct__law_spring : Value} {od__law_spring an__law_spring : Option Addr} {sl__law_spring : Array (Option Value)} {f__law_take : Addr} {oc__law_take kV__law_take dc__law_take pm__law_take cd__law_take ct__law_take : Value} {od__law_take an__law_take : Option Addr} {sl__law_take : Array (Option Value)} {f__law_word : Addr} {oc__law_word kV__law_word dc__law_word pm__law_word cd__law_word ct__law_word : Value} {od__law_word an__law_word : Option Addr} {sl__law_word : Array (Option Value)} {f__law_words : Addr} {oc__law_words kV__law_words dc__law_words pm__law_words cd__law_words ct__law_words : Value} {od__law_words an__law_words : Option Addr} {sl__law_words : Array (Option Value)} {f__law_state : Addr} {oc__law_state kV__law_state dc__law_state pm__law_state cd__law_state ct__law_state : Value} {od__law_state an__law_state : Option Addr} {sl__law_state : Array (Option Value)} {f__law_piece : Addr} {oc__law_piece kV__law_piece dc__law_piece pm__law_piece cd__law_piece ct__law_piece : Value} {od__law_piece an__law_piece : Option Addr} {sl__law_piece : Array (Option Value)} {f__law_joint : Addr} {oc__law_joint kV__law_joint dc__law_joint pm__law_joint cd__law_joint ct__law_joint : Value} {od__law_joint an__law_joint : Option Addr} {sl__law_joint : Array (Option Value)} {f__law_spec : Addr} {oc__law_spec kV__law_spec dc__law_spec pm__law_spec cd__law_spec ct__law_spec : Value} {od__law_spec an__law_spec : Option Addr} {sl__law_spec : Array (Option Value)} {f__law_piece_row : Addr} {oc__law_piece_row kV__law_piece_row dc__law_piece_row pm__law_piece_row cd__law_piece_row ct__law_piece_row : Value} {od__law_piece_row an__law_piece_row : Option Addr} {sl__law_piece_row : Array (Option Value)} {f__law_joint_row : Addr} {oc__law_joint_row kV__law_joint_row dc__law_joint_row pm__law_joint_row cd__law_joint_row ct__law_joint_row : Value} {od__law_joint_row an__law_joint_row : Option Addr} {sl__law_joint_row : Array (Option Value)} {f__law_rows : Addr} {oc__law_rows kV__law_rows dc__law_rows pm__law_rows cd__law_rows ct__law_rows : Value} {od__law_rows an__law_rows : Option Addr} {sl__law_rows : Array (Option Value)} {f__law_joined : Addr} {oc__law_joined kV__law_joined dc__law_joined pm__law_joined cd__law_joined ct__law_joined : Value} {od__law_joined an__law_joined : Option Addr} {sl__law_joined : Array (Option Value)} {f__law_shuts : Addr} {oc__law_shuts kV__law_shuts dc__law_shuts pm__law_shuts cd__law_shuts ct__law_shuts : Value} {od__law_shuts an__law_shuts : Option Addr} {sl__law_shuts : Array (Option Value)} {f__law_shut_row : Addr} {oc__law_shut_row kV__law_shut_row dc__law_shut_row pm__law_shut_row cd__law_shut_row ct__law_shut_row : Value} {od__law_shut_row an__law_shut_row : Option Addr} {sl__law_shut_row : Array (Option Value)} {f__law_plan : Addr} {oc__law_plan kV__law_plan dc__law_plan pm__law_plan cd__law_plan ct__law_plan : Value} {od__law_plan an__law_plan : Option Addr} {sl__law_plan : Array (Option Value)} {f__law_pair : Addr} {oc__law_pair kV__law_pair dc__law_pair pm__law_pair cd__law_pair ct__law_pair : Value} {od__law_pair an__law_pair : Option Addr} {sl__law_pair : Array (Option Value)} {f__law_right : Addr} {oc__law_right kV__law_right dc__law_right pm__law_right cd__law_right ct__law_right : Value} {od__law_right an__law_right : Option Addr} {sl__law_right : Array (Option Value)} {f_law : Addr} {oc_law kV_law dc_law pm_law cd_law ct_law : Value} {od_law an_law : Option Addr} {sl_law : Array (Option Value)} {C_Borders : Addr} {f_Borders___init__ : Addr} {oc_Borders___init__ kV_Borders___init__ dc_Borders___init__ pm_Borders___init__ cd_Borders___init__ ct_Borders___init__ : Value} {od_Borders___init__ an_Borders___init__ : Option Addr} {sl_Borders___init__ : Array (Option Value)} {p_Borders_text : Addr} {rest_Borders_text : List Value} {f_Borders_text : Addr} {oc_Borders_text kV_Borders_text dc_Borders_text pm_Borders_text cd_Borders_text ct_Borders_text : Value} {od_Borders_text an_Borders_text : Option Addr} {sl_Borders_text : Array (Option Value)} {f_Borders___eq__ : Addr} {oc_Borders___eq__ kV_Borders___eq__ dc_Borders___eq__ pm_Borders___eq__ cd_Borders___eq__ ct_Borders___eq__ : Value} {od_Borders___eq__ an_Borders___eq__ : Option Addr} {sl_Borders___eq__ : Array (Option Value)} {C_Room : Addr} {f_Room___init__ : Addr} {oc_Room___init__ kV_Room___init__ dc_Room___init__ pm_Room___init__ cd_Room___init__ ct_Room___init__ : Value} {od_Room___init__ an_Room___init__ : Option Addr} {sl_Room___init__ : Array (Option Value)} {p_Room_text : Addr} {rest_Room_text : List Value} {f_Room_text : Addr} {oc_Room_text kV_Room_text dc_Room_text pm_Room_text cd_Room_text ct_Room_text : Value} {od_Room_text an_Room_text : Option Addr} {sl_Room_text : Array (Option Value)} {f_Room___eq__ : Addr} {oc_Room___eq__ kV_Room___eq__ dc_Room___eq__ pm_Room___eq__ cd_Room___eq__ ct_Room___eq__ : Value} {od_Room___eq__ an_Room___eq__ : Option Addr} {sl_Room___eq__ : Array (Option Value)} {f_Room___len__ : Addr} {oc_Room___len__ kV_Room___len__ dc_Room___len__ pm_Room___len__ cd_Room___len__ ct_Room___len__ : Value} {od_Room___len__ an_Room___len__ : Option Addr} {sl_Room___len__ : Array (Option Value)} {C_Page : Addr} {f_Page___init__ : Addr} {oc_Page___init__ kV_Page___init__ dc_Page___init__ pm_Page___init__ cd_Page___init__ ct_Page___init__ : Value} {od_Page___init__ an_Page___init__ : Option Addr} {sl_Page___init__ : Array (Option Value)} {C_Book : Addr} {f_Book___init__ : Addr} {oc_Book___init__ kV_Book___init__ dc_Book___init__ pm_Book___init__ cd_Book___init__ ct_Book___init__ : Value} {od_Book___init__ an_Book___init__ : Option Addr} {sl_Book___init__ : Array (Option Value)} {f_Book___len__ : Addr} {oc_Book___len__ kV_Book___len__ dc_Book___len__ pm_Book___len__ cd_Book___len__ ct_Book___len__ : Value} {od_Book___len__ an_Book___len__ : Option Addr} {sl_Book___len__ : Array (Option Value)} {f_Book___bool__ : Addr} {oc_Book___bool__ kV_Book___bool__ dc_Book___bool__ pm_Book___bool__ cd_Book___bool__ ct_Book___bool__ : Value} {od_Book___bool__ an_Book___bool__ : Option Addr} {sl_Book___bool__ : Array (Option Value)} {f_Book___eq__ : Addr} {oc_Book___eq__ kV_Book___eq__ dc_Book___eq__ pm_Book___eq__ cd_Book___eq__ ct_Book___eq__ : Value} {od_Book___eq__ an_Book___eq__ : Option Addr} {sl_Book___eq__ : Array (Option Value)}
    (z_all : PySem.W.nsIn K mainGlobals "all" = some none)
    (z_len : PySem.W.nsIn K mainGlobals "len" = some none)
    (z_isinstance : PySem.W.nsIn K mainGlobals "isinstance" = some none)
    (z_str : PySem.W.nsIn K mainGlobals "str" = some none)
    (z_int : PySem.W.nsIn K mainGlobals "int" = some none)
    (z_tuple : PySem.W.nsIn K mainGlobals "tuple" = some none)
    (z_range : PySem.W.nsIn K mainGlobals "range" = some none)
    (z_sorted : PySem.W.nsIn K mainGlobals "sorted" = some none)
    (z_set : PySem.W.nsIn K mainGlobals "set" = some none)
    (z_abs : PySem.W.nsIn K mainGlobals "abs" = some none)
    (z_divmod : PySem.W.nsIn K mainGlobals "divmod" = some none)
    (z_repr : PySem.W.nsIn K mainGlobals "repr" = some none)
    (z_bool : PySem.W.nsIn K mainGlobals "bool" = some none)
    (z_max : PySem.W.nsIn K mainGlobals "max" = some none)
    (z_min : PySem.W.nsIn K mainGlobals "min" = some none)
    (s_LETTERS : PySem.W.nsIn K mainGlobals "LETTERS" = some (some (.str "abcdefghijklmnopqrstuvwxyz" t_LETTERS)))
    (s_DIGITS : PySem.W.nsIn K mainGlobals "DIGITS" = some (some (.str "0123456789" t_DIGITS)))
    (s_LONGEST_WORD : PySem.W.nsIn K mainGlobals "LONGEST_WORD" = some (some (.int 8 t_LONGEST_WORD)))
    (s_MOST_CLAIMED : PySem.W.nsIn K mainGlobals "MOST_CLAIMED" = some (some (.int 1000 t_MOST_CLAIMED)))
    (s_MOST_SIGNS : PySem.W.nsIn K mainGlobals "MOST_SIGNS" = some (some (.int 5 t_MOST_SIGNS)))
    (s_MOST_PIECES : PySem.W.nsIn K mainGlobals "MOST_PIECES" = some (some (.int 8 t_MOST_PIECES)))
    (s_MOST_CORNERS : PySem.W.nsIn K mainGlobals "MOST_CORNERS" = some (some (.int 12 t_MOST_CORNERS)))
    (s_MOST_NAMES : PySem.W.nsIn K mainGlobals "MOST_NAMES" = some (some (.int 4 t_MOST_NAMES)))
    (s_MOST_LONG : PySem.W.nsIn K mainGlobals "MOST_LONG" = some (some (.int 6 t_MOST_LONG)))
    (s_MOST_COST : PySem.W.nsIn K mainGlobals "MOST_COST" = some (some (.int 9 t_MOST_COST)))
    (s_MOST_SIDES : PySem.W.nsIn K mainGlobals "MOST_SIDES" = some (some (.int 12 t_MOST_SIDES)))
    (s_MOST_PLUS : PySem.W.nsIn K mainGlobals "MOST_PLUS" = some (some (.int 9 t_MOST_PLUS)))
    (s_MOST_SIZE : PySem.W.nsIn K mainGlobals "MOST_SIZE" = some (some (.int 1000000000000000000000000000000 t_MOST_SIZE)))
    (s_MOST_TABLE : PySem.W.nsIn K mainGlobals "MOST_TABLE" = some (some (.int 900 t_MOST_TABLE)))
    (s_NO_COST : PySem.W.nsIn K mainGlobals "NO_COST" = some (some (.int 1000000 t_NO_COST)))
    (s_TURNS : PySem.W.nsIn K mainGlobals "TURNS" = some (some (.ref p_TURNS)))
    (l_TURNS : K.lookup p_TURNS = some { cls := .type "tuple", dict := dd_TURNS, data := .seq #[.str "out" q_TURNS_0, .str "in" q_TURNS_1] n_TURNS, slots := sl_TURNS })
    (s_SIDE_LETTERS : PySem.W.nsIn K mainGlobals "SIDE_LETTERS" = some (some (.ref p_SIDE_LETTERS)))
    (l_SIDE_LETTERS : K.lookup p_SIDE_LETTERS = some { cls := .type "tuple", dict := dd_SIDE_LETTERS, data := .seq #[.str "x" q_SIDE_LETTERS_0, .str "y" q_SIDE_LETTERS_1, .str "z" q_SIDE_LETTERS_2] n_SIDE_LETTERS, slots := sl_SIDE_LETTERS })
    (ag_is_letters : PySem.W.nsIn K mainGlobals "is_letters" = some (some (.ref f_is_letters)))
    (l_is_letters : K.lookup f_is_letters = some ⟨oc_is_letters, od_is_letters, .func (PySem.W.fnOf "is_letters" "is_letters" (defArgs st_is_letters) (defBody st_is_letters) (defScope st_is_letters) .none kV_is_letters dc_is_letters pm_is_letters an_is_letters cd_is_letters ct_is_letters), sl_is_letters⟩)
    (c_is_letters : PySem.W.codeIn K cd_is_letters "is_letters" = true)
    (k_is_letters : PySem.W.keepIn K (.ref f_is_letters) = true)
    (ag_is_word : PySem.W.nsIn K mainGlobals "is_word" = some (some (.ref f_is_word)))
    (l_is_word : K.lookup f_is_word = some ⟨oc_is_word, od_is_word, .func (PySem.W.fnOf "is_word" "is_word" (defArgs st_is_word) (defBody st_is_word) (defScope st_is_word) .none kV_is_word dc_is_word pm_is_word an_is_word cd_is_word ct_is_word), sl_is_word⟩)
    (c_is_word : PySem.W.codeIn K cd_is_word "is_word" = true)
    (k_is_word : PySem.W.keepIn K (.ref f_is_word) = true)
    (ag_number_of : PySem.W.nsIn K mainGlobals "number_of" = some (some (.ref f_number_of)))
    (l_number_of : K.lookup f_number_of = some ⟨oc_number_of, od_number_of, .func (PySem.W.fnOf "number_of" "number_of" (defArgs st_number_of) (defBody st_number_of) (defScope st_number_of) .none kV_number_of dc_number_of pm_number_of an_number_of cd_number_of ct_number_of), sl_number_of⟩)
    (c_number_of : PySem.W.codeIn K cd_number_of "number_of" = true)
    (k_number_of : PySem.W.keepIn K (.ref f_number_of) = true)
    (ag_signs_of : PySem.W.nsIn K mainGlobals "signs_of" = some (some (.ref f_signs_of)))
    (l_signs_of : K.lookup f_signs_of = some ⟨oc_signs_of, od_signs_of, .func (PySem.W.fnOf "signs_of" "signs_of" (defArgs st_signs_of) (defBody st_signs_of) (defScope st_signs_of) .none kV_signs_of dc_signs_of pm_signs_of an_signs_of cd_signs_of ct_signs_of), sl_signs_of⟩)
    (c_signs_of : PySem.W.codeIn K cd_signs_of "signs_of" = true)
    (k_signs_of : PySem.W.keepIn K (.ref f_signs_of) = true)
    (ag_states_of : PySem.W.nsIn K mainGlobals "states_of" = some (some (.ref f_states_of)))
    (l_states_of : K.lookup f_states_of = some ⟨oc_states_of, od_states_of, .func (PySem.W.fnOf "states_of" "states_of" (defArgs st_states_of) (defBody st_states_of) (defScope st_states_of) .none kV_states_of dc_states_of pm_states_of an_states_of cd_states_of ct_states_of), sl_states_of⟩)
    (c_states_of : PySem.W.codeIn K cd_states_of "states_of" = true)
    (k_states_of : PySem.W.keepIn K (.ref f_states_of) = true)
    (ag_piece_of : PySem.W.nsIn K mainGlobals "piece_of" = some (some (.ref f_piece_of)))
    (l_piece_of : K.lookup f_piece_of = some ⟨oc_piece_of, od_piece_of, .func (PySem.W.fnOf "piece_of" "piece_of" (defArgs st_piece_of) (defBody st_piece_of) (defScope st_piece_of) .none kV_piece_of dc_piece_of pm_piece_of an_piece_of cd_piece_of ct_piece_of), sl_piece_of⟩)
    (c_piece_of : PySem.W.codeIn K cd_piece_of "piece_of" = true)
    (k_piece_of : PySem.W.keepIn K (.ref f_piece_of) = true)
    (ag_corner_of : PySem.W.nsIn K mainGlobals "corner_of" = some (some (.ref f_corner_of)))
    (l_corner_of : K.lookup f_corner_of = some ⟨oc_corner_of, od_corner_of, .func (PySem.W.fnOf "corner_of" "corner_of" (defArgs st_corner_of) (defBody st_corner_of) (defScope st_corner_of) .none kV_corner_of dc_corner_of pm_corner_of an_corner_of cd_corner_of ct_corner_of), sl_corner_of⟩)
    (c_corner_of : PySem.W.codeIn K cd_corner_of "corner_of" = true)
    (k_corner_of : PySem.W.keepIn K (.ref f_corner_of) = true)
    (ag_names_of : PySem.W.nsIn K mainGlobals "names_of" = some (some (.ref f_names_of)))
    (l_names_of : K.lookup f_names_of = some ⟨oc_names_of, od_names_of, .func (PySem.W.fnOf "names_of" "names_of" (defArgs st_names_of) (defBody st_names_of) (defScope st_names_of) .none kV_names_of dc_names_of pm_names_of an_names_of cd_names_of ct_names_of), sl_names_of⟩)
    (c_names_of : PySem.W.codeIn K cd_names_of "names_of" = true)
    (k_names_of : PySem.W.keepIn K (.ref f_names_of) = true)
    (ag_pieces_fit : PySem.W.nsIn K mainGlobals "pieces_fit" = some (some (.ref f_pieces_fit)))
    (l_pieces_fit : K.lookup f_pieces_fit = some ⟨oc_pieces_fit, od_pieces_fit, .func (PySem.W.fnOf "pieces_fit" "pieces_fit" (defArgs st_pieces_fit) (defBody st_pieces_fit) (defScope st_pieces_fit) .none kV_pieces_fit dc_pieces_fit pm_pieces_fit an_pieces_fit cd_pieces_fit ct_pieces_fit), sl_pieces_fit⟩)
    (c_pieces_fit : PySem.W.codeIn K cd_pieces_fit "pieces_fit" = true)
    (k_pieces_fit : PySem.W.keepIn K (.ref f_pieces_fit) = true)
    (ag_corners_fit : PySem.W.nsIn K mainGlobals "corners_fit" = some (some (.ref f_corners_fit)))
    (l_corners_fit : K.lookup f_corners_fit = some ⟨oc_corners_fit, od_corners_fit, .func (PySem.W.fnOf "corners_fit" "corners_fit" (defArgs st_corners_fit) (defBody st_corners_fit) (defScope st_corners_fit) .none kV_corners_fit dc_corners_fit pm_corners_fit an_corners_fit cd_corners_fit ct_corners_fit), sl_corners_fit⟩)
    (c_corners_fit : PySem.W.codeIn K cd_corners_fit "corners_fit" = true)
    (k_corners_fit : PySem.W.keepIn K (.ref f_corners_fit) = true)
    (ag_parts_of : PySem.W.nsIn K mainGlobals "parts_of" = some (some (.ref f_parts_of)))
    (l_parts_of : K.lookup f_parts_of = some ⟨oc_parts_of, od_parts_of, .func (PySem.W.fnOf "parts_of" "parts_of" (defArgs st_parts_of) (defBody st_parts_of) (defScope st_parts_of) .none kV_parts_of dc_parts_of pm_parts_of an_parts_of cd_parts_of ct_parts_of), sl_parts_of⟩)
    (c_parts_of : PySem.W.codeIn K cd_parts_of "parts_of" = true)
    (k_parts_of : PySem.W.keepIn K (.ref f_parts_of) = true)
    (ag_plus_of : PySem.W.nsIn K mainGlobals "plus_of" = some (some (.ref f_plus_of)))
    (l_plus_of : K.lookup f_plus_of = some ⟨oc_plus_of, od_plus_of, .func (PySem.W.fnOf "plus_of" "plus_of" (defArgs st_plus_of) (defBody st_plus_of) (defScope st_plus_of) .none kV_plus_of dc_plus_of pm_plus_of an_plus_of cd_plus_of ct_plus_of), sl_plus_of⟩)
    (c_plus_of : PySem.W.codeIn K cd_plus_of "plus_of" = true)
    (k_plus_of : PySem.W.keepIn K (.ref f_plus_of) = true)
    (ag_side_of : PySem.W.nsIn K mainGlobals "side_of" = some (some (.ref f_side_of)))
    (l_side_of : K.lookup f_side_of = some ⟨oc_side_of, od_side_of, .func (PySem.W.fnOf "side_of" "side_of" (defArgs st_side_of) (defBody st_side_of) (defScope st_side_of) .none kV_side_of dc_side_of pm_side_of an_side_of cd_side_of ct_side_of), sl_side_of⟩)
    (c_side_of : PySem.W.codeIn K cd_side_of "side_of" = true)
    (k_side_of : PySem.W.keepIn K (.ref f_side_of) = true)
    (ag_sides_of : PySem.W.nsIn K mainGlobals "sides_of" = some (some (.ref f_sides_of)))
    (l_sides_of : K.lookup f_sides_of = some ⟨oc_sides_of, od_sides_of, .func (PySem.W.fnOf "sides_of" "sides_of" (defArgs st_sides_of) (defBody st_sides_of) (defScope st_sides_of) .none kV_sides_of dc_sides_of pm_sides_of an_sides_of cd_sides_of ct_sides_of), sl_sides_of⟩)
    (c_sides_of : PySem.W.codeIn K cd_sides_of "sides_of" = true)
    (k_sides_of : PySem.W.keepIn K (.ref f_sides_of) = true)
    (ag__law_spring : PySem.W.nsIn K mainGlobals "_law_spring" = some (some (.ref f__law_spring)))
    (l__law_spring : K.lookup f__law_spring = some ⟨oc__law_spring, od__law_spring, .func (PySem.W.fnOf "_law_spring" "_law_spring" (defArgs st__law_spring) (defBody st__law_spring) (defScope st__law_spring) .none kV__law_spring dc__law_spring pm__law_spring an__law_spring cd__law_spring ct__law_spring), sl__law_spring⟩)
    (c__law_spring : PySem.W.codeIn K cd__law_spring "_law_spring" = true)
    (k__law_spring : PySem.W.keepIn K (.ref f__law_spring) = true)
    (ag__law_take : PySem.W.nsIn K mainGlobals "_law_take" = some (some (.ref f__law_take)))
    (l__law_take : K.lookup f__law_take = some ⟨oc__law_take, od__law_take, .func (PySem.W.fnOf "_law_take" "_law_take" (defArgs st__law_take) (defBody st__law_take) (defScope st__law_take) .none kV__law_take dc__law_take pm__law_take an__law_take cd__law_take ct__law_take), sl__law_take⟩)
    (c__law_take : PySem.W.codeIn K cd__law_take "_law_take" = true)
    (k__law_take : PySem.W.keepIn K (.ref f__law_take) = true)
    (ag__law_word : PySem.W.nsIn K mainGlobals "_law_word" = some (some (.ref f__law_word)))
    (l__law_word : K.lookup f__law_word = some ⟨oc__law_word, od__law_word, .func (PySem.W.fnOf "_law_word" "_law_word" (defArgs st__law_word) (defBody st__law_word) (defScope st__law_word) .none kV__law_word dc__law_word pm__law_word an__law_word cd__law_word ct__law_word), sl__law_word⟩)
    (c__law_word : PySem.W.codeIn K cd__law_word "_law_word" = true)
    (k__law_word : PySem.W.keepIn K (.ref f__law_word) = true)
    (ag__law_words : PySem.W.nsIn K mainGlobals "_law_words" = some (some (.ref f__law_words)))
    (l__law_words : K.lookup f__law_words = some ⟨oc__law_words, od__law_words, .func (PySem.W.fnOf "_law_words" "_law_words" (defArgs st__law_words) (defBody st__law_words) (defScope st__law_words) .none kV__law_words dc__law_words pm__law_words an__law_words cd__law_words ct__law_words), sl__law_words⟩)
    (c__law_words : PySem.W.codeIn K cd__law_words "_law_words" = true)
    (k__law_words : PySem.W.keepIn K (.ref f__law_words) = true)
    (ag__law_state : PySem.W.nsIn K mainGlobals "_law_state" = some (some (.ref f__law_state)))
    (l__law_state : K.lookup f__law_state = some ⟨oc__law_state, od__law_state, .func (PySem.W.fnOf "_law_state" "_law_state" (defArgs st__law_state) (defBody st__law_state) (defScope st__law_state) .none kV__law_state dc__law_state pm__law_state an__law_state cd__law_state ct__law_state), sl__law_state⟩)
    (c__law_state : PySem.W.codeIn K cd__law_state "_law_state" = true)
    (k__law_state : PySem.W.keepIn K (.ref f__law_state) = true)
    (ag__law_piece : PySem.W.nsIn K mainGlobals "_law_piece" = some (some (.ref f__law_piece)))
    (l__law_piece : K.lookup f__law_piece = some ⟨oc__law_piece, od__law_piece, .func (PySem.W.fnOf "_law_piece" "_law_piece" (defArgs st__law_piece) (defBody st__law_piece) (defScope st__law_piece) .none kV__law_piece dc__law_piece pm__law_piece an__law_piece cd__law_piece ct__law_piece), sl__law_piece⟩)
    (c__law_piece : PySem.W.codeIn K cd__law_piece "_law_piece" = true)
    (k__law_piece : PySem.W.keepIn K (.ref f__law_piece) = true)
    (ag__law_joint : PySem.W.nsIn K mainGlobals "_law_joint" = some (some (.ref f__law_joint)))
    (l__law_joint : K.lookup f__law_joint = some ⟨oc__law_joint, od__law_joint, .func (PySem.W.fnOf "_law_joint" "_law_joint" (defArgs st__law_joint) (defBody st__law_joint) (defScope st__law_joint) .none kV__law_joint dc__law_joint pm__law_joint an__law_joint cd__law_joint ct__law_joint), sl__law_joint⟩)
    (c__law_joint : PySem.W.codeIn K cd__law_joint "_law_joint" = true)
    (k__law_joint : PySem.W.keepIn K (.ref f__law_joint) = true)
    (ag__law_spec : PySem.W.nsIn K mainGlobals "_law_spec" = some (some (.ref f__law_spec)))
    (l__law_spec : K.lookup f__law_spec = some ⟨oc__law_spec, od__law_spec, .func (PySem.W.fnOf "_law_spec" "_law_spec" (defArgs st__law_spec) (defBody st__law_spec) (defScope st__law_spec) .none kV__law_spec dc__law_spec pm__law_spec an__law_spec cd__law_spec ct__law_spec), sl__law_spec⟩)
    (c__law_spec : PySem.W.codeIn K cd__law_spec "_law_spec" = true)
    (k__law_spec : PySem.W.keepIn K (.ref f__law_spec) = true)
    (ag__law_piece_row : PySem.W.nsIn K mainGlobals "_law_piece_row" = some (some (.ref f__law_piece_row)))
    (l__law_piece_row : K.lookup f__law_piece_row = some ⟨oc__law_piece_row, od__law_piece_row, .func (PySem.W.fnOf "_law_piece_row" "_law_piece_row" (defArgs st__law_piece_row) (defBody st__law_piece_row) (defScope st__law_piece_row) .none kV__law_piece_row dc__law_piece_row pm__law_piece_row an__law_piece_row cd__law_piece_row ct__law_piece_row), sl__law_piece_row⟩)
    (c__law_piece_row : PySem.W.codeIn K cd__law_piece_row "_law_piece_row" = true)
    (k__law_piece_row : PySem.W.keepIn K (.ref f__law_piece_row) = true)
    (ag__law_joint_row : PySem.W.nsIn K mainGlobals "_law_joint_row" = some (some (.ref f__law_joint_row)))
    (l__law_joint_row : K.lookup f__law_joint_row = some ⟨oc__law_joint_row, od__law_joint_row, .func (PySem.W.fnOf "_law_joint_row" "_law_joint_row" (defArgs st__law_joint_row) (defBody st__law_joint_row) (defScope st__law_joint_row) .none kV__law_joint_row dc__law_joint_row pm__law_joint_row an__law_joint_row cd__law_joint_row ct__law_joint_row), sl__law_joint_row⟩)
    (c__law_joint_row : PySem.W.codeIn K cd__law_joint_row "_law_joint_row" = true)
    (k__law_joint_row : PySem.W.keepIn K (.ref f__law_joint_row) = true)
    (ag__law_rows : PySem.W.nsIn K mainGlobals "_law_rows" = some (some (.ref f__law_rows)))
    (l__law_rows : K.lookup f__law_rows = some ⟨oc__law_rows, od__law_rows, .func (PySem.W.fnOf "_law_rows" "_law_rows" (defArgs st__law_rows) (defBody st__law_rows) (defScope st__law_rows) .none kV__law_rows dc__law_rows pm__law_rows an__law_rows cd__law_rows ct__law_rows), sl__law_rows⟩)
    (c__law_rows : PySem.W.codeIn K cd__law_rows "_law_rows" = true)
    (k__law_rows : PySem.W.keepIn K (.ref f__law_rows) = true)
    (ag__law_joined : PySem.W.nsIn K mainGlobals "_law_joined" = some (some (.ref f__law_joined)))
    (l__law_joined : K.lookup f__law_joined = some ⟨oc__law_joined, od__law_joined, .func (PySem.W.fnOf "_law_joined" "_law_joined" (defArgs st__law_joined) (defBody st__law_joined) (defScope st__law_joined) .none kV__law_joined dc__law_joined pm__law_joined an__law_joined cd__law_joined ct__law_joined), sl__law_joined⟩)
    (c__law_joined : PySem.W.codeIn K cd__law_joined "_law_joined" = true)
    (k__law_joined : PySem.W.keepIn K (.ref f__law_joined) = true)
    (ag__law_shuts : PySem.W.nsIn K mainGlobals "_law_shuts" = some (some (.ref f__law_shuts)))
    (l__law_shuts : K.lookup f__law_shuts = some ⟨oc__law_shuts, od__law_shuts, .func (PySem.W.fnOf "_law_shuts" "_law_shuts" (defArgs st__law_shuts) (defBody st__law_shuts) (defScope st__law_shuts) .none kV__law_shuts dc__law_shuts pm__law_shuts an__law_shuts cd__law_shuts ct__law_shuts), sl__law_shuts⟩)
    (c__law_shuts : PySem.W.codeIn K cd__law_shuts "_law_shuts" = true)
    (k__law_shuts : PySem.W.keepIn K (.ref f__law_shuts) = true)
    (ag__law_shut_row : PySem.W.nsIn K mainGlobals "_law_shut_row" = some (some (.ref f__law_shut_row)))
    (l__law_shut_row : K.lookup f__law_shut_row = some ⟨oc__law_shut_row, od__law_shut_row, .func (PySem.W.fnOf "_law_shut_row" "_law_shut_row" (defArgs st__law_shut_row) (defBody st__law_shut_row) (defScope st__law_shut_row) .none kV__law_shut_row dc__law_shut_row pm__law_shut_row an__law_shut_row cd__law_shut_row ct__law_shut_row), sl__law_shut_row⟩)
    (c__law_shut_row : PySem.W.codeIn K cd__law_shut_row "_law_shut_row" = true)
    (k__law_shut_row : PySem.W.keepIn K (.ref f__law_shut_row) = true)
    (ag__law_plan : PySem.W.nsIn K mainGlobals "_law_plan" = some (some (.ref f__law_plan)))
    (l__law_plan : K.lookup f__law_plan = some ⟨oc__law_plan, od__law_plan, .func (PySem.W.fnOf "_law_plan" "_law_plan" (defArgs st__law_plan) (defBody st__law_plan) (defScope st__law_plan) .none kV__law_plan dc__law_plan pm__law_plan an__law_plan cd__law_plan ct__law_plan), sl__law_plan⟩)
    (c__law_plan : PySem.W.codeIn K cd__law_plan "_law_plan" = true)
    (k__law_plan : PySem.W.keepIn K (.ref f__law_plan) = true)
    (ag__law_pair : PySem.W.nsIn K mainGlobals "_law_pair" = some (some (.ref f__law_pair)))
    (l__law_pair : K.lookup f__law_pair = some ⟨oc__law_pair, od__law_pair, .func (PySem.W.fnOf "_law_pair" "_law_pair" (defArgs st__law_pair) (defBody st__law_pair) (defScope st__law_pair) .none kV__law_pair dc__law_pair pm__law_pair an__law_pair cd__law_pair ct__law_pair), sl__law_pair⟩)
    (c__law_pair : PySem.W.codeIn K cd__law_pair "_law_pair" = true)
    (k__law_pair : PySem.W.keepIn K (.ref f__law_pair) = true)
    (ag__law_right : PySem.W.nsIn K mainGlobals "_law_right" = some (some (.ref f__law_right)))
    (l__law_right : K.lookup f__law_right = some ⟨oc__law_right, od__law_right, .func (PySem.W.fnOf "_law_right" "_law_right" (defArgs st__law_right) (defBody st__law_right) (defScope st__law_right) .none kV__law_right dc__law_right pm__law_right an__law_right cd__law_right ct__law_right), sl__law_right⟩)
    (c__law_right : PySem.W.codeIn K cd__law_right "_law_right" = true)
    (k__law_right : PySem.W.keepIn K (.ref f__law_right) = true)
    (ag_law : PySem.W.nsIn K mainGlobals "law" = some (some (.ref f_law)))
    (l_law : K.lookup f_law = some ⟨oc_law, od_law, .func (PySem.W.fnOf "law" "law" (defArgs st_law) (defBody st_law) (defScope st_law) .none kV_law dc_law pm_law an_law cd_law ct_law), sl_law⟩)
    (c_law : PySem.W.codeIn K cd_law "law" = true)
    (k_law : PySem.W.keepIn K (.ref f_law) = true)
    (aC_Borders : PySem.W.nsIn K mainGlobals "Borders" = some (some (.ref C_Borders)))
    (pg_Borders : PySem.W.plainGet K C_Borders Str.empty = true)
    (hd_Borders : PySem.W.hasDictIn K C_Borders = true)
    (po_Borders : PySem.W.plainOver K C_Borders = true)
    (sa_Borders : PySem.W.findIn K (.ref C_Borders) "__setattr__" = some (some (.builtin "object.__setattr__")))
    (mk_Borders : PySem.W.makesIn K C_Borders = true)
    (kc_Borders : PySem.W.keepIn K (.ref C_Borders) = true)
    (ne_Borders : PySem.W.findIn K (.ref C_Borders) "__ne__" = some (some (.builtin "object.__ne__")))
    (mro_Borders : PySem.W.mroIn K C_Borders (.type "object") = some true)
    (bool_Borders : PySem.W.findIn K (.ref C_Borders) "__bool__" = some none)
    (hcl_Borders : PySem.W.findIn K (.ref C_Borders) "__class__" = some (some (.builtin "object.__class__")))
    (hsp_Borders : PySem.W.specialIn K (.builtin "object.__class__") "__get__" = some (some (.builtin "getset_descriptor.__get__")))
    (htk_Borders : PySem.W.takesIn K (.builtin "object.__class__") = some true)
    (kwNoneType_Borders : PySem.W.kitOne K (.type "NoneType") (.ref C_Borders) = some false)
    (kwbool_Borders : PySem.W.kitOne K (.type "bool") (.ref C_Borders) = some false)
    (kwint_Borders : PySem.W.kitOne K (.type "int") (.ref C_Borders) = some false)
    (kwstr_Borders : PySem.W.kitOne K (.type "str") (.ref C_Borders) = some false)
    (kwtuple_Borders : PySem.W.kitOne K (.type "tuple") (.ref C_Borders) = some false)
    (kwlist_Borders : PySem.W.kitOne K (.type "list") (.ref C_Borders) = some false)
    (kwdict_Borders : PySem.W.kitOne K (.type "dict") (.ref C_Borders) = some false)
    (na_whole_Borders : PySem.W.findIn K (.ref C_Borders) "whole" = some none)
    (na_all_states_Borders : PySem.W.findIn K (.ref C_Borders) "all_states" = some none)
    (na_corner_names_Borders : PySem.W.findIn K (.ref C_Borders) "corner_names" = some none)
    (na_motif_Borders : PySem.W.findIn K (.ref C_Borders) "motif" = some none)
    (na_piece_rows_Borders : PySem.W.findIn K (.ref C_Borders) "piece_rows" = some none)
    (na_corner_rows_Borders : PySem.W.findIn K (.ref C_Borders) "corner_rows" = some none)
    (nolen_Borders : PySem.W.findIn K (.ref C_Borders) "__len__" = some none)
    (l_Borders___init__ : K.lookup f_Borders___init__ = some ⟨oc_Borders___init__, od_Borders___init__, .func (PySem.W.fnOf "__init__" "Borders.__init__" (defArgs st_Borders___init__) (defBody st_Borders___init__) (defScope st_Borders___init__) .none kV_Borders___init__ dc_Borders___init__ pm_Borders___init__ an_Borders___init__ cd_Borders___init__ ct_Borders___init__), sl_Borders___init__⟩)
    (c_Borders___init__ : PySem.W.codeIn K cd_Borders___init__ "Borders.__init__" = true)
    (k_Borders___init__ : PySem.W.keepIn K (.ref f_Borders___init__) = true)
    (e_Borders___init__ : PySem.W.findIn K (.ref C_Borders) "__init__" = some (some (.ref f_Borders___init__)))
    (i_Borders___init__ : PySem.W.isFn K (.ref f_Borders___init__) = true)
    (l_Borders_text : K.lookup f_Borders_text = some ⟨oc_Borders_text, od_Borders_text, .func (PySem.W.fnOf "text" "Borders.text" (defArgs st_Borders_text) (defBody st_Borders_text) (defScope st_Borders_text) .none kV_Borders_text dc_Borders_text pm_Borders_text an_Borders_text cd_Borders_text ct_Borders_text), sl_Borders_text⟩)
    (c_Borders_text : PySem.W.codeIn K cd_Borders_text "Borders.text" = true)
    (k_Borders_text : PySem.W.keepIn K (.ref f_Borders_text) = true)
    (e_Borders_text : PySem.W.findIn K (.ref C_Borders) "text" = some (some (.ref p_Borders_text)))
    (g_Borders_text : PySem.W.specialIn K (.ref p_Borders_text) "__get__" = some (some (.builtin "property.__get__")))
    (tk_Borders_text : PySem.W.takesIn K (.ref p_Borders_text) = some true)
    (r_Borders_text : PySem.W.recIn K p_Borders_text "property" = some (.ref f_Borders_text :: rest_Borders_text))
    (l_Borders___eq__ : K.lookup f_Borders___eq__ = some ⟨oc_Borders___eq__, od_Borders___eq__, .func (PySem.W.fnOf "__eq__" "Borders.__eq__" (defArgs st_Borders___eq__) (defBody st_Borders___eq__) (defScope st_Borders___eq__) .none kV_Borders___eq__ dc_Borders___eq__ pm_Borders___eq__ an_Borders___eq__ cd_Borders___eq__ ct_Borders___eq__), sl_Borders___eq__⟩)
    (c_Borders___eq__ : PySem.W.codeIn K cd_Borders___eq__ "Borders.__eq__" = true)
    (k_Borders___eq__ : PySem.W.keepIn K (.ref f_Borders___eq__) = true)
    (e_Borders___eq__ : PySem.W.findIn K (.ref C_Borders) "__eq__" = some (some (.ref f_Borders___eq__)))
    (i_Borders___eq__ : PySem.W.isFn K (.ref f_Borders___eq__) = true)
    (aC_Room : PySem.W.nsIn K mainGlobals "Room" = some (some (.ref C_Room)))
    (pg_Room : PySem.W.plainGet K C_Room Str.empty = true)
    (hd_Room : PySem.W.hasDictIn K C_Room = true)
    (po_Room : PySem.W.plainOver K C_Room = true)
    (sa_Room : PySem.W.findIn K (.ref C_Room) "__setattr__" = some (some (.builtin "object.__setattr__")))
    (mk_Room : PySem.W.makesIn K C_Room = true)
    (kc_Room : PySem.W.keepIn K (.ref C_Room) = true)
    (ne_Room : PySem.W.findIn K (.ref C_Room) "__ne__" = some (some (.builtin "object.__ne__")))
    (mro_Room : PySem.W.mroIn K C_Room (.type "object") = some true)
    (bool_Room : PySem.W.findIn K (.ref C_Room) "__bool__" = some none)
    (hcl_Room : PySem.W.findIn K (.ref C_Room) "__class__" = some (some (.builtin "object.__class__")))
    (hsp_Room : PySem.W.specialIn K (.builtin "object.__class__") "__get__" = some (some (.builtin "getset_descriptor.__get__")))
    (htk_Room : PySem.W.takesIn K (.builtin "object.__class__") = some true)
    (kwNoneType_Room : PySem.W.kitOne K (.type "NoneType") (.ref C_Room) = some false)
    (kwbool_Room : PySem.W.kitOne K (.type "bool") (.ref C_Room) = some false)
    (kwint_Room : PySem.W.kitOne K (.type "int") (.ref C_Room) = some false)
    (kwstr_Room : PySem.W.kitOne K (.type "str") (.ref C_Room) = some false)
    (kwtuple_Room : PySem.W.kitOne K (.type "tuple") (.ref C_Room) = some false)
    (kwlist_Room : PySem.W.kitOne K (.type "list") (.ref C_Room) = some false)
    (kwdict_Room : PySem.W.kitOne K (.type "dict") (.ref C_Room) = some false)
    (na_whole_Room : PySem.W.findIn K (.ref C_Room) "whole" = some none)
    (na_rows_Room : PySem.W.findIn K (.ref C_Room) "rows" = some none)
    (na_alphabet_Room : PySem.W.findIn K (.ref C_Room) "alphabet" = some none)
    (l_Room___init__ : K.lookup f_Room___init__ = some ⟨oc_Room___init__, od_Room___init__, .func (PySem.W.fnOf "__init__" "Room.__init__" (defArgs st_Room___init__) (defBody st_Room___init__) (defScope st_Room___init__) .none kV_Room___init__ dc_Room___init__ pm_Room___init__ an_Room___init__ cd_Room___init__ ct_Room___init__), sl_Room___init__⟩)
    (c_Room___init__ : PySem.W.codeIn K cd_Room___init__ "Room.__init__" = true)
    (k_Room___init__ : PySem.W.keepIn K (.ref f_Room___init__) = true)
    (e_Room___init__ : PySem.W.findIn K (.ref C_Room) "__init__" = some (some (.ref f_Room___init__)))
    (i_Room___init__ : PySem.W.isFn K (.ref f_Room___init__) = true)
    (l_Room_text : K.lookup f_Room_text = some ⟨oc_Room_text, od_Room_text, .func (PySem.W.fnOf "text" "Room.text" (defArgs st_Room_text) (defBody st_Room_text) (defScope st_Room_text) .none kV_Room_text dc_Room_text pm_Room_text an_Room_text cd_Room_text ct_Room_text), sl_Room_text⟩)
    (c_Room_text : PySem.W.codeIn K cd_Room_text "Room.text" = true)
    (k_Room_text : PySem.W.keepIn K (.ref f_Room_text) = true)
    (e_Room_text : PySem.W.findIn K (.ref C_Room) "text" = some (some (.ref p_Room_text)))
    (g_Room_text : PySem.W.specialIn K (.ref p_Room_text) "__get__" = some (some (.builtin "property.__get__")))
    (tk_Room_text : PySem.W.takesIn K (.ref p_Room_text) = some true)
    (r_Room_text : PySem.W.recIn K p_Room_text "property" = some (.ref f_Room_text :: rest_Room_text))
    (l_Room___eq__ : K.lookup f_Room___eq__ = some ⟨oc_Room___eq__, od_Room___eq__, .func (PySem.W.fnOf "__eq__" "Room.__eq__" (defArgs st_Room___eq__) (defBody st_Room___eq__) (defScope st_Room___eq__) .none kV_Room___eq__ dc_Room___eq__ pm_Room___eq__ an_Room___eq__ cd_Room___eq__ ct_Room___eq__), sl_Room___eq__⟩)
    (c_Room___eq__ : PySem.W.codeIn K cd_Room___eq__ "Room.__eq__" = true)
    (k_Room___eq__ : PySem.W.keepIn K (.ref f_Room___eq__) = true)
    (e_Room___eq__ : PySem.W.findIn K (.ref C_Room) "__eq__" = some (some (.ref f_Room___eq__)))
    (i_Room___eq__ : PySem.W.isFn K (.ref f_Room___eq__) = true)
    (l_Room___len__ : K.lookup f_Room___len__ = some ⟨oc_Room___len__, od_Room___len__, .func (PySem.W.fnOf "__len__" "Room.__len__" (defArgs st_Room___len__) (defBody st_Room___len__) (defScope st_Room___len__) .none kV_Room___len__ dc_Room___len__ pm_Room___len__ an_Room___len__ cd_Room___len__ ct_Room___len__), sl_Room___len__⟩)
    (c_Room___len__ : PySem.W.codeIn K cd_Room___len__ "Room.__len__" = true)
    (k_Room___len__ : PySem.W.keepIn K (.ref f_Room___len__) = true)
    (e_Room___len__ : PySem.W.findIn K (.ref C_Room) "__len__" = some (some (.ref f_Room___len__)))
    (i_Room___len__ : PySem.W.isFn K (.ref f_Room___len__) = true)
    (aC_Page : PySem.W.nsIn K mainGlobals "Page" = some (some (.ref C_Page)))
    (pg_Page : PySem.W.plainGet K C_Page Str.empty = true)
    (hd_Page : PySem.W.hasDictIn K C_Page = true)
    (po_Page : PySem.W.plainOver K C_Page = true)
    (sa_Page : PySem.W.findIn K (.ref C_Page) "__setattr__" = some (some (.builtin "object.__setattr__")))
    (mk_Page : PySem.W.makesIn K C_Page = true)
    (kc_Page : PySem.W.keepIn K (.ref C_Page) = true)
    (ne_Page : PySem.W.findIn K (.ref C_Page) "__ne__" = some (some (.builtin "object.__ne__")))
    (mro_Page : PySem.W.mroIn K C_Page (.type "object") = some true)
    (bool_Page : PySem.W.findIn K (.ref C_Page) "__bool__" = some none)
    (hcl_Page : PySem.W.findIn K (.ref C_Page) "__class__" = some (some (.builtin "object.__class__")))
    (hsp_Page : PySem.W.specialIn K (.builtin "object.__class__") "__get__" = some (some (.builtin "getset_descriptor.__get__")))
    (htk_Page : PySem.W.takesIn K (.builtin "object.__class__") = some true)
    (kwNoneType_Page : PySem.W.kitOne K (.type "NoneType") (.ref C_Page) = some false)
    (kwbool_Page : PySem.W.kitOne K (.type "bool") (.ref C_Page) = some false)
    (kwint_Page : PySem.W.kitOne K (.type "int") (.ref C_Page) = some false)
    (kwstr_Page : PySem.W.kitOne K (.type "str") (.ref C_Page) = some false)
    (kwtuple_Page : PySem.W.kitOne K (.type "tuple") (.ref C_Page) = some false)
    (kwlist_Page : PySem.W.kitOne K (.type "list") (.ref C_Page) = some false)
    (kwdict_Page : PySem.W.kitOne K (.type "dict") (.ref C_Page) = some false)
    (na_shelf_Page : PySem.W.findIn K (.ref C_Page) "shelf" = some none)
    (na_row_Page : PySem.W.findIn K (.ref C_Page) "row" = some none)
    (na_behind_Page : PySem.W.findIn K (.ref C_Page) "behind" = some none)
    (na_many_Page : PySem.W.findIn K (.ref C_Page) "many" = some none)
    (nolen_Page : PySem.W.findIn K (.ref C_Page) "__len__" = some none)
    (l_Page___init__ : K.lookup f_Page___init__ = some ⟨oc_Page___init__, od_Page___init__, .func (PySem.W.fnOf "__init__" "Page.__init__" (defArgs st_Page___init__) (defBody st_Page___init__) (defScope st_Page___init__) .none kV_Page___init__ dc_Page___init__ pm_Page___init__ an_Page___init__ cd_Page___init__ ct_Page___init__), sl_Page___init__⟩)
    (c_Page___init__ : PySem.W.codeIn K cd_Page___init__ "Page.__init__" = true)
    (k_Page___init__ : PySem.W.keepIn K (.ref f_Page___init__) = true)
    (e_Page___init__ : PySem.W.findIn K (.ref C_Page) "__init__" = some (some (.ref f_Page___init__)))
    (i_Page___init__ : PySem.W.isFn K (.ref f_Page___init__) = true)
    (aC_Book : PySem.W.nsIn K mainGlobals "Book" = some (some (.ref C_Book)))
    (pg_Book : PySem.W.plainGet K C_Book Str.empty = true)
    (hd_Book : PySem.W.hasDictIn K C_Book = true)
    (po_Book : PySem.W.plainOver K C_Book = true)
    (sa_Book : PySem.W.findIn K (.ref C_Book) "__setattr__" = some (some (.builtin "object.__setattr__")))
    (mk_Book : PySem.W.makesIn K C_Book = true)
    (kc_Book : PySem.W.keepIn K (.ref C_Book) = true)
    (ne_Book : PySem.W.findIn K (.ref C_Book) "__ne__" = some (some (.builtin "object.__ne__")))
    (mro_Book : PySem.W.mroIn K C_Book (.type "object") = some true)
    (hcl_Book : PySem.W.findIn K (.ref C_Book) "__class__" = some (some (.builtin "object.__class__")))
    (hsp_Book : PySem.W.specialIn K (.builtin "object.__class__") "__get__" = some (some (.builtin "getset_descriptor.__get__")))
    (htk_Book : PySem.W.takesIn K (.builtin "object.__class__") = some true)
    (kwNoneType_Book : PySem.W.kitOne K (.type "NoneType") (.ref C_Book) = some false)
    (kwbool_Book : PySem.W.kitOne K (.type "bool") (.ref C_Book) = some false)
    (kwint_Book : PySem.W.kitOne K (.type "int") (.ref C_Book) = some false)
    (kwstr_Book : PySem.W.kitOne K (.type "str") (.ref C_Book) = some false)
    (kwtuple_Book : PySem.W.kitOne K (.type "tuple") (.ref C_Book) = some false)
    (kwlist_Book : PySem.W.kitOne K (.type "list") (.ref C_Book) = some false)
    (kwdict_Book : PySem.W.kitOne K (.type "dict") (.ref C_Book) = some false)
    (na_page_Book : PySem.W.findIn K (.ref C_Book) "page" = some none)
    (l_Book___init__ : K.lookup f_Book___init__ = some ⟨oc_Book___init__, od_Book___init__, .func (PySem.W.fnOf "__init__" "Book.__init__" (defArgs st_Book___init__) (defBody st_Book___init__) (defScope st_Book___init__) .none kV_Book___init__ dc_Book___init__ pm_Book___init__ an_Book___init__ cd_Book___init__ ct_Book___init__), sl_Book___init__⟩)
    (c_Book___init__ : PySem.W.codeIn K cd_Book___init__ "Book.__init__" = true)
    (k_Book___init__ : PySem.W.keepIn K (.ref f_Book___init__) = true)
    (e_Book___init__ : PySem.W.findIn K (.ref C_Book) "__init__" = some (some (.ref f_Book___init__)))
    (i_Book___init__ : PySem.W.isFn K (.ref f_Book___init__) = true)
    (l_Book___len__ : K.lookup f_Book___len__ = some ⟨oc_Book___len__, od_Book___len__, .func (PySem.W.fnOf "__len__" "Book.__len__" (defArgs st_Book___len__) (defBody st_Book___len__) (defScope st_Book___len__) .none kV_Book___len__ dc_Book___len__ pm_Book___len__ an_Book___len__ cd_Book___len__ ct_Book___len__), sl_Book___len__⟩)
    (c_Book___len__ : PySem.W.codeIn K cd_Book___len__ "Book.__len__" = true)
    (k_Book___len__ : PySem.W.keepIn K (.ref f_Book___len__) = true)
    (e_Book___len__ : PySem.W.findIn K (.ref C_Book) "__len__" = some (some (.ref f_Book___len__)))
    (i_Book___len__ : PySem.W.isFn K (.ref f_Book___len__) = true)
    (l_Book___bool__ : K.lookup f_Book___bool__ = some ⟨oc_Book___bool__, od_Book___bool__, .func (PySem.W.fnOf "__bool__" "Book.__bool__" (defArgs st_Book___bool__) (defBody st_Book___bool__) (defScope st_Book___bool__) .none kV_Book___bool__ dc_Book___bool__ pm_Book___bool__ an_Book___bool__ cd_Book___bool__ ct_Book___bool__), sl_Book___bool__⟩)
    (c_Book___bool__ : PySem.W.codeIn K cd_Book___bool__ "Book.__bool__" = true)
    (k_Book___bool__ : PySem.W.keepIn K (.ref f_Book___bool__) = true)
    (e_Book___bool__ : PySem.W.findIn K (.ref C_Book) "__bool__" = some (some (.ref f_Book___bool__)))
    (i_Book___bool__ : PySem.W.isFn K (.ref f_Book___bool__) = true)
    (l_Book___eq__ : K.lookup f_Book___eq__ = some ⟨oc_Book___eq__, od_Book___eq__, .func (PySem.W.fnOf "__eq__" "Book.__eq__" (defArgs st_Book___eq__) (defBody st_Book___eq__) (defScope st_Book___eq__) .none kV_Book___eq__ dc_Book___eq__ pm_Book___eq__ an_Book___eq__ cd_Book___eq__ ct_Book___eq__), sl_Book___eq__⟩)
    (c_Book___eq__ : PySem.W.codeIn K cd_Book___eq__ "Book.__eq__" = true)
    (k_Book___eq__ : PySem.W.keepIn K (.ref f_Book___eq__) = true)
    (e_Book___eq__ : PySem.W.findIn K (.ref C_Book) "__eq__" = some (some (.ref f_Book___eq__)))
    (i_Book___eq__ : PySem.W.isFn K (.ref f_Book___eq__) = true)
    (kx_Borders_Room : PySem.W.kitOne K (.ref C_Room) (.ref C_Borders) = some false)
    (sx_Borders_Room : PySem.W.subIn K (.ref C_Room) (.ref C_Borders) = some false)
    (kx_Borders_Book : PySem.W.kitOne K (.ref C_Book) (.ref C_Borders) = some false)
    (sx_Borders_Book : PySem.W.subIn K (.ref C_Book) (.ref C_Borders) = some false)
    (st_Borders_NoneType : PySem.W.subIn K (.ref C_Borders) (.type "NoneType") = some false)
    (su_Borders_NoneType : PySem.W.subIn K (.type "NoneType") (.ref C_Borders) = some false)
    (st_Borders_bool : PySem.W.subIn K (.ref C_Borders) (.type "bool") = some false)
    (su_Borders_bool : PySem.W.subIn K (.type "bool") (.ref C_Borders) = some false)
    (st_Borders_int : PySem.W.subIn K (.ref C_Borders) (.type "int") = some false)
    (su_Borders_int : PySem.W.subIn K (.type "int") (.ref C_Borders) = some false)
    (st_Borders_str : PySem.W.subIn K (.ref C_Borders) (.type "str") = some false)
    (su_Borders_str : PySem.W.subIn K (.type "str") (.ref C_Borders) = some false)
    (st_Borders_tuple : PySem.W.subIn K (.ref C_Borders) (.type "tuple") = some false)
    (su_Borders_tuple : PySem.W.subIn K (.type "tuple") (.ref C_Borders) = some false)
    (st_Borders_list : PySem.W.subIn K (.ref C_Borders) (.type "list") = some false)
    (su_Borders_list : PySem.W.subIn K (.type "list") (.ref C_Borders) = some false)
    (st_Borders_dict : PySem.W.subIn K (.ref C_Borders) (.type "dict") = some false)
    (su_Borders_dict : PySem.W.subIn K (.type "dict") (.ref C_Borders) = some false)
    (kx_Room_Borders : PySem.W.kitOne K (.ref C_Borders) (.ref C_Room) = some false)
    (sx_Room_Borders : PySem.W.subIn K (.ref C_Borders) (.ref C_Room) = some false)
    (kx_Room_Book : PySem.W.kitOne K (.ref C_Book) (.ref C_Room) = some false)
    (sx_Room_Book : PySem.W.subIn K (.ref C_Book) (.ref C_Room) = some false)
    (st_Room_NoneType : PySem.W.subIn K (.ref C_Room) (.type "NoneType") = some false)
    (su_Room_NoneType : PySem.W.subIn K (.type "NoneType") (.ref C_Room) = some false)
    (st_Room_bool : PySem.W.subIn K (.ref C_Room) (.type "bool") = some false)
    (su_Room_bool : PySem.W.subIn K (.type "bool") (.ref C_Room) = some false)
    (st_Room_int : PySem.W.subIn K (.ref C_Room) (.type "int") = some false)
    (su_Room_int : PySem.W.subIn K (.type "int") (.ref C_Room) = some false)
    (st_Room_str : PySem.W.subIn K (.ref C_Room) (.type "str") = some false)
    (su_Room_str : PySem.W.subIn K (.type "str") (.ref C_Room) = some false)
    (st_Room_tuple : PySem.W.subIn K (.ref C_Room) (.type "tuple") = some false)
    (su_Room_tuple : PySem.W.subIn K (.type "tuple") (.ref C_Room) = some false)
    (st_Room_list : PySem.W.subIn K (.ref C_Room) (.type "list") = some false)
    (su_Room_list : PySem.W.subIn K (.type "list") (.ref C_Room) = some false)
    (st_Room_dict : PySem.W.subIn K (.ref C_Room) (.type "dict") = some false)
    (su_Room_dict : PySem.W.subIn K (.type "dict") (.ref C_Room) = some false)
    (kx_Book_Borders : PySem.W.kitOne K (.ref C_Borders) (.ref C_Book) = some false)
    (sx_Book_Borders : PySem.W.subIn K (.ref C_Borders) (.ref C_Book) = some false)
    (kx_Book_Room : PySem.W.kitOne K (.ref C_Room) (.ref C_Book) = some false)
    (sx_Book_Room : PySem.W.subIn K (.ref C_Room) (.ref C_Book) = some false)
    (st_Book_NoneType : PySem.W.subIn K (.ref C_Book) (.type "NoneType") = some false)
    (su_Book_NoneType : PySem.W.subIn K (.type "NoneType") (.ref C_Book) = some false)
    (st_Book_bool : PySem.W.subIn K (.ref C_Book) (.type "bool") = some false)
    (su_Book_bool : PySem.W.subIn K (.type "bool") (.ref C_Book) = some false)
    (st_Book_int : PySem.W.subIn K (.ref C_Book) (.type "int") = some false)
    (su_Book_int : PySem.W.subIn K (.type "int") (.ref C_Book) = some false)
    (st_Book_str : PySem.W.subIn K (.ref C_Book) (.type "str") = some false)
    (su_Book_str : PySem.W.subIn K (.type "str") (.ref C_Book) = some false)
    (st_Book_tuple : PySem.W.subIn K (.ref C_Book) (.type "tuple") = some false)
    (su_Book_tuple : PySem.W.subIn K (.type "tuple") (.ref C_Book) = some false)
    (st_Book_list : PySem.W.subIn K (.ref C_Book) (.type "list") = some false)
    (su_Book_list : PySem.W.subIn K (.type "list") (.ref C_Book) = some false)
    (st_Book_dict : PySem.W.subIn K (.ref C_Book) (.type "dict") = some false)
    (su_Book_dict : PySem.W.subIn K (.type "dict") (.ref C_Book) = some false)
    (eq_Page : PySem.W.findIn K (.ref C_Page) "__eq__" = some (some (.builtin "object.__eq__"))) : Tx K mg where
  n_all := PySem.W.mg_none_of X G z_all
  n_len := PySem.W.mg_none_of X G z_len
  n_isinstance := PySem.W.mg_none_of X G z_isinstance
  n_str := PySem.W.mg_none_of X G z_str
  n_int := PySem.W.mg_none_of X G z_int
  n_tuple := PySem.W.mg_none_of X G z_tuple
  n_range := PySem.W.mg_none_of X G z_range
  n_sorted := PySem.W.mg_none_of X G z_sorted
  n_set := PySem.W.mg_none_of X G z_set
  n_abs := PySem.W.mg_none_of X G z_abs
  n_divmod := PySem.W.mg_none_of X G z_divmod
  n_repr := PySem.W.mg_none_of X G z_repr
  n_bool := PySem.W.mg_none_of X G z_bool
  n_max := PySem.W.mg_none_of X G z_max
  n_min := PySem.W.mg_none_of X G z_min
  c_LETTERS := ⟨_, PySem.W.mg_of X G s_LETTERS⟩
  c_DIGITS := ⟨_, PySem.W.mg_of X G s_DIGITS⟩
  c_LONGEST_WORD := ⟨_, PySem.W.mg_of X G s_LONGEST_WORD⟩
  c_MOST_CLAIMED := ⟨_, PySem.W.mg_of X G s_MOST_CLAIMED⟩
  c_MOST_SIGNS := ⟨_, PySem.W.mg_of X G s_MOST_SIGNS⟩
  c_MOST_PIECES := ⟨_, PySem.W.mg_of X G s_MOST_PIECES⟩
  c_MOST_CORNERS := ⟨_, PySem.W.mg_of X G s_MOST_CORNERS⟩
  c_MOST_NAMES := ⟨_, PySem.W.mg_of X G s_MOST_NAMES⟩
  c_MOST_LONG := ⟨_, PySem.W.mg_of X G s_MOST_LONG⟩
  c_MOST_COST := ⟨_, PySem.W.mg_of X G s_MOST_COST⟩
  c_MOST_SIDES := ⟨_, PySem.W.mg_of X G s_MOST_SIDES⟩
  c_MOST_PLUS := ⟨_, PySem.W.mg_of X G s_MOST_PLUS⟩
  c_MOST_SIZE := ⟨_, PySem.W.mg_of X G s_MOST_SIZE⟩
  c_MOST_TABLE := ⟨_, PySem.W.mg_of X G s_MOST_TABLE⟩
  c_NO_COST := ⟨_, PySem.W.mg_of X G s_NO_COST⟩
  c_TURNS := ⟨_, PySem.W.mg_of X G s_TURNS, fun H => .inr ⟨_, _, _, l_TURNS, rfl, rfl, by show 2 ≤ sizeLine; decide, .cons ⟨_, rfl⟩ (.cons ⟨_, rfl⟩ (.nil))⟩⟩
  c_SIDE_LETTERS := ⟨_, PySem.W.mg_of X G s_SIDE_LETTERS, fun H => .inr ⟨_, _, _, l_SIDE_LETTERS, rfl, rfl, by show 3 ≤ sizeLine; decide, .cons ⟨_, rfl⟩ (.cons ⟨_, rfl⟩ (.cons ⟨_, rfl⟩ (.nil)))⟩⟩
  a_is_letters := f_is_letters
  d_is_letters := PySem.W.fnOf "is_letters" "is_letters" (defArgs st_is_letters) (defBody st_is_letters) (defScope st_is_letters) .none kV_is_letters dc_is_letters pm_is_letters an_is_letters cd_is_letters ct_is_letters
  F_is_letters := fun_mk (st := st_is_letters) l_is_letters c_is_letters k_is_letters
  b_is_letters := (fun_mk (st := st_is_letters) l_is_letters c_is_letters k_is_letters).binds (ps := ["text", "most"]) fun _ _ _ _ _ _ us hl => match us, hl with | [_, _], _ => rfl
  g_is_letters := PySem.W.mg_of X G ag_is_letters
  a_is_word := f_is_word
  d_is_word := PySem.W.fnOf "is_word" "is_word" (defArgs st_is_word) (defBody st_is_word) (defScope st_is_word) .none kV_is_word dc_is_word pm_is_word an_is_word cd_is_word ct_is_word
  F_is_word := fun_mk (st := st_is_word) l_is_word c_is_word k_is_word
  b_is_word := (fun_mk (st := st_is_word) l_is_word c_is_word k_is_word).binds (ps := ["value"]) fun _ _ _ _ _ _ us hl => match us, hl with | [_], _ => rfl
  g_is_word := PySem.W.mg_of X G ag_is_word
  a_number_of := f_number_of
  d_number_of := PySem.W.fnOf "number_of" "number_of" (defArgs st_number_of) (defBody st_number_of) (defScope st_number_of) .none kV_number_of dc_number_of pm_number_of an_number_of cd_number_of ct_number_of
  F_number_of := fun_mk (st := st_number_of) l_number_of c_number_of k_number_of
  b_number_of := (fun_mk (st := st_number_of) l_number_of c_number_of k_number_of).binds (ps := ["text", "least", "most"]) fun _ _ _ _ _ _ us hl => match us, hl with | [_, _, _], _ => rfl
  g_number_of := PySem.W.mg_of X G ag_number_of
  a_signs_of := f_signs_of
  d_signs_of := PySem.W.fnOf "signs_of" "signs_of" (defArgs st_signs_of) (defBody st_signs_of) (defScope st_signs_of) .none kV_signs_of dc_signs_of pm_signs_of an_signs_of cd_signs_of ct_signs_of
  F_signs_of := fun_mk (st := st_signs_of) l_signs_of c_signs_of k_signs_of
  b_signs_of := (fun_mk (st := st_signs_of) l_signs_of c_signs_of k_signs_of).binds (ps := ["line"]) fun _ _ _ _ _ _ us hl => match us, hl with | [_], _ => rfl
  g_signs_of := PySem.W.mg_of X G ag_signs_of
  a_states_of := f_states_of
  d_states_of := PySem.W.fnOf "states_of" "states_of" (defArgs st_states_of) (defBody st_states_of) (defScope st_states_of) .none kV_states_of dc_states_of pm_states_of an_states_of cd_states_of ct_states_of
  F_states_of := fun_mk (st := st_states_of) l_states_of c_states_of k_states_of
  b_states_of := (fun_mk (st := st_states_of) l_states_of c_states_of k_states_of).binds (ps := ["signs"]) fun _ _ _ _ _ _ us hl => match us, hl with | [_], _ => rfl
  g_states_of := PySem.W.mg_of X G ag_states_of
  a_piece_of := f_piece_of
  d_piece_of := PySem.W.fnOf "piece_of" "piece_of" (defArgs st_piece_of) (defBody st_piece_of) (defScope st_piece_of) .none kV_piece_of dc_piece_of pm_piece_of an_piece_of cd_piece_of ct_piece_of
  F_piece_of := fun_mk (st := st_piece_of) l_piece_of c_piece_of k_piece_of
  b_piece_of := (fun_mk (st := st_piece_of) l_piece_of c_piece_of k_piece_of).binds (ps := ["line", "states"]) fun _ _ _ _ _ _ us hl => match us, hl with | [_, _], _ => rfl
  g_piece_of := PySem.W.mg_of X G ag_piece_of
  a_corner_of := f_corner_of
  d_corner_of := PySem.W.fnOf "corner_of" "corner_of" (defArgs st_corner_of) (defBody st_corner_of) (defScope st_corner_of) .none kV_corner_of dc_corner_of pm_corner_of an_corner_of cd_corner_of ct_corner_of
  F_corner_of := fun_mk (st := st_corner_of) l_corner_of c_corner_of k_corner_of
  b_corner_of := (fun_mk (st := st_corner_of) l_corner_of c_corner_of k_corner_of).binds (ps := ["line", "states"]) fun _ _ _ _ _ _ us hl => match us, hl with | [_, _], _ => rfl
  g_corner_of := PySem.W.mg_of X G ag_corner_of
  a_names_of := f_names_of
  d_names_of := PySem.W.fnOf "names_of" "names_of" (defArgs st_names_of) (defBody st_names_of) (defScope st_names_of) .none kV_names_of dc_names_of pm_names_of an_names_of cd_names_of ct_names_of
  F_names_of := fun_mk (st := st_names_of) l_names_of c_names_of k_names_of
  b_names_of := (fun_mk (st := st_names_of) l_names_of c_names_of k_names_of).binds (ps := ["rows"]) fun _ _ _ _ _ _ us hl => match us, hl with | [_], _ => rfl
  g_names_of := PySem.W.mg_of X G ag_names_of
  a_pieces_fit := f_pieces_fit
  d_pieces_fit := PySem.W.fnOf "pieces_fit" "pieces_fit" (defArgs st_pieces_fit) (defBody st_pieces_fit) (defScope st_pieces_fit) .none kV_pieces_fit dc_pieces_fit pm_pieces_fit an_pieces_fit cd_pieces_fit ct_pieces_fit
  F_pieces_fit := fun_mk (st := st_pieces_fit) l_pieces_fit c_pieces_fit k_pieces_fit
  b_pieces_fit := (fun_mk (st := st_pieces_fit) l_pieces_fit c_pieces_fit k_pieces_fit).binds (ps := ["pieces"]) fun _ _ _ _ _ _ us hl => match us, hl with | [_], _ => rfl
  g_pieces_fit := PySem.W.mg_of X G ag_pieces_fit
  a_corners_fit := f_corners_fit
  d_corners_fit := PySem.W.fnOf "corners_fit" "corners_fit" (defArgs st_corners_fit) (defBody st_corners_fit) (defScope st_corners_fit) .none kV_corners_fit dc_corners_fit pm_corners_fit an_corners_fit cd_corners_fit ct_corners_fit
  F_corners_fit := fun_mk (st := st_corners_fit) l_corners_fit c_corners_fit k_corners_fit
  b_corners_fit := (fun_mk (st := st_corners_fit) l_corners_fit c_corners_fit k_corners_fit).binds (ps := ["corners"]) fun _ _ _ _ _ _ us hl => match us, hl with | [_], _ => rfl
  g_corners_fit := PySem.W.mg_of X G ag_corners_fit
  a_parts_of := f_parts_of
  d_parts_of := PySem.W.fnOf "parts_of" "parts_of" (defArgs st_parts_of) (defBody st_parts_of) (defScope st_parts_of) .none kV_parts_of dc_parts_of pm_parts_of an_parts_of cd_parts_of ct_parts_of
  F_parts_of := fun_mk (st := st_parts_of) l_parts_of c_parts_of k_parts_of
  b_parts_of := (fun_mk (st := st_parts_of) l_parts_of c_parts_of k_parts_of).binds (ps := ["text"]) fun _ _ _ _ _ _ us hl => match us, hl with | [_], _ => rfl
  g_parts_of := PySem.W.mg_of X G ag_parts_of
  a_plus_of := f_plus_of
  d_plus_of := PySem.W.fnOf "plus_of" "plus_of" (defArgs st_plus_of) (defBody st_plus_of) (defScope st_plus_of) .none kV_plus_of dc_plus_of pm_plus_of an_plus_of cd_plus_of ct_plus_of
  F_plus_of := fun_mk (st := st_plus_of) l_plus_of c_plus_of k_plus_of
  b_plus_of := (fun_mk (st := st_plus_of) l_plus_of c_plus_of k_plus_of).binds (ps := ["text"]) fun _ _ _ _ _ _ us hl => match us, hl with | [_], _ => rfl
  g_plus_of := PySem.W.mg_of X G ag_plus_of
  a_side_of := f_side_of
  d_side_of := PySem.W.fnOf "side_of" "side_of" (defArgs st_side_of) (defBody st_side_of) (defScope st_side_of) .none kV_side_of dc_side_of pm_side_of an_side_of cd_side_of ct_side_of
  F_side_of := fun_mk (st := st_side_of) l_side_of c_side_of k_side_of
  b_side_of := (fun_mk (st := st_side_of) l_side_of c_side_of k_side_of).binds (ps := ["text"]) fun _ _ _ _ _ _ us hl => match us, hl with | [_], _ => rfl
  g_side_of := PySem.W.mg_of X G ag_side_of
  a_sides_of := f_sides_of
  d_sides_of := PySem.W.fnOf "sides_of" "sides_of" (defArgs st_sides_of) (defBody st_sides_of) (defScope st_sides_of) .none kV_sides_of dc_sides_of pm_sides_of an_sides_of cd_sides_of ct_sides_of
  F_sides_of := fun_mk (st := st_sides_of) l_sides_of c_sides_of k_sides_of
  b_sides_of := (fun_mk (st := st_sides_of) l_sides_of c_sides_of k_sides_of).binds (ps := ["text"]) fun _ _ _ _ _ _ us hl => match us, hl with | [_], _ => rfl
  g_sides_of := PySem.W.mg_of X G ag_sides_of
  a__law_spring := f__law_spring
  d__law_spring := PySem.W.fnOf "_law_spring" "_law_spring" (defArgs st__law_spring) (defBody st__law_spring) (defScope st__law_spring) .none kV__law_spring dc__law_spring pm__law_spring an__law_spring cd__law_spring ct__law_spring
  F__law_spring := fun_mk (st := st__law_spring) l__law_spring c__law_spring k__law_spring
  b__law_spring := (fun_mk (st := st__law_spring) l__law_spring c__law_spring k__law_spring).binds (ps := ["_law_cells", "_law_at"]) fun _ _ _ _ _ _ us hl => match us, hl with | [_, _], _ => rfl
  g__law_spring := PySem.W.mg_of X G ag__law_spring
  a__law_take := f__law_take
  d__law_take := PySem.W.fnOf "_law_take" "_law_take" (defArgs st__law_take) (defBody st__law_take) (defScope st__law_take) .none kV__law_take dc__law_take pm__law_take an__law_take cd__law_take ct__law_take
  F__law_take := fun_mk (st := st__law_take) l__law_take c__law_take k__law_take
  b__law_take := (fun_mk (st := st__law_take) l__law_take c__law_take k__law_take).binds (ps := ["_law_spring_here", "_law_much"]) fun _ _ _ _ _ _ us hl => match us, hl with | [_, _], _ => rfl
  g__law_take := PySem.W.mg_of X G ag__law_take
  a__law_word := f__law_word
  d__law_word := PySem.W.fnOf "_law_word" "_law_word" (defArgs st__law_word) (defBody st__law_word) (defScope st__law_word) .none kV__law_word dc__law_word pm__law_word an__law_word cd__law_word ct__law_word
  F__law_word := fun_mk (st := st__law_word) l__law_word c__law_word k__law_word
  b__law_word := (fun_mk (st := st__law_word) l__law_word c__law_word k__law_word).binds (ps := ["_law_spring_here"]) fun _ _ _ _ _ _ us hl => match us, hl with | [_], _ => rfl
  g__law_word := PySem.W.mg_of X G ag__law_word
  a__law_words := f__law_words
  d__law_words := PySem.W.fnOf "_law_words" "_law_words" (defArgs st__law_words) (defBody st__law_words) (defScope st__law_words) .none kV__law_words dc__law_words pm__law_words an__law_words cd__law_words ct__law_words
  F__law_words := fun_mk (st := st__law_words) l__law_words c__law_words k__law_words
  b__law_words := (fun_mk (st := st__law_words) l__law_words c__law_words k__law_words).binds (ps := ["_law_spring_here", "_law_much"]) fun _ _ _ _ _ _ us hl => match us, hl with | [_, _], _ => rfl
  g__law_words := PySem.W.mg_of X G ag__law_words
  a__law_state := f__law_state
  d__law_state := PySem.W.fnOf "_law_state" "_law_state" (defArgs st__law_state) (defBody st__law_state) (defScope st__law_state) .none kV__law_state dc__law_state pm__law_state an__law_state cd__law_state ct__law_state
  F__law_state := fun_mk (st := st__law_state) l__law_state c__law_state k__law_state
  b__law_state := (fun_mk (st := st__law_state) l__law_state c__law_state k__law_state).binds (ps := ["_law_spring_here", "_law_period"]) fun _ _ _ _ _ _ us hl => match us, hl with | [_, _], _ => rfl
  g__law_state := PySem.W.mg_of X G ag__law_state
  a__law_piece := f__law_piece
  d__law_piece := PySem.W.fnOf "_law_piece" "_law_piece" (defArgs st__law_piece) (defBody st__law_piece) (defScope st__law_piece) .none kV__law_piece dc__law_piece pm__law_piece an__law_piece cd__law_piece ct__law_piece
  F__law_piece := fun_mk (st := st__law_piece) l__law_piece c__law_piece k__law_piece
  b__law_piece := (fun_mk (st := st__law_piece) l__law_piece c__law_piece k__law_piece).binds (ps := ["_law_spring_here", "_law_title", "_law_period"]) fun _ _ _ _ _ _ us hl => match us, hl with | [_, _, _], _ => rfl
  g__law_piece := PySem.W.mg_of X G ag__law_piece
  a__law_joint := f__law_joint
  d__law_joint := PySem.W.fnOf "_law_joint" "_law_joint" (defArgs st__law_joint) (defBody st__law_joint) (defScope st__law_joint) .none kV__law_joint dc__law_joint pm__law_joint an__law_joint cd__law_joint ct__law_joint
  F__law_joint := fun_mk (st := st__law_joint) l__law_joint c__law_joint k__law_joint
  b__law_joint := (fun_mk (st := st__law_joint) l__law_joint c__law_joint k__law_joint).binds (ps := ["_law_spring_here", "_law_title", "_law_period"]) fun _ _ _ _ _ _ us hl => match us, hl with | [_, _, _], _ => rfl
  g__law_joint := PySem.W.mg_of X G ag__law_joint
  a__law_spec := f__law_spec
  d__law_spec := PySem.W.fnOf "_law_spec" "_law_spec" (defArgs st__law_spec) (defBody st__law_spec) (defScope st__law_spec) .none kV__law_spec dc__law_spec pm__law_spec an__law_spec cd__law_spec ct__law_spec
  F__law_spec := fun_mk (st := st__law_spec) l__law_spec c__law_spec k__law_spec
  b__law_spec := (fun_mk (st := st__law_spec) l__law_spec c__law_spec k__law_spec).binds (ps := ["_law_spring_here"]) fun _ _ _ _ _ _ us hl => match us, hl with | [_], _ => rfl
  g__law_spec := PySem.W.mg_of X G ag__law_spec
  a__law_piece_row := f__law_piece_row
  d__law_piece_row := PySem.W.fnOf "_law_piece_row" "_law_piece_row" (defArgs st__law_piece_row) (defBody st__law_piece_row) (defScope st__law_piece_row) .none kV__law_piece_row dc__law_piece_row pm__law_piece_row an__law_piece_row cd__law_piece_row ct__law_piece_row
  F__law_piece_row := fun_mk (st := st__law_piece_row) l__law_piece_row c__law_piece_row k__law_piece_row
  b__law_piece_row := (fun_mk (st := st__law_piece_row) l__law_piece_row c__law_piece_row k__law_piece_row).binds (ps := ["_law_part"]) fun _ _ _ _ _ _ us hl => match us, hl with | [_], _ => rfl
  g__law_piece_row := PySem.W.mg_of X G ag__law_piece_row
  a__law_joint_row := f__law_joint_row
  d__law_joint_row := PySem.W.fnOf "_law_joint_row" "_law_joint_row" (defArgs st__law_joint_row) (defBody st__law_joint_row) (defScope st__law_joint_row) .none kV__law_joint_row dc__law_joint_row pm__law_joint_row an__law_joint_row cd__law_joint_row ct__law_joint_row
  F__law_joint_row := fun_mk (st := st__law_joint_row) l__law_joint_row c__law_joint_row k__law_joint_row
  b__law_joint_row := (fun_mk (st := st__law_joint_row) l__law_joint_row c__law_joint_row k__law_joint_row).binds (ps := ["_law_joint_here"]) fun _ _ _ _ _ _ us hl => match us, hl with | [_], _ => rfl
  g__law_joint_row := PySem.W.mg_of X G ag__law_joint_row
  a__law_rows := f__law_rows
  d__law_rows := PySem.W.fnOf "_law_rows" "_law_rows" (defArgs st__law_rows) (defBody st__law_rows) (defScope st__law_rows) .none kV__law_rows dc__law_rows pm__law_rows an__law_rows cd__law_rows ct__law_rows
  F__law_rows := fun_mk (st := st__law_rows) l__law_rows c__law_rows k__law_rows
  b__law_rows := (fun_mk (st := st__law_rows) l__law_rows c__law_rows k__law_rows).binds (ps := ["_law_spec_here"]) fun _ _ _ _ _ _ us hl => match us, hl with | [_], _ => rfl
  g__law_rows := PySem.W.mg_of X G ag__law_rows
  a__law_joined := f__law_joined
  d__law_joined := PySem.W.fnOf "_law_joined" "_law_joined" (defArgs st__law_joined) (defBody st__law_joined) (defScope st__law_joined) .none kV__law_joined dc__law_joined pm__law_joined an__law_joined cd__law_joined ct__law_joined
  F__law_joined := fun_mk (st := st__law_joined) l__law_joined c__law_joined k__law_joined
  b__law_joined := (fun_mk (st := st__law_joined) l__law_joined c__law_joined k__law_joined).binds (ps := ["_law_spec_here"]) fun _ _ _ _ _ _ us hl => match us, hl with | [_], _ => rfl
  g__law_joined := PySem.W.mg_of X G ag__law_joined
  a__law_shuts := f__law_shuts
  d__law_shuts := PySem.W.fnOf "_law_shuts" "_law_shuts" (defArgs st__law_shuts) (defBody st__law_shuts) (defScope st__law_shuts) .none kV__law_shuts dc__law_shuts pm__law_shuts an__law_shuts cd__law_shuts ct__law_shuts
  F__law_shuts := fun_mk (st := st__law_shuts) l__law_shuts c__law_shuts k__law_shuts
  b__law_shuts := (fun_mk (st := st__law_shuts) l__law_shuts c__law_shuts k__law_shuts).binds (ps := ["_law_spring_here", "_law_most_here", "_law_reach", "_law_lean"]) fun _ _ _ _ _ _ us hl => match us, hl with | [_, _, _, _], _ => rfl
  g__law_shuts := PySem.W.mg_of X G ag__law_shuts
  a__law_shut_row := f__law_shut_row
  d__law_shut_row := PySem.W.fnOf "_law_shut_row" "_law_shut_row" (defArgs st__law_shut_row) (defBody st__law_shut_row) (defScope st__law_shut_row) .none kV__law_shut_row dc__law_shut_row pm__law_shut_row an__law_shut_row cd__law_shut_row ct__law_shut_row
  F__law_shut_row := fun_mk (st := st__law_shut_row) l__law_shut_row c__law_shut_row k__law_shut_row
  b__law_shut_row := (fun_mk (st := st__law_shut_row) l__law_shut_row c__law_shut_row k__law_shut_row).binds (ps := ["_law_shut"]) fun _ _ _ _ _ _ us hl => match us, hl with | [_], _ => rfl
  g__law_shut_row := PySem.W.mg_of X G ag__law_shut_row
  a__law_plan := f__law_plan
  d__law_plan := PySem.W.fnOf "_law_plan" "_law_plan" (defArgs st__law_plan) (defBody st__law_plan) (defScope st__law_plan) .none kV__law_plan dc__law_plan pm__law_plan an__law_plan cd__law_plan ct__law_plan
  F__law_plan := fun_mk (st := st__law_plan) l__law_plan c__law_plan k__law_plan
  b__law_plan := (fun_mk (st := st__law_plan) l__law_plan c__law_plan k__law_plan).binds (ps := ["_law_shuts_here"]) fun _ _ _ _ _ _ us hl => match us, hl with | [_], _ => rfl
  g__law_plan := PySem.W.mg_of X G ag__law_plan
  a__law_pair := f__law_pair
  d__law_pair := PySem.W.fnOf "_law_pair" "_law_pair" (defArgs st__law_pair) (defBody st__law_pair) (defScope st__law_pair) .none kV__law_pair dc__law_pair pm__law_pair an__law_pair cd__law_pair ct__law_pair
  F__law_pair := fun_mk (st := st__law_pair) l__law_pair c__law_pair k__law_pair
  b__law_pair := (fun_mk (st := st__law_pair) l__law_pair c__law_pair k__law_pair).binds (ps := ["_law_first", "_law_second", "_law_same"]) fun _ _ _ _ _ _ us hl => match us, hl with | [_, _, _], _ => rfl
  g__law_pair := PySem.W.mg_of X G ag__law_pair
  a__law_right := f__law_right
  d__law_right := PySem.W.fnOf "_law_right" "_law_right" (defArgs st__law_right) (defBody st__law_right) (defScope st__law_right) .none kV__law_right dc__law_right pm__law_right an__law_right cd__law_right ct__law_right
  F__law_right := fun_mk (st := st__law_right) l__law_right c__law_right k__law_right
  b__law_right := (fun_mk (st := st__law_right) l__law_right c__law_right k__law_right).binds (ps := ["_law_spring_here"]) fun _ _ _ _ _ _ us hl => match us, hl with | [_], _ => rfl
  g__law_right := PySem.W.mg_of X G ag__law_right
  a_law := f_law
  d_law := PySem.W.fnOf "law" "law" (defArgs st_law) (defBody st_law) (defScope st_law) .none kV_law dc_law pm_law an_law cd_law ct_law
  F_law := fun_mk (st := st_law) l_law c_law k_law
  b_law := (fun_mk (st := st_law) l_law c_law k_law).binds (ps := ["_law_cells"]) fun _ _ _ _ _ _ us hl => match us, hl with | [_], _ => rfl
  g_law := PySem.W.mg_of X G ag_law
  a_Borders___init__ := f_Borders___init__
  d_Borders___init__ := PySem.W.fnOf "__init__" "Borders.__init__" (defArgs st_Borders___init__) (defBody st_Borders___init__) (defScope st_Borders___init__) .none kV_Borders___init__ dc_Borders___init__ pm_Borders___init__ an_Borders___init__ cd_Borders___init__ ct_Borders___init__
  F_Borders___init__ := fun_mk (st := st_Borders___init__) l_Borders___init__ c_Borders___init__ k_Borders___init__
  b_Borders___init__ := (fun_mk (st := st_Borders___init__) l_Borders___init__ c_Borders___init__ k_Borders___init__).binds (ps := ["self", "text"]) fun _ _ _ _ _ _ us hl => match us, hl with | [_, _], _ => rfl
  mk_Borders := ⟨mk_Borders, e_Borders___init__, i_Borders___init__, kc_Borders⟩
  kb_Borders := ⟨fun s us ws X l1 l2 => match us, ws, l1, l2 with | [_], [_], _, _ => .of_eq rfl, fun r1 r2 => r1.append r2⟩
  a_Borders_text := f_Borders_text
  d_Borders_text := PySem.W.fnOf "text" "Borders.text" (defArgs st_Borders_text) (defBody st_Borders_text) (defScope st_Borders_text) .none kV_Borders_text dc_Borders_text pm_Borders_text an_Borders_text cd_Borders_text ct_Borders_text
  F_Borders_text := fun_mk (st := st_Borders_text) l_Borders_text c_Borders_text k_Borders_text
  b_Borders_text := (fun_mk (st := st_Borders_text) l_Borders_text c_Borders_text k_Borders_text).binds (ps := ["self"]) fun _ _ _ _ _ _ us hl => match us, hl with | [_], _ => rfl
  p_Borders_text := p_Borders_text
  P_Borders_text := ⟨e_Borders_text, g_Borders_text, tk_Borders_text, ⟨_, r_Borders_text⟩⟩
  a_Borders___eq__ := f_Borders___eq__
  d_Borders___eq__ := PySem.W.fnOf "__eq__" "Borders.__eq__" (defArgs st_Borders___eq__) (defBody st_Borders___eq__) (defScope st_Borders___eq__) .none kV_Borders___eq__ dc_Borders___eq__ pm_Borders___eq__ an_Borders___eq__ cd_Borders___eq__ ct_Borders___eq__
  F_Borders___eq__ := fun_mk (st := st_Borders___eq__) l_Borders___eq__ c_Borders___eq__ k_Borders___eq__
  b_Borders___eq__ := (fun_mk (st := st_Borders___eq__) l_Borders___eq__ c_Borders___eq__ k_Borders___eq__).binds (ps := ["self", "other"]) fun _ _ _ _ _ _ us hl => match us, hl with | [_, _], _ => rfl
  f_Borders___eq__ := e_Borders___eq__
  k_Borders___eq__ := i_Borders___eq__
  C_Borders := C_Borders
  g_Borders := PySem.W.mg_of X G aC_Borders
  cl_Borders := ⟨pg_Borders, hd_Borders, po_Borders, sa_Borders⟩
  ne_Borders := ne_Borders
  mro_Borders := mro_Borders
  bool_Borders := bool_Borders
  i_Borders := ⟨fun t b h => own_kit kwNoneType_Borders kwbool_Borders kwint_Borders kwstr_Borders kwtuple_Borders kwlist_Borders kwdict_Borders t b h, fun D b h => by rw [own_is h]; exact ⟨⟨pg_Borders, hd_Borders, po_Borders, sa_Borders⟩, hcl_Borders, hsp_Borders, htk_Borders, mro_Borders⟩⟩
  na_whole := na_whole_Borders
  na_all_states := na_all_states_Borders
  na_corner_names := na_corner_names_Borders
  na_motif := na_motif_Borders
  na_piece_rows := na_piece_rows_Borders
  na_corner_rows := na_corner_rows_Borders
  nolen_Borders := nolen_Borders
  a_Room___init__ := f_Room___init__
  d_Room___init__ := PySem.W.fnOf "__init__" "Room.__init__" (defArgs st_Room___init__) (defBody st_Room___init__) (defScope st_Room___init__) .none kV_Room___init__ dc_Room___init__ pm_Room___init__ an_Room___init__ cd_Room___init__ ct_Room___init__
  F_Room___init__ := fun_mk (st := st_Room___init__) l_Room___init__ c_Room___init__ k_Room___init__
  b_Room___init__ := (fun_mk (st := st_Room___init__) l_Room___init__ c_Room___init__ k_Room___init__).binds (ps := ["self", "text"]) fun _ _ _ _ _ _ us hl => match us, hl with | [_, _], _ => rfl
  mk_Room := ⟨mk_Room, e_Room___init__, i_Room___init__, kc_Room⟩
  kb_Room := ⟨fun s us ws X l1 l2 => match us, ws, l1, l2 with | [_], [_], _, _ => .of_eq rfl, fun r1 r2 => r1.append r2⟩
  a_Room_text := f_Room_text
  d_Room_text := PySem.W.fnOf "text" "Room.text" (defArgs st_Room_text) (defBody st_Room_text) (defScope st_Room_text) .none kV_Room_text dc_Room_text pm_Room_text an_Room_text cd_Room_text ct_Room_text
  F_Room_text := fun_mk (st := st_Room_text) l_Room_text c_Room_text k_Room_text
  b_Room_text := (fun_mk (st := st_Room_text) l_Room_text c_Room_text k_Room_text).binds (ps := ["self"]) fun _ _ _ _ _ _ us hl => match us, hl with | [_], _ => rfl
  p_Room_text := p_Room_text
  P_Room_text := ⟨e_Room_text, g_Room_text, tk_Room_text, ⟨_, r_Room_text⟩⟩
  a_Room___eq__ := f_Room___eq__
  d_Room___eq__ := PySem.W.fnOf "__eq__" "Room.__eq__" (defArgs st_Room___eq__) (defBody st_Room___eq__) (defScope st_Room___eq__) .none kV_Room___eq__ dc_Room___eq__ pm_Room___eq__ an_Room___eq__ cd_Room___eq__ ct_Room___eq__
  F_Room___eq__ := fun_mk (st := st_Room___eq__) l_Room___eq__ c_Room___eq__ k_Room___eq__
  b_Room___eq__ := (fun_mk (st := st_Room___eq__) l_Room___eq__ c_Room___eq__ k_Room___eq__).binds (ps := ["self", "other"]) fun _ _ _ _ _ _ us hl => match us, hl with | [_, _], _ => rfl
  f_Room___eq__ := e_Room___eq__
  k_Room___eq__ := i_Room___eq__
  a_Room___len__ := f_Room___len__
  d_Room___len__ := PySem.W.fnOf "__len__" "Room.__len__" (defArgs st_Room___len__) (defBody st_Room___len__) (defScope st_Room___len__) .none kV_Room___len__ dc_Room___len__ pm_Room___len__ an_Room___len__ cd_Room___len__ ct_Room___len__
  F_Room___len__ := fun_mk (st := st_Room___len__) l_Room___len__ c_Room___len__ k_Room___len__
  b_Room___len__ := (fun_mk (st := st_Room___len__) l_Room___len__ c_Room___len__ k_Room___len__).binds (ps := ["self"]) fun _ _ _ _ _ _ us hl => match us, hl with | [_], _ => rfl
  f_Room___len__ := e_Room___len__
  k_Room___len__ := i_Room___len__
  C_Room := C_Room
  g_Room := PySem.W.mg_of X G aC_Room
  cl_Room := ⟨pg_Room, hd_Room, po_Room, sa_Room⟩
  ne_Room := ne_Room
  mro_Room := mro_Room
  bool_Room := bool_Room
  i_Room := ⟨fun t b h => own_kit kwNoneType_Room kwbool_Room kwint_Room kwstr_Room kwtuple_Room kwlist_Room kwdict_Room t b h, fun D b h => by rw [own_is h]; exact ⟨⟨pg_Room, hd_Room, po_Room, sa_Room⟩, hcl_Room, hsp_Room, htk_Room, mro_Room⟩⟩
  na_Room_whole := na_whole_Room
  na_rows := na_rows_Room
  na_alphabet := na_alphabet_Room
  a_Page___init__ := f_Page___init__
  d_Page___init__ := PySem.W.fnOf "__init__" "Page.__init__" (defArgs st_Page___init__) (defBody st_Page___init__) (defScope st_Page___init__) .none kV_Page___init__ dc_Page___init__ pm_Page___init__ an_Page___init__ cd_Page___init__ ct_Page___init__
  F_Page___init__ := fun_mk (st := st_Page___init__) l_Page___init__ c_Page___init__ k_Page___init__
  b_Page___init__ := (fun_mk (st := st_Page___init__) l_Page___init__ c_Page___init__ k_Page___init__).binds (ps := ["self", "shelf", "row", "behind"]) fun _ _ _ _ _ _ us hl => match us, hl with | [_, _, _, _], _ => rfl
  mk_Page := ⟨mk_Page, e_Page___init__, i_Page___init__, kc_Page⟩
  kb_Page := ⟨fun s us ws X l1 l2 => match us, ws, l1, l2 with | [_], [_, _, _], _, _ => .of_eq rfl, fun r1 r2 => r1.append r2⟩
  C_Page := C_Page
  g_Page := PySem.W.mg_of X G aC_Page
  cl_Page := ⟨pg_Page, hd_Page, po_Page, sa_Page⟩
  ne_Page := ne_Page
  mro_Page := mro_Page
  bool_Page := bool_Page
  i_Page := ⟨fun t b h => own_kit kwNoneType_Page kwbool_Page kwint_Page kwstr_Page kwtuple_Page kwlist_Page kwdict_Page t b h, fun D b h => by rw [own_is h]; exact ⟨⟨pg_Page, hd_Page, po_Page, sa_Page⟩, hcl_Page, hsp_Page, htk_Page, mro_Page⟩⟩
  na_shelf := na_shelf_Page
  na_row := na_row_Page
  na_behind := na_behind_Page
  na_many := na_many_Page
  nolen_Page := nolen_Page
  a_Book___init__ := f_Book___init__
  d_Book___init__ := PySem.W.fnOf "__init__" "Book.__init__" (defArgs st_Book___init__) (defBody st_Book___init__) (defScope st_Book___init__) .none kV_Book___init__ dc_Book___init__ pm_Book___init__ an_Book___init__ cd_Book___init__ ct_Book___init__
  F_Book___init__ := fun_mk (st := st_Book___init__) l_Book___init__ c_Book___init__ k_Book___init__
  b_Book___init__ := (fun_mk (st := st_Book___init__) l_Book___init__ c_Book___init__ k_Book___init__).binds (ps := ["self"]) fun _ _ _ _ _ _ us hl => match us, hl with | [_], _ => rfl
  mk_Book := ⟨mk_Book, e_Book___init__, i_Book___init__, kc_Book⟩
  kb_Book := ⟨fun s us ws X l1 l2 => match us, ws, l1, l2 with | [_], [], _, _ => .of_eq rfl, fun r1 r2 => r1.append r2⟩
  a_Book___len__ := f_Book___len__
  d_Book___len__ := PySem.W.fnOf "__len__" "Book.__len__" (defArgs st_Book___len__) (defBody st_Book___len__) (defScope st_Book___len__) .none kV_Book___len__ dc_Book___len__ pm_Book___len__ an_Book___len__ cd_Book___len__ ct_Book___len__
  F_Book___len__ := fun_mk (st := st_Book___len__) l_Book___len__ c_Book___len__ k_Book___len__
  b_Book___len__ := (fun_mk (st := st_Book___len__) l_Book___len__ c_Book___len__ k_Book___len__).binds (ps := ["self"]) fun _ _ _ _ _ _ us hl => match us, hl with | [_], _ => rfl
  f_Book___len__ := e_Book___len__
  k_Book___len__ := i_Book___len__
  a_Book___bool__ := f_Book___bool__
  d_Book___bool__ := PySem.W.fnOf "__bool__" "Book.__bool__" (defArgs st_Book___bool__) (defBody st_Book___bool__) (defScope st_Book___bool__) .none kV_Book___bool__ dc_Book___bool__ pm_Book___bool__ an_Book___bool__ cd_Book___bool__ ct_Book___bool__
  F_Book___bool__ := fun_mk (st := st_Book___bool__) l_Book___bool__ c_Book___bool__ k_Book___bool__
  b_Book___bool__ := (fun_mk (st := st_Book___bool__) l_Book___bool__ c_Book___bool__ k_Book___bool__).binds (ps := ["self"]) fun _ _ _ _ _ _ us hl => match us, hl with | [_], _ => rfl
  f_Book___bool__ := e_Book___bool__
  k_Book___bool__ := i_Book___bool__
  a_Book___eq__ := f_Book___eq__
  d_Book___eq__ := PySem.W.fnOf "__eq__" "Book.__eq__" (defArgs st_Book___eq__) (defBody st_Book___eq__) (defScope st_Book___eq__) .none kV_Book___eq__ dc_Book___eq__ pm_Book___eq__ an_Book___eq__ cd_Book___eq__ ct_Book___eq__
  F_Book___eq__ := fun_mk (st := st_Book___eq__) l_Book___eq__ c_Book___eq__ k_Book___eq__
  b_Book___eq__ := (fun_mk (st := st_Book___eq__) l_Book___eq__ c_Book___eq__ k_Book___eq__).binds (ps := ["self", "other"]) fun _ _ _ _ _ _ us hl => match us, hl with | [_, _], _ => rfl
  f_Book___eq__ := e_Book___eq__
  k_Book___eq__ := i_Book___eq__
  C_Book := C_Book
  g_Book := PySem.W.mg_of X G aC_Book
  cl_Book := ⟨pg_Book, hd_Book, po_Book, sa_Book⟩
  ne_Book := ne_Book
  mro_Book := mro_Book
  i_Book := ⟨fun t b h => own_kit kwNoneType_Book kwbool_Book kwint_Book kwstr_Book kwtuple_Book kwlist_Book kwdict_Book t b h, fun D b h => by rw [own_is h]; exact ⟨⟨pg_Book, hd_Book, po_Book, sa_Book⟩, hcl_Book, hsp_Book, htk_Book, mro_Book⟩⟩
  na_page := na_page_Book
  sx_Borders_Room := sx_Borders_Room
  nx_Borders_Room := own_ne kx_Borders_Room
  sx_Borders_Book := sx_Borders_Book
  nx_Borders_Book := own_ne kx_Borders_Book
  st_Borders_NoneType := st_Borders_NoneType
  su_Borders_NoneType := su_Borders_NoneType
  st_Borders_bool := st_Borders_bool
  su_Borders_bool := su_Borders_bool
  st_Borders_int := st_Borders_int
  su_Borders_int := su_Borders_int
  st_Borders_str := st_Borders_str
  su_Borders_str := su_Borders_str
  st_Borders_tuple := st_Borders_tuple
  su_Borders_tuple := su_Borders_tuple
  st_Borders_list := st_Borders_list
  su_Borders_list := su_Borders_list
  st_Borders_dict := st_Borders_dict
  su_Borders_dict := su_Borders_dict
  ix_Borders := ⟨fun t b h => ownX_kit kwNoneType_Borders kwbool_Borders kwint_Borders kwstr_Borders kwtuple_Borders kwlist_Borders kwdict_Borders (all_cons kx_Borders_Room (all_cons kx_Borders_Book all_nil)) t b h, fun D b h => ownX_ins h (all_cons ⟨⟨pg_Borders, hd_Borders, po_Borders, sa_Borders⟩, hcl_Borders, hsp_Borders, htk_Borders, mro_Borders⟩ (all_cons ⟨⟨pg_Room, hd_Room, po_Room, sa_Room⟩, hcl_Room, hsp_Room, htk_Room, mro_Room⟩ (all_cons ⟨⟨pg_Book, hd_Book, po_Book, sa_Book⟩, hcl_Book, hsp_Book, htk_Book, mro_Book⟩ all_nil)))⟩
  sx_Room_Borders := sx_Room_Borders
  nx_Room_Borders := own_ne kx_Room_Borders
  sx_Room_Book := sx_Room_Book
  nx_Room_Book := own_ne kx_Room_Book
  st_Room_NoneType := st_Room_NoneType
  su_Room_NoneType := su_Room_NoneType
  st_Room_bool := st_Room_bool
  su_Room_bool := su_Room_bool
  st_Room_int := st_Room_int
  su_Room_int := su_Room_int
  st_Room_str := st_Room_str
  su_Room_str := su_Room_str
  st_Room_tuple := st_Room_tuple
  su_Room_tuple := su_Room_tuple
  st_Room_list := st_Room_list
  su_Room_list := su_Room_list
  st_Room_dict := st_Room_dict
  su_Room_dict := su_Room_dict
  ix_Room := ⟨fun t b h => ownX_kit kwNoneType_Room kwbool_Room kwint_Room kwstr_Room kwtuple_Room kwlist_Room kwdict_Room (all_cons kx_Room_Borders (all_cons kx_Room_Book all_nil)) t b h, fun D b h => ownX_ins h (all_cons ⟨⟨pg_Room, hd_Room, po_Room, sa_Room⟩, hcl_Room, hsp_Room, htk_Room, mro_Room⟩ (all_cons ⟨⟨pg_Borders, hd_Borders, po_Borders, sa_Borders⟩, hcl_Borders, hsp_Borders, htk_Borders, mro_Borders⟩ (all_cons ⟨⟨pg_Book, hd_Book, po_Book, sa_Book⟩, hcl_Book, hsp_Book, htk_Book, mro_Book⟩ all_nil)))⟩
  sx_Book_Borders := sx_Book_Borders
  nx_Book_Borders := own_ne kx_Book_Borders
  sx_Book_Room := sx_Book_Room
  nx_Book_Room := own_ne kx_Book_Room
  st_Book_NoneType := st_Book_NoneType
  su_Book_NoneType := su_Book_NoneType
  st_Book_bool := st_Book_bool
  su_Book_bool := su_Book_bool
  st_Book_int := st_Book_int
  su_Book_int := su_Book_int
  st_Book_str := st_Book_str
  su_Book_str := su_Book_str
  st_Book_tuple := st_Book_tuple
  su_Book_tuple := su_Book_tuple
  st_Book_list := st_Book_list
  su_Book_list := su_Book_list
  st_Book_dict := st_Book_dict
  su_Book_dict := su_Book_dict
  ix_Book := ⟨fun t b h => ownX_kit kwNoneType_Book kwbool_Book kwint_Book kwstr_Book kwtuple_Book kwlist_Book kwdict_Book (all_cons kx_Book_Borders (all_cons kx_Book_Room all_nil)) t b h, fun D b h => ownX_ins h (all_cons ⟨⟨pg_Book, hd_Book, po_Book, sa_Book⟩, hcl_Book, hsp_Book, htk_Book, mro_Book⟩ (all_cons ⟨⟨pg_Borders, hd_Borders, po_Borders, sa_Borders⟩, hcl_Borders, hsp_Borders, htk_Borders, mro_Borders⟩ (all_cons ⟨⟨pg_Room, hd_Room, po_Room, sa_Room⟩, hcl_Room, hsp_Room, htk_Room, mro_Room⟩ all_nil)))⟩
  eq_Page := eq_Page
end K17

namespace K17
open PySem PySem.Spec PyProof.Rows L2 Cw

def optI : Option Int → D
  | none => .non
  | some i => .int i
abbrev one (k : Nat) : Str := ⟨#[k]⟩
def lower (k : Nat) : Bool := decide (97 ≤ k ∧ k ≤ 122)
def isLet (t : Str) (n : Int) : Bool := decide (1 ≤ (t.length : Int) ∧ (t.length : Int) ≤ n) && t.cps.toList.all lower
theorem lets : (("abcdefghijklmnopqrstuvwxyz" : Str).cps.toList) = (List.range 26).map (· + 97) := by decide +kernel
theorem let_in (k : Nat) : decide (k ∈ (("abcdefghijklmnopqrstuvwxyz" : Str).cps.toList)) = lower k := by
  rw [lets]; unfold lower; simp only [List.mem_map, List.mem_range]
  refine decide_eq_decide.mpr ⟨fun ⟨a, h, e⟩ => by omega, fun h => ⟨k - 97, by omega, by omega⟩⟩
def S_is_letters : Pm := fun c ds Φ => ∃ t n, ds = [.str t, .int n] ∧ t.length ≤ 5000 ∧ Φ (.bl (isLet t n)) c
section
variable {P : Program} {w : World} {K : PySem.W.Frag} {mg : Str → Option Value} {base : Heap}
set_option maxHeartbeats 8000000 in
theorem ok_is_letters (T : Tx K mg) : FnOk P w K mg base CX0 1 T.a_is_letters T.d_is_letters ["text", "most"] (spD K 0 2 S_is_letters) := by
  refine fnD T.F_is_letters sc_is_letters fun cdv A outer s H E hr => ⟨_, (psd_one (psd_ret (pd_and (pd_lele pd_int (pd_len (pd_v 0) T.n_len) (pd_v 1)) (pd_one (pd_all rfl (pd_lc (i := 2) rfl sc_is_letters.nd (pid_str (pd_v 0)) (by kernel_rfl) (fun _ _ _ _ _ => pg_name (i := 2) sc_is_letters.nd rfl (Or.inl rfl)) (fun _ _ _ _ _ => ptd_nil) (fun _ _ _ _ _ => (pd_in hr (pd_v 2) (pd_gs T.c_LETTERS)))) T.n_all))))), ?_⟩
  rintro c ds Φ hc - ⟨t, n, rfl, ht, hΦ⟩
  cases c with
  | cons _ _ => cases hc
  | nil =>
  conv => whnf
  refine ⟨Nat.le_trans ht (by decide), ?_⟩
  conv => whnf
  have big : t.length ≤ sizeLine := Nat.le_trans ht (by decide)
  split
  · rename_i h1
    have h1 : (1 : Int) ≤ t.length := by simpa using h1
    conv => whnf
    split
    · rename_i h2
      have h2 : (t.length : Int) ≤ n := by simpa using h2
      conv => whnf
      refine lc_map (c := []) (fun d => match d with | .str x => .bl (inS x "abcdefghijklmnopqrstuvwxyz") | _ => .non) rfl _ (fun d hd => ?_) (by show (t.cps.toList.map _).length ≤ _; rw [List.length_map]; exact big) ?_
      · obtain ⟨k, _, rfl⟩ := List.mem_map.mp hd
        exact ⟨rfl, fun acc Ψ _ h => h⟩
      · have e : bls ((chars t).map fun d => match d with | .str x => D.bl (inS x "abcdefghijklmnopqrstuvwxyz") | _ => .non) = some (t.cps.toList.map lower) := by
          show bls ((t.cps.toList.map _).map _) = _
          generalize t.cps.toList = l
          induction l with
          | nil => rfl
          | cons k l ih =>
            show (bls _).map _ = _
            rw [ih]
            show some (inS (one k) _ :: _) = _
            rw [show inS (one k) "abcdefghijklmnopqrstuvwxyz" = lower k from let_in k]; rfl
        refine ⟨_, e, ?_⟩
        conv => whnf
        have : isLet t n = ((t.cps.toList.map lower).all id) := by
          unfold isLet; rw [decide_eq_true ⟨h1, h2⟩]; simp [List.all_map]
        rw [this] at hΦ
        exact hΦ
    · rename_i h2
      have h2 : ¬ (t.length : Int) ≤ n := by simpa using h2
      conv => whnf
      have : isLet t n = false := by unfold isLet; rw [decide_eq_false (fun z => h2 z.2)]; rfl
      rw [this] at hΦ
      exact hΦ
    · rename_i h2 h3
      cases e : decide ((t.length : Int) ≤ n) with
      | true => exact (h2 (by simp [e])).elim
      | false => exact (h3 (by simp [e])).elim
  · rename_i h1
    have h1 : ¬ (1 : Int) ≤ t.length := by simpa using h1
    conv => whnf
    have : isLet t n = false := by unfold isLet; rw [decide_eq_false (fun z => h1 z.1)]; rfl
    rw [this] at hΦ
    exact hΦ
  · rename_i h1 h2
    cases e : decide ((1 : Int) ≤ t.length) with
    | true => exact (h1 (by simp [e])).elim
    | false => exact (h2 (by simp [e])).elim

end
end K17

namespace K17
open PySem PySem.Spec PyProof.Rows L2 Cw

theorem short {n : Nat} (h : n ≤ 60000) : n ≤ sizeLine := Nat.le_trans h (by decide)
theorem all_small {n k : Nat} (hk : k < n) {P : Nat → Prop} (h : ∀ i : Fin n, P i.val) : P k := h ⟨k, hk⟩
/-- a state -/
def stS (i : Nat) (d : Bool) : Str := toString (i : Int) ++ (if d then ">" else "<")
def stL (n : Nat) : List Str := (List.range n).flatMap fun i => [stS i false, stS i true]
def bendS (o : Bool) : Str := if o then "out" else "in"
structure Part where
  t : Str
  i : Nat
  d : Bool
  j : Nat
  e : Bool
  l : Nat
  c : Nat
structure Joint where
  t : Str
  o : Bool
  i : Nat
  d : Bool
  j : Nat
  e : Bool
  c : Nat
def Part.ok (n : Nat) (p : Part) : Prop := isLet p.t 8 = true ∧ (p.i < n ∧ p.j < n) ∧ (1 ≤ p.l ∧ p.l ≤ 6) ∧ p.c ≤ 9
def Joint.ok (n : Nat) (p : Joint) : Prop := isLet p.t 8 = true ∧ (p.i < n ∧ p.j < n) ∧ p.c ≤ 9
def Part.d' (p : Part) : D := .tup [.str p.t, .str (stS p.i p.d), .str (stS p.j p.e), .int p.l, .int p.c]
def Joint.k (p : Joint) : List Key := [.inr p.t, .inr (bendS p.o), .inr (stS p.i p.d), .inr (stS p.j p.e), .inl p.c]
def Joint.d' (p : Joint) : D := keyD p.k
def Part.ws (p : Part) : List Str := ["piece", p.t, stS p.i p.d, stS p.j p.e, "long", toString (p.l : Int), "cost", toString (p.c : Int)]
def Joint.ws (p : Joint) : List Str := ["corner", p.t, bendS p.o, stS p.i p.d, stS p.j p.e, "cost", toString (p.c : Int)]
def Part.row (p : Part) : Str := Txt.join " " p.ws
def Joint.row (p : Joint) : Str := Txt.join " " p.ws
/-- signs from 33 to 127, few of them -/
def tame (n : Nat) (t : Str) : Bool := t.cps.toList.all (fun k => decide (33 ≤ k ∧ k < 128)) && decide (t.length ≤ n)
theorem tame_no {n k : Nat} {t : Str} (h : tame n t = true) (hk : k < 33) : k ∉ TL.tl t := fun z => by
  have h1 := (Bool.and_eq_true_iff.mp h).1
  have := of_decide_eq_true (List.all_eq_true.mp h1 k z)
  omega
theorem tame_ok {n : Nat} {t : Str} (h : tame n t = true) : PyData.strOk t = true := by
  have h1 := (Bool.and_eq_true_iff.mp h).1
  unfold PyData.strOk
  rw [Array.all_eq_true_iff_forall_mem]
  intro k hk
  have := of_decide_eq_true (List.all_eq_true.mp h1 k (by simpa using hk))
  exact decide_eq_true (by omega)
theorem tame_len {n : Nat} {t : Str} (h : tame n t = true) : t.length ≤ n := of_decide_eq_true (Bool.and_eq_true_iff.mp h).2
theorem let_tame {t : Str} {n : Nat} (h : isLet t n = true) : tame n t = true := by
  unfold isLet at h
  obtain ⟨h1, h2⟩ := Bool.and_eq_true_iff.mp h
  have h1 := of_decide_eq_true h1
  refine Bool.and_eq_true_iff.mpr ⟨List.all_eq_true.mpr fun k hk => ?_, decide_eq_true (by omega)⟩
  have := of_decide_eq_true (List.all_eq_true.mp h2 k hk)
  exact decide_eq_true (by omega)
theorem st_tame {i : Nat} (d : Bool) (h : i < 5) : tame 2 (stS i d) = true := all_small h (P := fun i => tame 2 (stS i d) = true) (by cases d <;> decide +kernel)
theorem dig_tame {c : Nat} (h : c < 10) : tame 1 (toString (c : Int)) = true := all_small h (P := fun c : Nat => tame 1 (toString (c : Int)) = true) (by decide +kernel)
theorem bend_tame (o : Bool) : tame 3 (bendS o) = true := by cases o <;> decide +kernel
theorem join_len (y : Str) : ∀ xs : List Str, (Txt.join y xs).length ≤ (xs.map (·.length)).sum + y.length * xs.length := fun xs => by
  have key : ∀ xs : List Str, (TL.joinL (TL.tl y) (xs.map TL.tl)).length ≤ (xs.map (·.length)).sum + y.length * xs.length := by
    intro xs
    induction xs with
    | nil => exact Nat.zero_le _
    | cons x xs ih =>
      cases xs with
      | nil =>
        show (TL.tl x).length ≤ (x.length + 0) + y.length * 1
        rw [show (TL.tl x).length = x.length from Array.length_toList]
        omega
      | cons z r =>
        show (TL.tl x ++ (TL.tl y ++ TL.joinL (TL.tl y) ((z :: r).map TL.tl))).length ≤ (x.length + ((z :: r).map (·.length)).sum) + y.length * ((z :: r).length + 1)
        rw [List.length_append, List.length_append, show (TL.tl x).length = x.length from Array.length_toList, show (TL.tl y).length = y.length from Array.length_toList, Nat.mul_add]
        omega
  have e : (Txt.join y xs).length = (TL.joinL (TL.tl y) (xs.map TL.tl)).length := by
    rw [← TL.tl_join, ← TL.join_eq]; exact Array.length_toList.symm
  rw [e]; exact key xs
theorem Part.tames {n : Nat} {p : Part} (h : p.ok n) (hn : n ≤ 5) : ∀ w ∈ p.ws, tame 8 w = true := by
  have up : ∀ {k : Nat} {t : Str}, k ≤ 8 → tame k t = true → tame 8 t = true := fun hk h => by
    obtain ⟨h1, h2⟩ := Bool.and_eq_true_iff.mp h
    exact Bool.and_eq_true_iff.mpr ⟨h1, decide_eq_true (Nat.le_trans (of_decide_eq_true h2) hk)⟩
  obtain ⟨h1, ⟨h2, h3⟩, ⟨h4, h5⟩, h6⟩ := h
  simp only [Part.ws, List.forall_mem_cons, List.not_mem_nil, false_implies, implies_true, and_true]
  exact ⟨by decide +kernel, let_tame h1, up (by decide) (st_tame _ (by omega)), up (by decide) (st_tame _ (by omega)), by decide +kernel, up (by decide) (dig_tame (by omega)), by decide +kernel, up (by decide) (dig_tame (by omega))⟩
theorem Joint.tames {n : Nat} {p : Joint} (h : p.ok n) (hn : n ≤ 5) : ∀ w ∈ p.ws, tame 8 w = true := by
  have up : ∀ {k : Nat} {t : Str}, k ≤ 8 → tame k t = true → tame 8 t = true := fun hk h => by
    obtain ⟨h1, h2⟩ := Bool.and_eq_true_iff.mp h
    exact Bool.and_eq_true_iff.mpr ⟨h1, decide_eq_true (Nat.le_trans (of_decide_eq_true h2) hk)⟩
  obtain ⟨h1, ⟨h2, h3⟩, h6⟩ := h
  simp only [Joint.ws, List.forall_mem_cons, List.not_mem_nil, false_implies, implies_true, and_true]
  exact ⟨by decide +kernel, let_tame h1, up (by decide) (bend_tame _), up (by decide) (st_tame _ (by omega)), up (by decide) (st_tame _ (by omega)), by decide +kernel, up (by decide) (dig_tame (by omega))⟩
theorem ws_split {ws : List Str} (h : ∀ w ∈ ws, tame 8 w = true) (hn : ws ≠ []) : Txt.split (Txt.join " " ws) " " = ws :=
  TL.split_join (s := 32) (S := []) (by decide +kernel) (by decide +kernel) hn fun w hw => tame_no (h w hw) (by decide)
theorem ws_len {ws : List Str} (h : ∀ w ∈ ws, tame 8 w = true) : (Txt.join " " ws).length ≤ 9 * ws.length := by
  have h2 : (ws.map (·.length)).sum ≤ 8 * ws.length := by
    induction ws with
    | nil => exact Nat.le_refl _
    | cons w ws ih =>
      have a := tame_len (h w List.mem_cons_self)
      have b := ih (fun x hx => h x (List.mem_cons_of_mem _ hx))
      rw [List.map_cons, List.sum_cons, List.length_cons]
      omega
  have h1 := join_len (" " : Str) ws
  have h3 : (" " : Str).length = 1 := by decide
  rw [h3] at h1
  omega
theorem joinL_no {S : List Nat} {k : Nat} (hs : k ∉ S) : ∀ {ps : List (List Nat)}, (∀ p ∈ ps, k ∉ p) → k ∉ TL.joinL S ps
  | [], _ => by simp [TL.joinL]
  | [p], h => h p (by simp)
  | p :: q :: r, h => fun z => by
    rcases List.mem_append.mp z with z | z
    · exact h p (by simp) z
    · rcases List.mem_append.mp z with z | z
      · exact hs z
      · exact joinL_no hs (fun x hx => h x (List.mem_cons_of_mem _ hx)) z
theorem ws_line {ws : List Str} (h : ∀ w ∈ ws, tame 8 w = true) : 10 ∉ TL.tl (Txt.join " " ws) := by
  rw [TL.join_eq, TL.tl_join]
  refine joinL_no (by decide +kernel) fun p hp => ?_
  obtain ⟨w, hw, rfl⟩ := List.mem_map.mp hp
  exact tame_no (h w hw) (by decide)
theorem st_mem {n i : Nat} {d : Bool} (h : i < n) : stS i d ∈ stL n := List.mem_flatMap.mpr ⟨i, List.mem_range.mpr h, by cases d <;> simp⟩
def Part.py (p : Part) : PyData := .tuple [.str p.t, .str (stS p.i p.d), .str (stS p.j p.e), .int p.l, .int p.c]
def Joint.py (p : Joint) : PyData := .tuple [.str p.t, .str (bendS p.o), .str (stS p.i p.d), .str (stS p.j p.e), .int p.c]
section
variable {α : Type} {d : α → D} {py : α → PyData}
theorem pys_of (h : ∀ x, D.py (d x) = some (py x)) : ∀ xs : List α, D.pys (xs.map d) = some (xs.map py)
  | [] => rfl
  | x :: xs => by
    show (match D.py (d x), D.pys (xs.map d) with | some p, some ps => some (p :: ps) | _, _ => none) = _
    rw [h x, pys_of h xs]; rfl
theorem lay_of : ∀ {xs : List α}, (∀ x ∈ xs, (py x).canLay0 = true) → PyData.canLayAll0 (xs.map py) = true
  | [], _ => rfl
  | x :: xs, h => by
    show ((py x).canLay0 && PyData.canLayAll0 (xs.map py)) = true
    rw [h x List.mem_cons_self, lay_of fun y hy => h y (List.mem_cons_of_mem _ hy)]; rfl
theorem dep_of {n : Nat} : ∀ {xs : List α}, (∀ x ∈ xs, (py x).depth ≤ n) → PyData.depthAll (xs.map py) ≤ n
  | [], _ => Nat.zero_le _
  | x :: xs, h => by
    show max (py x).depth (PyData.depthAll (xs.map py)) ≤ n
    have h1 := h x List.mem_cons_self
    have h2 := dep_of fun y hy => h y (List.mem_cons_of_mem _ hy)
    omega
theorem shaped_of {xs : List α} (h1 : ∀ x ∈ xs, (py x).canLay0 = true) (h2 : ∀ x ∈ xs, (py x).depth ≤ 1) : SeqAt.shaped (.list (xs.map py)) = true := by
  show (PyData.canLayAll0 (xs.map py) && decide (PyData.depthAll (xs.map py) + 1 ≤ 64)) = true
  have := dep_of h2
  rw [lay_of h1, decide_eq_true (by omega)]; rfl
theorem any_none {xs : List α} (h : ∀ x, (py x).eqv .none = false) : ((xs.map py).any fun z => PyData.eqv z .none) = false := by
  rw [List.any_eq_false]
  intro z hz
  obtain ⟨x, _, rfl⟩ := List.mem_map.mp hz
  rw [h x]; decide
end
theorem Part.lay {n : Nat} {p : Part} (h : p.ok n) (hn : n ≤ 5) : p.py.canLay0 = true := by
  show (PyData.strOk p.t && (PyData.strOk (stS p.i p.d) && (PyData.strOk (stS p.j p.e) && true))) = true
  rw [tame_ok (let_tame (n := 8) h.1), tame_ok (st_tame _ (by have := h.2.1.1; omega)), tame_ok (st_tame _ (by have := h.2.1.2; omega))]; rfl
theorem Joint.lay {n : Nat} {p : Joint} (h : p.ok n) (hn : n ≤ 5) : p.py.canLay0 = true := by
  show (PyData.strOk p.t && (PyData.strOk (bendS p.o) && (PyData.strOk (stS p.i p.d) && (PyData.strOk (stS p.j p.e) && true)))) = true
  rw [tame_ok (let_tame (n := 8) h.1), tame_ok (bend_tame p.o), tame_ok (st_tame _ (by have := h.2.1.1; omega)), tame_ok (st_tame _ (by have := h.2.1.2; omega))]; rfl
theorem nodup_sub : ∀ {l ks : List Str}, l.Nodup → (∀ x ∈ l, x ∈ ks) → l.length ≤ ks.length
  | [], _, _, _ => Nat.zero_le _
  | x :: l, ks, nd, sub => by
    obtain ⟨hx, nd'⟩ := List.nodup_cons.mp nd
    have hm := sub x List.mem_cons_self
    have h1 := nodup_sub (ks := ks.erase x) nd' fun y hy => (List.mem_erase_of_ne (fun z => by subst z; exact hx hy)).mpr (sub y (List.mem_cons_of_mem _ hy))
    have h2 := List.length_erase_of_mem hm
    have h3 := List.length_pos_of_mem hm
    show l.length + 1 ≤ _
    omega
theorem same_len {a b : List Str} (h1 : a.Nodup) (h2 : b.Nodup) (h : ∀ x, x ∈ a ↔ x ∈ b) : a.length = b.length :=
  Nat.le_antisymm (nodup_sub h1 fun x hx => (h x).mp hx) (nodup_sub h2 fun x hx => (h x).mpr hx)
end K17

namespace K17
open PySem PySem.Spec PyProof.Rows L2 Cw
def numberOf (t : Str) (lo hi : Int) : Option Int := match t.cps.toList with
  | [k] => if (48 ≤ k ∧ k ≤ 57) ∧ lo ≤ (k : Int) - 48 ∧ (k : Int) - 48 ≤ hi then some ((k : Int) - 48) else none
  | _ => none
theorem str_one {t : Str} (h : (t.length : Int) = 1) : ∃ k, t = one k := by
  cases t with | mk a => cases a with | mk l =>
    have h : ((l.length : Nat) : Int) = 1 := h
    match l, h with
    | [k], _ => exact ⟨k, rfl⟩
    | [], h => simp at h
    | _ :: _ :: _, h => simp at h; omega
theorem digs : (("0123456789" : Str).cps.toList) = [48, 49, 50, 51, 52, 53, 54, 55, 56, 57] := by decide +kernel
theorem dig_in (k : Nat) : k ∈ (("0123456789" : Str).cps.toList) ↔ (48 ≤ k ∧ k ≤ 57) := by
  rw [digs]; simp; omega
theorem dig_val {k : Nat} (h : 48 ≤ k ∧ k ≤ 57) : PySem.intText? (one k) = some ((k : Int) - 48) := by
  have : k = 48 ∨ k = 49 ∨ k = 50 ∨ k = 51 ∨ k = 52 ∨ k = 53 ∨ k = 54 ∨ k = 55 ∨ k = 56 ∨ k = 57 := by omega
  rcases this with h | h | h | h | h | h | h | h | h | h <;> subst h <;> decide +kernel
def S_number_of : Pm := fun c ds Φ => ∃ t lo hi, ds = [.str t, .int lo, .int hi] ∧ t.length ≤ 5000 ∧ Φ (optI (numberOf t lo hi)) c

def S_is_word : Pm := fun c ds Φ => ∃ t, ds = [.str t] ∧ t.length ≤ 5000 ∧ Φ (.bl (isLet t 8)) c
def signL (m : Str) : Str := Txt.join " " ["signs", m]
def S_signs_of : Pm := fun c ds Φ => ∃ m, ds = [.str (signL m)] ∧ isLet m 5 = true ∧ Φ (.str m) c
def stD (n : Nat) : D := .tup ((stL n).map .str)
def S_states_of : Pm := fun c ds Φ => ∃ m : Str, ds = [.str m] ∧ m.length ≤ 5 ∧ Φ (stD m.length) c
section
variable {P : Program} {w : World} {K : PySem.W.Frag} {mg : Str → Option Value} {base : Heap}
set_option maxHeartbeats 8000000 in
theorem ok_number_of (T : Tx K mg) : FnOk P w K mg base CX0 1 T.a_number_of T.d_number_of ["text", "least", "most"] (spD K 0 3 S_number_of) := by
  refine fnD T.F_number_of sc_number_of fun cdv A outer s H E hr => ⟨_, (psd_cons (psd_if (PDw.pt (pdw_or (pdt_ne hr (pd_len (pd_v 0) T.n_len) pd_int) (pdw_or (pdt_nin hr (pd_v 0) (pd_gs T.c_DIGITS)) (pdw_or1 (pdt_not (pdt_lele (pd_v 1) (pd_intc (pd_v 0) T.n_int) (pd_v 2))))))) (psd_one (psd_ret pd_non)) psd_nil) (psd_one (psd_ret (pd_intc (pd_v 0) T.n_int)))), ?_⟩
  rintro c ds Φ hc - ⟨t, lo, hi, rfl, ht, hΦ⟩
  cases c with
  | cons _ _ => cases hc
  | nil =>
  conv => whnf
  refine ⟨Nat.le_trans ht (by decide), ?_⟩
  conv => whnf
  split
  · rename_i he
    conv => whnf
    have he : ¬ (t.length : Int) = 1 := by simpa using he
    have : numberOf t lo hi = none := by
      unfold numberOf
      split
      · rename_i k e
        refine absurd ?_ he
        show ((t.cps.size : Nat) : Int) = 1
        rw [← Array.length_toList, e]; rfl
      · rfl
    rw [this] at hΦ
    exact hΦ
  · rename_i he
    have he : (t.length : Int) = 1 := by simpa using he
    obtain ⟨k, rfl⟩ := str_one he
    conv => whnf
    split
    · rename_i hd
      conv => whnf
      have hd : ¬ (48 ≤ k ∧ k ≤ 57) := by
        rw [← dig_in]
        simpa [inS] using hd
      have : numberOf (one k) lo hi = none := by
        show (if _ then _ else _) = _
        rw [if_neg (fun z => hd z.1)]
      rw [this] at hΦ
      exact hΦ
    · rename_i hd
      have hd : 48 ≤ k ∧ k ≤ 57 := by
        rw [← dig_in]
        simpa [inS] using hd
      conv => whnf
      refine ⟨by show 1 ≤ 640; decide, _, dig_val hd, ?_⟩
      conv => whnf
      have fin : ∀ b : Bool, (b = true → lo ≤ (k : Int) - 48 ∧ (k : Int) - 48 ≤ hi) → (b = false → ¬ (lo ≤ (k : Int) - 48 ∧ (k : Int) - 48 ≤ hi)) → (match (!b) with
        | true => retD 0 Φ .non []
        | false => dRet (dCB (un1 fInt) (dCons (dVar 0) dNil)) ⟨fun _ c' => retD 0 Φ .non c', retD 0 Φ, fun _ _ => False, fun _ _ => False⟩ (startD ["text", "least", "most"] [.str (one k), .int lo, .int hi]) []) := fun b h1 h2 => by
        cases b with
        | true =>
          conv => whnf
          refine ⟨by show 1 ≤ 640; decide, _, dig_val hd, ?_⟩
          conv => whnf
          have : numberOf (one k) lo hi = some ((k : Int) - 48) := by
            show (if _ then _ else _) = _
            rw [if_pos ⟨hd, h1 rfl⟩]
          rw [this] at hΦ
          exact hΦ
        | false =>
          conv => whnf
          have : numberOf (one k) lo hi = none := by
            show (if _ then _ else _) = _
            rw [if_neg (fun z => h2 rfl z.2)]
          rw [this] at hΦ
          exact hΦ
      split
      · rename_i he
        have hl : lo ≤ (k : Int) - 48 := by simpa using he
        conv => whnf
        exact fin (decide ((k : Int) - 48 ≤ hi)) (fun h => ⟨hl, of_decide_eq_true h⟩) (fun h z => of_decide_eq_false h z.2)
      · rename_i he
        have hl : ¬ lo ≤ (k : Int) - 48 := by simpa using he
        exact fin false (fun h => by cases h) (fun _ z => hl z.1)
      · rename_i h1 h2
        cases e : decide (lo ≤ (k : Int) - 48) with
        | true => exact (h1 (by simp [e])).elim
        | false => exact (h2 (by simp [e])).elim
set_option maxHeartbeats 8000000 in
theorem ok_is_word (T : Tx K mg) : FnOk P w K mg base CX0 2 T.a_is_word T.d_is_word ["value"] (spD K 0 1 S_is_word) := by
  refine fnD T.F_is_word sc_is_word fun cdv A outer s H E hr => ⟨_, (psd_one (psd_ret (pd_and (pd_isi isi_str (.ty "str") (pd_v 0) (pe_bltn rfl T.n_str (by decide +kernel) rfl) T.n_isinstance) (pd_one (pd_callP (ok_is_letters T) (hr.mono (by decide)) T.g_is_letters T.F_is_letters.kp T.b_is_letters pass0 (pds_cons (pd_v 0) (pds_cons (pd_gi T.c_LONGEST_WORD) pds_nil))))))), ?_⟩
  rintro c ds Φ hc - ⟨t, rfl, ht, hΦ⟩
  cases c with
  | cons _ _ => cases hc
  | nil =>
  conv => whnf
  refine ⟨_, true, rfl, rfl, ?_⟩
  conv => whnf
  exact ⟨rfl, rfl, t, 8, rfl, ht, hΦ⟩
set_option maxHeartbeats 8000000 in
theorem ok_signs_of (T : Tx K mg) : FnOk P w K mg base CX0 2 T.a_signs_of T.d_signs_of ["line"] (spD K 0 1 S_signs_of) := by
  refine fnD T.F_signs_of sc_signs_of fun cdv A outer s H E hr => ⟨_, (psd_cons (psd_set (i := 1) sc_signs_of.nd (pd_split (pd_v 0) pd_str)) (psd_cons (psd_if (PDw.pt (pdw_or (pdt_ne hr (pd_len (pd_v 1) T.n_len) pd_int) (pdw_or (pdt_ne hr (pd_ix (pd_v 1) pd_int) pd_str) (pdw_or1 (pdt_not (pdt_val (pd_callP (ok_is_letters T) (hr.mono (by decide)) T.g_is_letters T.F_is_letters.kp T.b_is_letters pass0 (pds_cons (pd_ix (pd_v 1) pd_int) (pds_cons (pd_gi T.c_MOST_SIGNS) pds_nil))))))))) (psd_one (psd_ret pd_non)) psd_nil) (psd_one (psd_ret (pd_ix (pd_v 1) pd_int))))), ?_⟩
  rintro c ds Φ hc - ⟨m, rfl, hm, hΦ⟩
  cases c with
  | cons _ _ => cases hc
  | nil =>
  have hs : Txt.split (signL m) " " = [("signs" : Str), m] := by
    refine TL.split_join (s := 32) (S := []) (by decide +kernel) (by decide +kernel) (by simp) fun p hp => ?_
    rcases List.mem_cons.mp hp with rfl | hp
    · decide +kernel
    · rw [List.mem_singleton.mp hp]; exact tame_no (let_tame hm) (by decide)
  have hml : m.length ≤ 5 := tame_len (let_tame hm)
  have hl : (signL m).length ≤ 20 := by
    have h1 := join_len (" " : Str) [("signs" : Str), m]
    have h3 : (" " : Str).length = 1 := by decide
    have h4 : ("signs" : Str).length = 5 := by decide
    rw [h3] at h1
    simp only [List.map_cons, List.map_nil, List.sum_cons, List.sum_nil, List.length_cons, List.length_nil, h4] at h1
    refine Nat.le_trans h1 ?_
    omega
  conv => whnf
  refine ⟨_, rfl, ?_⟩
  conv => whnf
  refine ⟨rfl, by exact short (by omega), ?_⟩
  rw [hs]
  conv => whnf
  refine ⟨rfl, rfl, m, 5, rfl, by omega, ?_⟩
  rw [hm]
  exact hΦ
set_option maxHeartbeats 8000000 in
theorem ok_states_of (T : Tx K mg) : FnOk P w K mg base CX0 1 T.a_states_of T.d_states_of ["signs"] (spD K 0 1 S_states_of) := by
  refine fnD T.F_states_of sc_states_of fun cdv A outer s H E hr => ⟨_, (psd_one (psd_ret (pd_tuplec (pd_lc2 (i := 1) (j := 2) rfl sc_states_of.nd (pid_range1 (pd_len (pd_v 0) T.n_len) T.n_range) (by kernel_rfl) (fun _ _ _ _ _ => pg_name (i := 1) sc_states_of.nd rfl (Or.inl rfl)) (fun _ _ _ _ _ => (pid_str pd_str)) (fun _ _ _ _ _ => pg_name (i := 2) sc_states_of.nd rfl (Or.inl rfl)) (fun _ _ _ _ _ => (pd_fs2 (pd_v 1) (pd_v 2)))) T.n_tuple))), ?_⟩
  rintro c ds Φ hc - ⟨m, rfl, hm, hΦ⟩
  cases c with
  | cons _ _ => cases hc
  | nil =>
  conv => whnf
  refine ⟨short (by omega), ?_⟩
  conv => whnf
  have mi : ∀ d ∈ rng 0 ((m.length : Int).toNat), ∃ i : Nat, i < 5 ∧ d = .int i := fun d hd => by
    obtain ⟨i, hi, rfl⟩ := List.mem_map.mp hd
    exact ⟨i, by have := List.mem_range.mp hi; simp at this; omega, by simp⟩
  have tl : ∀ i : Nat, i < 5 → (toString (i : Int) : Str).length ≤ 1 ∧ (i : Int).natAbs.log2 < 1920 := fun i hi =>
    ⟨tame_len (dig_tame (by omega)), by
      have : (i : Int).natAbs < 16 := by omega
      have : (i : Int).natAbs.log2 < 4 := by
        by_cases h0 : (i : Int).natAbs = 0
        · rw [h0]; decide
        · exact (Nat.log2_lt h0).mpr (by omega)
      omega⟩
  refine ⟨⟨by omega, by omega⟩, fun _ => [.str "<", .str ">"], fun a b => match a, b with | .int i, .str x => .str ((toString i : Str) ++ x) | _, _ => .non, rfl, ?_, ?_, ?_, ?_⟩
  · intro d hd acc Ψ h
    conv => whnf
    exact h
  · intro d hd e he
    obtain ⟨i, hi, rfl⟩ := mi d hd
    obtain ⟨h1, h2⟩ := tl i hi
    have fin : ∀ x : Str, x.length = 1 → okD 0 (.str ((toString (i : Int) : Str) ++ x)) = true ∧ ∀ acc (Ψ : D → List Cell → Prop), Ψ (.str ((toString (i : Int) : Str) ++ x)) [.lst acc] → dFs2 (dVar 1) (dVar 2) ((((List.set (startD ["signs", "phase", "way"] [.str m]) 2 none).set 1 none).set 1 (some (.int i))).set 2 (some (.str x))) [.lst acc] Ψ := fun x hx => by
      refine ⟨rfl, fun acc Ψ h => ?_⟩
      conv => whnf
      refine ⟨_, by show (if _ then _ else _) = _; exact if_pos h2, short (by omega), ?_⟩
      conv => whnf
      exact ⟨_, by show (if _ then _ else _) = _; exact if_pos (short (by omega)), short (by omega), h⟩
    rcases List.mem_cons.mp he with rfl | he
    · exact fin "<" (by decide)
    · rw [List.mem_singleton.mp he]; exact fin ">" (by decide)
  · have : ∀ l : List D, (l.flatMap fun d => ([.str "<", .str ">"] : List D).map fun b => match d, b with | .int i, .str x => D.str ((toString i : Str) ++ x) | _, _ => .non).length = 2 * l.length := fun l => by
      induction l with
      | nil => rfl
      | cons d l ih => rw [List.flatMap_cons, List.length_append, ih, List.length_cons, List.length_map]; show 2 + _ = _; omega
    refine Nat.le_trans (Nat.le_of_eq (this _)) ?_
    rw [rng_len]
    exact short (by simp; omega)
  · conv => whnf
    have e : ((rng 0 ((m.length : Int).toNat)).flatMap fun d => ([.str "<", .str ">"] : List D).map fun b => match d, b with | .int i, .str x => D.str ((toString i : Str) ++ x) | _, _ => .non) = (stL m.length).map .str := by
      unfold rng stL
      rw [List.flatMap_map, List.map_flatMap]
      simp [stS]
    rw [e]
    exact hΦ

end
end K17

namespace K17
open PySem PySem.Spec PyProof.Rows L2 Cw

def S_piece_of : Pm := fun c ds Φ => ∃ p n, ds = [.str (Part.row p), stD n] ∧ n ≤ 5 ∧ p.ok n ∧ Φ p.d' c
def S_corner_of : Pm := fun c ds Φ => ∃ p n, ds = [.str (Joint.row p), stD n] ∧ n ≤ 5 ∧ p.ok n ∧ Φ p.d' c
theorem dig_num {l : Nat} (h : l < 10) (lo hi : Int) (h1 : lo ≤ l) (h2 : (l : Int) ≤ hi) : numberOf (toString (l : Int)) lo hi = some (l : Int) := by
  have e : (toString (l : Int) : Str).cps.toList = [l + 48] := all_small h (P := fun l : Nat => (toString (l : Int) : Str).cps.toList = [l + 48]) (by decide +kernel)
  unfold numberOf
  rw [e]
  show (if _ then _ else _) = _
  have e2 : ((l + 48 : Nat) : Int) - 48 = l := by omega
  rw [e2, if_pos ⟨⟨by omega, by omega⟩, h1, h2⟩]
theorem txt_in {x : Str} {ys : List Str} (h : x ∈ ys) : inF (.str x) (ys.map .str) = true := by
  unfold inF inV
  rw [List.map_map, List.any_map]
  refine List.any_eq_true.mpr ⟨x, h, ?_⟩
  show eqV (.str x) (.str x) = true
  simp [eqV]
theorem txt_flat (ys : List Str) : (ys.map D.str).all flatD = true := by
  rw [List.all_map]; exact List.all_eq_true.mpr fun x _ => rfl
section
variable {P : Program} {w : World} {K : PySem.W.Frag} {mg : Str → Option Value} {base : Heap}
set_option maxHeartbeats 8000000 in
theorem ok_piece_of (T : Tx K mg) : FnOk P w K mg base CX0 3 T.a_piece_of T.d_piece_of ["line", "states"] (spD K 0 2 S_piece_of) := by
  refine fnD T.F_piece_of sc_piece_of fun cdv A outer s H E hr => ⟨_, (psd_cons (psd_set (i := 2) sc_piece_of.nd (pd_split (pd_v 0) pd_str)) (psd_cons (psd_if (PDw.pt (pdw_or (pdt_ne hr (pd_len (pd_v 2) T.n_len) pd_int) (pdw_or1 (pdt_ne hr (pd_lst (pds_cons (pd_ix (pd_v 2) pd_int) (pds_cons (pd_ix (pd_v 2) pd_int) (pds_cons (pd_ix (pd_v 2) pd_int) pds_nil)))) (pd_lst (pds_cons pd_str (pds_cons pd_str (pds_cons pd_str pds_nil)))))))) (psd_one (psd_ret pd_non)) psd_nil) (psd_cons (psd_asg (pd_sl (pd_v 2) (po_so pd_int) (po_so pd_int)) (pgd_lst rfl (pgds_cons (pgd_name (i := 3) sc_piece_of.nd) (pgds_cons (pgd_name (i := 4) sc_piece_of.nd) (pgds_cons (pgd_name (i := 5) sc_piece_of.nd) pgds_nil))))) (psd_cons (psd_set (i := 6) sc_piece_of.nd (pd_callP (ok_number_of T) (hr.mono (by decide)) T.g_number_of T.F_number_of.kp T.b_number_of pass0 (pds_cons (pd_ix (pd_v 2) pd_int) (pds_cons pd_int (pds_cons (pd_gi T.c_MOST_LONG) pds_nil))))) (psd_cons (psd_set (i := 7) sc_piece_of.nd (pd_callP (ok_number_of T) (hr.mono (by decide)) T.g_number_of T.F_number_of.kp T.b_number_of pass0 (pds_cons (pd_ix (pd_v 2) pd_int) (pds_cons pd_int (pds_cons (pd_gi T.c_MOST_COST) pds_nil))))) (psd_cons (psd_if (PDw.pt (pdw_or (pdt_not (pdt_val (pd_callP (ok_is_word T) (hr.mono (by decide)) T.g_is_word T.F_is_word.kp T.b_is_word pass0 (pds_cons (pd_v 3) pds_nil)))) (pdw_or (pdt_nin hr (pd_v 4) (pd_v 1)) (pdw_or (pdt_nin hr (pd_v 5) (pd_v 1)) (pdw_or (pdt_isn (pd_v 6) pd_non) (pdw_or1 (pdt_isn (pd_v 7) pd_non))))))) (psd_one (psd_ret pd_non)) psd_nil) (psd_one (psd_ret (pd_tup (pds_cons (pd_v 3) (pds_cons (pd_v 4) (pds_cons (pd_v 5) (pds_cons (pd_v 6) (pds_cons (pd_v 7) pds_nil)))))))))))))), ?_⟩
  rintro c ds Φ hc - ⟨p, n, rfl, hn, hp, hΦ⟩
  cases c with
  | cons _ _ => cases hc
  | nil =>
  have tm := Part.tames hp hn
  have hs := ws_split tm (by simp [Part.ws])
  have hl := ws_len tm
  have hl : (Part.row p).length ≤ 100 := Nat.le_trans hl (by simp [Part.ws])
  conv => whnf
  refine ⟨_, rfl, ?_⟩
  conv => whnf
  refine ⟨rfl, short (by omega), ?_⟩
  rw [show Txt.split (Part.row p) " " = p.ws from hs]
  conv => whnf
  refine ⟨short (by decide), ?_⟩
  conv => whnf
  refine ⟨short (by decide), ?_⟩
  conv => whnf
  refine ⟨_, _, rfl, rfl, by decide +kernel, by decide +kernel, ?_⟩
  rw [show PyData.eqv (.list [.str "piece", .str "long", .str "cost"]) (.list [.str "piece", .str "long", .str "cost"]) = true from by decide +kernel]
  conv => whnf
  refine ⟨rfl, ?_⟩
  conv => whnf
  have d1 : tame 1 (toString (p.l : Int)) = true := dig_tame (by have := hp.2.2.1.2; omega)
  have d2 : tame 1 (toString (p.c : Int)) = true := dig_tame (by have := hp.2.2.2; omega)
  refine ⟨rfl, rfl, rfl, toString (p.l : Int), 1, 6, rfl, by have := tame_len d1; omega, ?_⟩
  rw [dig_num (by have := hp.2.2.1.2; omega) 1 6 (by have := hp.2.2.1.1; omega) (by have := hp.2.2.1.2; omega)]
  conv => whnf
  refine ⟨rfl, rfl, toString (p.c : Int), 0, 9, rfl, by have := tame_len d2; omega, ?_⟩
  rw [dig_num (by have := hp.2.2.2; omega) 0 9 (by omega) (by have := hp.2.2.2; omega)]
  conv => whnf
  refine ⟨rfl, rfl, p.t, rfl, by have := tame_len (let_tame (n := 8) hp.1); omega, ?_⟩
  rw [hp.1]
  conv => whnf
  refine .inl ⟨_, rfl, rfl, txt_flat _, ?_⟩
  rw [txt_in (st_mem hp.2.1.1)]
  conv => whnf
  refine .inl ⟨_, rfl, rfl, txt_flat _, ?_⟩
  rw [txt_in (st_mem hp.2.1.2)]
  conv => whnf
  exact ⟨by show (5 : Nat) ≤ sizeLine; decide, hΦ⟩
set_option maxHeartbeats 8000000 in
theorem ok_corner_of (T : Tx K mg) : FnOk P w K mg base CX0 3 T.a_corner_of T.d_corner_of ["line", "states"] (spD K 0 2 S_corner_of) := by
  refine fnD T.F_corner_of sc_corner_of fun cdv A outer s H E hr => ⟨_, (psd_cons (psd_set (i := 2) sc_corner_of.nd (pd_split (pd_v 0) pd_str)) (psd_cons (psd_if (PDw.pt (pdw_or (pdt_ne hr (pd_len (pd_v 2) T.n_len) pd_int) (pdw_or1 (pdt_ne hr (pd_lst (pds_cons (pd_ix (pd_v 2) pd_int) (pds_cons (pd_ix (pd_v 2) pd_int) pds_nil))) (pd_lst (pds_cons pd_str (pds_cons pd_str pds_nil))))))) (psd_one (psd_ret pd_non)) psd_nil) (psd_cons (psd_asg (pd_sl (pd_v 2) (po_so pd_int) (po_so pd_int)) (pgd_lst rfl (pgds_cons (pgd_name (i := 3) sc_corner_of.nd) (pgds_cons (pgd_name (i := 4) sc_corner_of.nd) (pgds_cons (pgd_name (i := 5) sc_corner_of.nd) (pgds_cons (pgd_name (i := 6) sc_corner_of.nd) pgds_nil)))))) (psd_cons (psd_set (i := 7) sc_corner_of.nd (pd_callP (ok_number_of T) (hr.mono (by decide)) T.g_number_of T.F_number_of.kp T.b_number_of pass0 (pds_cons (pd_ix (pd_v 2) pd_int) (pds_cons pd_int (pds_cons (pd_gi T.c_MOST_COST) pds_nil))))) (psd_cons (psd_if (PDw.pt (pdw_or (pdt_not (pdt_val (pd_callP (ok_is_word T) (hr.mono (by decide)) T.g_is_word T.F_is_word.kp T.b_is_word pass0 (pds_cons (pd_v 3) pds_nil)))) (pdw_or (pdt_nin hr (pd_v 4) (pd_gtt T.c_TURNS)) (pdw_or (pdt_nin hr (pd_v 5) (pd_v 1)) (pdw_or (pdt_nin hr (pd_v 6) (pd_v 1)) (pdw_or1 (pdt_isn (pd_v 7) pd_non))))))) (psd_one (psd_ret pd_non)) psd_nil) (psd_one (psd_ret (pd_tup (pds_cons (pd_v 3) (pds_cons (pd_v 4) (pds_cons (pd_v 5) (pds_cons (pd_v 6) (pds_cons (pd_v 7) pds_nil))))))))))))), ?_⟩
  rintro c ds Φ hc - ⟨p, n, rfl, hn, hp, hΦ⟩
  cases c with
  | cons _ _ => cases hc
  | nil =>
  have tm := Joint.tames hp hn
  have hs := ws_split tm (by simp [Joint.ws])
  have hl := ws_len tm
  have hl : (Joint.row p).length ≤ 100 := Nat.le_trans hl (by simp [Joint.ws])
  conv => whnf
  refine ⟨_, rfl, ?_⟩
  conv => whnf
  refine ⟨rfl, short (by omega), ?_⟩
  rw [show Txt.split (Joint.row p) " " = p.ws from hs]
  conv => whnf
  refine ⟨short (by decide), ?_⟩
  conv => whnf
  refine ⟨short (by decide), ?_⟩
  conv => whnf
  refine ⟨_, _, rfl, rfl, by decide +kernel, by decide +kernel, ?_⟩
  rw [show PyData.eqv (.list [.str "corner", .str "cost"]) (.list [.str "corner", .str "cost"]) = true from by decide +kernel]
  conv => whnf
  refine ⟨rfl, ?_⟩
  conv => whnf
  have d2 : tame 1 (toString (p.c : Int)) = true := dig_tame (by have := hp.2.2; omega)
  refine ⟨rfl, rfl, rfl, toString (p.c : Int), 0, 9, rfl, by have := tame_len d2; omega, ?_⟩
  rw [dig_num (by have := hp.2.2; omega) 0 9 (by omega) (by have := hp.2.2; omega)]
  conv => whnf
  refine ⟨rfl, rfl, p.t, rfl, by have := tame_len (let_tame (n := 8) hp.1); omega, ?_⟩
  rw [hp.1]
  conv => whnf
  refine .inl ⟨_, rfl, rfl, txt_flat _, ?_⟩
  rw [txt_in (x := bendS p.o) (ys := ["out", "in"]) (by cases p.o <;> simp [bendS])]
  conv => whnf
  refine .inl ⟨_, rfl, rfl, txt_flat _, ?_⟩
  rw [txt_in (st_mem hp.2.1.1)]
  conv => whnf
  refine .inl ⟨_, rfl, rfl, txt_flat _, ?_⟩
  rw [txt_in (st_mem hp.2.1.2)]
  conv => whnf
  exact ⟨by show (5 : Nat) ≤ sizeLine; decide, hΦ⟩

end
end K17

namespace K17
open PySem PySem.Spec PyProof.Rows L2 Cw

def S_names_of : Pm := fun c ds Φ => ∃ rs : List (Str × List D), ds = [.tup (rs.map fun r => .tup (.str r.1 :: r.2))] ∧ rs.length < 64 ∧ ∀ zs : List Str, zs.Nodup → sortedS zs = true → (∀ x, x ∈ zs ↔ x ∈ rs.map (·.1)) → Φ (.tup (zs.map .str)) c
def S_pieces_fit : Pm := fun c ds Φ => ∃ (n : Nat) (ps : List Part), ds = [.tup (ps.map Part.d')] ∧ n ≤ 5 ∧ (∀ p ∈ ps, p.ok n) ∧ ps.length ≤ 8 ∧ (ps.map (·.t)).Nodup ∧ Φ (.bl true) c
def S_corners_fit : Pm := fun c ds Φ => ∃ (n : Nat) (js : List Joint) (pool : List Str), ds = [.tup (js.map Joint.d')] ∧ n ≤ 5 ∧ (∀ p ∈ js, p.ok n) ∧ js.length ≤ 12 ∧ (js.map Joint.k).Nodup ∧ pool.length ≤ 4 ∧ (∀ p ∈ js, p.t ∈ pool) ∧ Φ (.bl true) c
theorem at_zero {α : Type} (x : α) (l : List α) : L2.atI (x :: l) 0 = some x := by
  unfold L2.atI L2.ixN
  rw [if_pos (by decide), if_pos (by simp)]; rfl
theorem ok_parts (ps : List Part) : okDs 0 [.tup (ps.map Part.d')] = true := by
  show (okDs 0 (ps.map Part.d') && true) = true
  rw [okDs_map (fun _ => rfl)]; rfl
theorem ok_joints (ps : List Joint) : okDs 0 [.tup (ps.map Joint.d')] = true := by
  show (okDs 0 (ps.map Joint.d') && true) = true
  rw [okDs_map (fun _ => rfl)]; rfl
theorem d_part (p : Part) : D.py p.d' = some p.py := rfl
theorem d_joint (p : Joint) : D.py p.d' = some p.py := rfl
section
variable {P : Program} {w : World} {K : PySem.W.Frag} {mg : Str → Option Value} {base : Heap}
set_option maxHeartbeats 8000000 in
theorem ok_names_of (T : Tx K mg) : FnOk P w K mg base CX0 1 T.a_names_of T.d_names_of ["rows"] (spD K 0 1 S_names_of) := by
  refine fnD T.F_names_of sc_names_of fun cdv A outer s H E hr => ⟨_, (psd_one (psd_ret (pd_tuplec (pd_sortSet T.n_sorted rfl sc_names_of.nd (pid_tup (pd_v 0)) (by kernel_rfl) (fun _ _ _ _ _ => pg_name (i := 1) sc_names_of.nd rfl (Or.inl rfl)) (fun _ _ _ _ _ => (pd_ix (pd_v 1) pd_int))) T.n_tuple))), ?_⟩
  rintro c ds Φ hc - ⟨rs, rfl, few, hΦ⟩
  cases c with
  | cons _ _ => cases hc
  | nil =>
  conv => whnf
  refine ⟨rs.map (·.1), by rw [List.length_map, List.length_map], by rw [List.length_map]; exact few, ?_, fun zs nd so mem => ?_⟩
  · intro j d y hd hy Ψ h
    rw [List.getElem?_map] at hd hy
    cases e : rs[j]? with
    | none => rw [e] at hd; cases hd
    | some r =>
      rw [e] at hd hy
      cases hd; cases hy
      conv => whnf
      rw [at_zero]
      exact h
  · conv => whnf
    exact hΦ zs nd so mem
set_option maxHeartbeats 8000000 in
theorem ok_pieces_fit (T : Tx K mg) : FnOk P w K mg base CX0 2 T.a_pieces_fit T.d_pieces_fit ["pieces"] (spD K 0 1 S_pieces_fit) := by
  refine fnD T.F_pieces_fit sc_pieces_fit fun cdv A outer s H E hr => ⟨_, (psd_cons (psd_if (PDw.pt (pdw_or (pdt_gt (pd_len (pd_v 0) T.n_len) (pd_gi T.c_MOST_PIECES)) (pdw_or1 (pdt_in hr pd_non (pd_v 0))))) (psd_one (psd_ret pd_bl)) psd_nil) (psd_one (psd_ret (pd_eq hr (pd_len (pd_callP (ok_names_of T) (hr.mono (by decide)) T.g_names_of T.F_names_of.kp T.b_names_of pass0 (pds_cons (pd_v 0) pds_nil)) T.n_len) (pd_len (pd_v 0) T.n_len))))), ?_⟩
  rintro c ds Φ hc - ⟨n, ps, rfl, hn, hp, h8, nd, hΦ⟩
  cases c with
  | cons _ _ => cases hc
  | nil =>
  have tail : dRet (dBin (fEq false) (dCB (un1 fLen) (dCons (dCallP S_names_of 1 (dCons (dVar 0) dNil)) dNil)) (dCB (un1 fLen) (dCons (dVar 0) dNil))) ⟨fun x c' => retD 0 Φ .non c', retD 0 Φ, fun _ _ => False, fun _ _ => False⟩ (startD ["pieces"] [.tup (ps.map Part.d')]) [] := by
    conv => whnf
    refine ⟨rfl, ok_parts ps, ps.map fun p => (p.t, [.str (stS p.i p.d), .str (stS p.j p.e), .int p.l, .int p.c]), by rw [List.map_map]; rfl, by rw [List.length_map]; omega, fun zs nd2 so mem => ?_⟩
    conv => whnf
    have len : zs.length = ps.length := by
      have := same_len nd2 nd (fun x => by rw [mem x, List.map_map]; rfl)
      rw [List.length_map] at this; exact this
    rw [List.length_map, List.length_map, len]
    rw [show decide ((ps.length : Int) = ps.length) = true from decide_eq_true rfl]
    exact hΦ
  conv => whnf
  rw [show (fun i j => decide (j < i)) (((ps.map Part.d').length : Nat) : Int) 8 = false from decide_eq_false (by rw [List.length_map]; omega)]
  conv => whnf
  refine .inr ⟨.none, _, _, rfl, rfl, pys_of d_part ps, rfl, shaped_of (fun x hx => Part.lay (hp x hx) hn) (fun x _ => Nat.le_refl _), ?_⟩
  rw [any_none (fun _ => rfl)]
  exact tail
set_option maxHeartbeats 8000000 in
theorem ok_corners_fit (T : Tx K mg) : FnOk P w K mg base CX0 2 T.a_corners_fit T.d_corners_fit ["corners"] (spD K 0 1 S_corners_fit) := by
  refine fnD T.F_corners_fit sc_corners_fit fun cdv A outer s H E hr => ⟨_, (psd_cons (psd_if (PDw.pt (pdw_or (pdt_gt (pd_len (pd_v 0) T.n_len) (pd_gi T.c_MOST_CORNERS)) (pdw_or1 (pdt_in hr pd_non (pd_v 0))))) (psd_one (psd_ret pd_bl)) psd_nil) (psd_one (psd_ret (pd_and (pd_eq hr (pd_lenSet hr.units rfl (pd_v 0) T.n_len T.n_set) (pd_len (pd_v 0) T.n_len)) (pd_one (pd_le (pd_len (pd_callP (ok_names_of T) (hr.mono (by decide)) T.g_names_of T.F_names_of.kp T.b_names_of pass0 (pds_cons (pd_v 0) pds_nil)) T.n_len) (pd_gi T.c_MOST_NAMES))))))), ?_⟩
  rintro c ds Φ hc - ⟨n, js, pool, rfl, hn, hp, h12, nd, h4, hpool, hΦ⟩
  cases c with
  | cons _ _ => cases hc
  | nil =>
  have kk : js.map Joint.d' = (js.map Joint.k).map keyD := by rw [List.map_map]; rfl
  have tail : dRet (dAndV (dBin (fEq false) (dLenSet (dVar 0)) (dCB (un1 fLen) (dCons (dVar 0) dNil))) (dBin fLe (dCB (un1 fLen) (dCons (dCallP S_names_of 1 (dCons (dVar 0) dNil)) dNil)) (dC (.int 4)))) ⟨fun x c' => retD 0 Φ .non c', retD 0 Φ, fun _ _ => False, fun _ _ => False⟩ (startD ["corners"] [.tup (js.map Joint.d')]) [] := by
    conv => whnf
    refine ⟨js.map Joint.k, by rw [kk], nd, by rw [List.length_map]; omega, ?_⟩
    conv => whnf
    rw [List.length_map, List.length_map, show decide ((js.length : Int) = js.length) = true from decide_eq_true rfl]
    conv => whnf
    refine ⟨rfl, ok_joints js, js.map fun p => (p.t, [.str (bendS p.o), .str (stS p.i p.d), .str (stS p.j p.e), .int p.c]), by rw [List.map_map]; rfl, by rw [List.length_map]; omega, fun zs nd2 so mem => ?_⟩
    conv => whnf
    have len : zs.length ≤ 4 := Nat.le_trans (nodup_sub nd2 fun x hx => by
      obtain ⟨r, hr, e⟩ := List.mem_map.mp ((mem x).mp hx)
      obtain ⟨p, hpp, rfl⟩ := List.mem_map.mp hr
      subst e
      exact hpool p hpp) h4
    rw [List.length_map]
    rw [show (fun i j => decide (i ≤ j)) ((zs.length : Nat) : Int) 4 = true from decide_eq_true (by omega)]
    exact hΦ
  conv => whnf
  rw [show (fun i j => decide (j < i)) (((js.map Joint.d').length : Nat) : Int) 12 = false from decide_eq_false (by rw [List.length_map]; omega)]
  conv => whnf
  refine .inr ⟨.none, _, _, rfl, rfl, pys_of d_joint js, rfl, shaped_of (fun x hx => Joint.lay (hp x hx) hn) (fun x _ => Nat.le_refl _), ?_⟩
  rw [any_none (fun _ => rfl)]
  exact tail

end
end K17

namespace K17
open PySem PySem.Spec PyProof.Rows L2 Cw

structure Sp where
  m : Str
  ps : List Part
  js : List Joint
def Sp.lines (s : Sp) : List Str := signL s.m :: (s.ps.map Part.row ++ s.js.map Joint.row)
def Sp.text (s : Sp) : Str := Txt.join "\n" s.lines
structure Sp.ok (s : Sp) : Prop where
  m : isLet s.m 5 = true
  ps : ∀ p ∈ s.ps, p.ok s.m.length
  np : s.ps.length ≤ 8
  dp : (s.ps.map (·.t)).Nodup
  js : ∀ p ∈ s.js, p.ok s.m.length
  nj : s.js.length ≤ 12
  dj : (s.js.map Joint.k).Nodup
  pool : ∃ pool : List Str, pool.length ≤ 4 ∧ ∀ p ∈ s.js, p.t ∈ pool
def Sp.d (s : Sp) : D := .tup [.str s.m, .tup (s.ps.map Part.d'), .tup (s.js.map Joint.d')]
theorem starts_t {x y : Str} {r : List Nat} (h : TL.tl x = TL.tl y ++ r) : Txt.startswith x y = true := by
  have lx : x.length = (TL.tl x).length := Array.length_toList.symm
  have ly : y.length = (TL.tl y).length := Array.length_toList.symm
  show (decide (0 + y.length ≤ x.length) && Builtin.Str.subAt x y 0) = true
  rw [PySem.StrLaws.subAt_eq, decide_eq_true (by rw [lx, ly, h, List.length_append]; omega), show x.cps.toList = TL.tl y ++ r from h, ly, List.drop_zero, List.take_left]
  simp [TL.tl]
theorem starts_f {x y : Str} {a b : Nat} {r q : List Nat} (h : TL.tl x = a :: r) (h2 : TL.tl y = b :: q) (ne : a ≠ b) : Txt.startswith x y = false := by
  have ly : y.length = (TL.tl y).length := Array.length_toList.symm
  show (decide (0 + y.length ≤ x.length) && Builtin.Str.subAt x y 0) = false
  rw [PySem.StrLaws.subAt_eq, show x.cps.toList = a :: r from h, show y.cps.toList = b :: q from h2, ly, h2]
  simp [ne]
theorem part_starts (p : Part) : Txt.startswith p.row "piece " = true := by
  refine starts_t (r := TL.joinL (TL.tl " ") ([p.t, stS p.i p.d, stS p.j p.e, "long", toString (p.l : Int), "cost", toString (p.c : Int)].map TL.tl)) ?_
  unfold Part.row Part.ws
  rw [TL.join_eq, TL.tl_join, show TL.tl ("piece " : Str) = TL.tl ("piece" : Str) ++ TL.tl (" " : Str) by decide +kernel, List.append_assoc]
  rfl
theorem joint_starts (p : Joint) : Txt.startswith p.row "piece " = false := by
  refine starts_f (a := 99) (b := 112) (r := [111, 114, 110, 101, 114] ++ (TL.tl (" " : Str) ++ TL.joinL (TL.tl " ") ([p.t, bendS p.o, stS p.i p.d, stS p.j p.e, "cost", toString (p.c : Int)].map TL.tl))) (q := [105, 101, 99, 101, 32]) ?_ (by decide +kernel) (by decide)
  unfold Joint.row Joint.ws
  rw [TL.join_eq, TL.tl_join]
  show TL.tl ("corner" : Str) ++ (TL.tl (" " : Str) ++ _) = _
  rw [show TL.tl ("corner" : Str) = [99, 111, 114, 110, 101, 114] by decide +kernel]
  rfl
theorem cut_from {α : Type} (xs : List α) (k : Nat) : Cw.cutD xs (some (k : Int)) none = xs.drop k := by
  unfold Cw.cutD
  rw [HT.sIx_nat, HT.sIx_none]
  by_cases h : k ≤ xs.length
  · rw [Nat.min_eq_left h, List.take_of_length_le (by rw [List.length_drop]; omega)]
  · rw [Nat.min_eq_right (by omega), List.drop_length, List.drop_of_length_le (by omega)]; simp
theorem cut_both {α : Type} (xs : List α) (k n : Nat) : Cw.cutD xs (some (k : Int)) (some (n : Int)) = (xs.take n).drop k := by
  unfold Cw.cutD
  rw [HT.sIx_nat, HT.sIx_nat, List.drop_take]
  by_cases h : k ≤ xs.length
  · rw [Nat.min_eq_left h]
    by_cases h2 : n ≤ xs.length
    · rw [Nat.min_eq_left h2]
    · rw [Nat.min_eq_right (by omega), List.take_of_length_le (by rw [List.length_drop]; omega), List.take_of_length_le (by rw [List.length_drop]; omega)]
  · rw [Nat.min_eq_right (show xs.length ≤ k by omega), List.drop_length, List.drop_of_length_le (show xs.length ≤ k by omega)]; simp
theorem Sp.split {s : Sp} (h : s.ok) : Txt.split s.text "
" = s.lines := by
  have hn : s.m.length ≤ 5 := tame_len (let_tame (n := 5) h.m)
  refine TL.split_join (s := 10) (S := []) (by decide +kernel) (by decide +kernel) (by simp [Sp.lines]) fun p hp => ?_
  rcases List.mem_cons.mp hp with rfl | hp
  · refine ws_line (ws := ["signs", s.m]) fun w hw => ?_
    rcases List.mem_cons.mp hw with rfl | hw
    · decide +kernel
    · rw [List.mem_singleton.mp hw]
      obtain ⟨h1, h2⟩ := Bool.and_eq_true_iff.mp (let_tame (n := 5) h.m)
      exact Bool.and_eq_true_iff.mpr ⟨h1, decide_eq_true (by omega)⟩
  · rcases List.mem_append.mp hp with hp | hp
    · obtain ⟨q, hq, rfl⟩ := List.mem_map.mp hp
      exact ws_line (Part.tames (h.ps q hq) hn)
    · obtain ⟨q, hq, rfl⟩ := List.mem_map.mp hp
      exact ws_line (Joint.tames (h.js q hq) hn)
theorem sum_le {xs : List Str} {k : Nat} (h : ∀ x ∈ xs, x.length ≤ k) : (xs.map (·.length)).sum ≤ k * xs.length := by
  induction xs with
  | nil => exact Nat.zero_le _
  | cons x xs ih =>
    have h1 := h x List.mem_cons_self
    have h2 := ih fun y hy => h y (List.mem_cons_of_mem _ hy)
    rw [List.map_cons, List.sum_cons, List.length_cons, Nat.mul_add]
    omega
theorem Sp.sums {s : Sp} (h : s.ok) : (s.lines.map (·.length)).sum ≤ 2100 ∧ s.lines.length ≤ 21 := by
  have hn : s.m.length ≤ 5 := tame_len (let_tame (n := 5) h.m)
  have h2 : (s.lines.map (·.length)).sum ≤ 100 * s.lines.length := sum_le fun x hx => by
    rcases List.mem_cons.mp hx with rfl | hx
    · have h1 := join_len (" " : Str) [("signs" : Str), s.m]
      have h3 : (" " : Str).length = 1 := by decide
      have h4 : ("signs" : Str).length = 5 := by decide
      rw [h3] at h1
      simp only [List.map_cons, List.map_nil, List.sum_cons, List.sum_nil, List.length_cons, List.length_nil, h4] at h1
      exact Nat.le_trans h1 (by omega)
    · rcases List.mem_append.mp hx with hx | hx
      · obtain ⟨q, hq, rfl⟩ := List.mem_map.mp hx
        exact Nat.le_trans (ws_len (Part.tames (h.ps q hq) hn)) (by simp [Part.ws])
      · obtain ⟨q, hq, rfl⟩ := List.mem_map.mp hx
        exact Nat.le_trans (ws_len (Joint.tames (h.js q hq) hn)) (by simp [Joint.ws])
  have h3 : s.lines.length ≤ 21 := by
    have a := h.np
    have b := h.nj
    simp [Sp.lines]; omega
  exact ⟨by omega, h3⟩
theorem Sp.len {s : Sp} (h : s.ok) : s.text.length ≤ 2200 := by
  have h1 := join_len ("
" : Str) s.lines
  obtain ⟨h2, h3⟩ := Sp.sums h
  have h4 : ("
" : Str).length = 1 := by decide
  rw [h4] at h1
  show (Txt.join "
" s.lines).length ≤ 2200
  omega
theorem lc_pair {α : Type} {i : Nat} {te : TD} {ρ : Cw.Env} {c : List Cell} {Φ : List D → List Cell → Prop} (d r : α → D) (hc : okCs c.length c = true) : ∀ (xs : List α) (acc : List D),
    (∀ x ∈ xs, okD c.length (r x) = true ∧ ∀ acc (Ψ : D → List Cell → Prop), okDs c.length acc = true → Ψ (r x) (c ++ [.lst acc]) → te (ρ.set i (some (d x))) (c ++ [.lst acc]) Ψ) →
    okDs c.length acc = true → acc.length + xs.length ≤ sizeLine → Φ (acc ++ xs.map r) c → lcD i dYes te (xs.map d) acc ρ c Φ
  | [], acc, _, h, _, q => ⟨hc, h, by simpa using q⟩
  | x :: xs, acc, he, h, hl, q => by
    have hl' : acc.length + (xs.length + 1) ≤ sizeLine := hl
    obtain ⟨hk, ht⟩ := he x List.mem_cons_self
    show te _ _ _
    refine ht acc _ h ⟨by omega, inner_same ?_⟩
    refine lc_pair d r hc xs _ (fun y hy => he y (List.mem_cons_of_mem _ hy)) (okDs_app h (okDs_one hk)) (by rw [List.length_append]; show acc.length + 1 + xs.length ≤ _; omega) ?_
    simpa using q
theorem counted (ps : List Part) (js : List Joint) : (((ps.map Part.row ++ js.map Joint.row).map D.str).filter fun d => match d with | .str x => Txt.startswith x "piece " | _ => false).length = ps.length := by
  rw [List.map_append, List.filter_append, List.map_map, List.map_map, List.filter_eq_self.mpr, List.filter_eq_nil_iff.mpr]
  · simp
  · intro d hd
    obtain ⟨p, _, rfl⟩ := List.mem_map.mp hd
    show ¬ Txt.startswith p.row "piece " = true
    rw [joint_starts]; decide
  · intro d hd
    obtain ⟨p, _, rfl⟩ := List.mem_map.mp hd
    exact part_starts p
def S_parts_of : Pm := fun c ds Φ => ∃ s : Sp, ds = [.str s.text] ∧ s.ok ∧ Φ s.d c
section
variable {P : Program} {w : World} {K : PySem.W.Frag} {mg : Str → Option Value} {base : Heap}
set_option maxHeartbeats 8000000 in
theorem ok_parts_of (T : Tx K mg) : FnOk P w K mg base CX0 4 T.a_parts_of T.d_parts_of ["text"] (spD K 0 1 S_parts_of) := by
  refine fnD T.F_parts_of sc_parts_of fun cdv A outer s H E hr => ⟨_, (psd_cons (psd_if (pdt_not (pdt_val (pd_isi isi_str (.ty "str") (pd_v 0) (pe_bltn rfl T.n_str (by decide +kernel) rfl) T.n_isinstance))) (psd_one (psd_ret pd_non)) psd_nil) (psd_cons (psd_set (i := 1) sc_parts_of.nd (pd_split (pd_v 0) pd_str)) (psd_cons (psd_set (i := 2) sc_parts_of.nd (pd_callP (ok_signs_of T) (hr.mono (by decide)) T.g_signs_of T.F_signs_of.kp T.b_signs_of pass0 (pds_cons (pd_ix (pd_v 1) pd_int) pds_nil))) (psd_cons (psd_if (pdt_isn (pd_v 2) pd_non) (psd_one (psd_ret pd_non)) psd_nil) (psd_cons (psd_set (i := 3) sc_parts_of.nd (pd_callP (ok_states_of T) (hr.mono (by decide)) T.g_states_of T.F_states_of.kp T.b_states_of pass0 (pds_cons (pd_v 2) pds_nil))) (psd_cons (psd_set (i := 4) sc_parts_of.nd (pd_add pd_int (pd_len (pd_lc (i := 7) rfl sc_parts_of.nd (pid_list (pd_sl (pd_v 1) (po_so pd_int) po_no)) (by kernel_rfl) (fun _ _ _ _ _ => pg_name (i := 7) sc_parts_of.nd rfl (Or.inl rfl)) (fun _ _ _ _ _ => (ptd_one (pdt_val (pd_starts (pd_v 7) pd_str)))) (fun _ _ _ _ _ => (pd_v 7))) T.n_len))) (psd_cons (psd_set (i := 5) sc_parts_of.nd (pd_tuplec (pd_lc (i := 7) rfl sc_parts_of.nd (pid_list (pd_sl (pd_v 1) (po_so pd_int) (po_so (pd_v 4)))) (by kernel_rfl) (fun _ _ _ _ _ => pg_name (i := 7) sc_parts_of.nd rfl (Or.inl rfl)) (fun _ _ _ _ _ => ptd_nil) (fun _ _ _ _ _ => (pd_callP (ok_piece_of T) (hr.mono (by decide)) T.g_piece_of T.F_piece_of.kp T.b_piece_of pass0 (pds_cons (pd_v 7) (pds_cons (pd_v 3) pds_nil))))) T.n_tuple)) (psd_cons (psd_set (i := 6) sc_parts_of.nd (pd_tuplec (pd_lc (i := 7) rfl sc_parts_of.nd (pid_list (pd_sl (pd_v 1) (po_so (pd_v 4)) po_no)) (by kernel_rfl) (fun _ _ _ _ _ => pg_name (i := 7) sc_parts_of.nd rfl (Or.inl rfl)) (fun _ _ _ _ _ => ptd_nil) (fun _ _ _ _ _ => (pd_callP (ok_corner_of T) (hr.mono (by decide)) T.g_corner_of T.F_corner_of.kp T.b_corner_of pass0 (pds_cons (pd_v 7) (pds_cons (pd_v 3) pds_nil))))) T.n_tuple)) (psd_cons (psd_if (PDw.pt (pdw_or (pdt_not (pdt_val (pd_callP (ok_pieces_fit T) (hr.mono (by decide)) T.g_pieces_fit T.F_pieces_fit.kp T.b_pieces_fit pass0 (pds_cons (pd_v 5) pds_nil)))) (pdw_or1 (pdt_not (pdt_val (pd_callP (ok_corners_fit T) (hr.mono (by decide)) T.g_corners_fit T.F_corners_fit.kp T.b_corners_fit pass0 (pds_cons (pd_v 6) pds_nil))))))) (psd_one (psd_ret pd_non)) psd_nil) (psd_one (psd_ret (pd_tup (pds_cons (pd_v 2) (pds_cons (pd_v 5) (pds_cons (pd_v 6) pds_nil))))))))))))))), ?_⟩
  rintro c ds Φ hc - ⟨s, rfl, hs, hΦ⟩
  cases c with
  | cons _ _ => cases hc
  | nil =>
  have hn : s.m.length ≤ 5 := tame_len (let_tame (n := 5) hs.m)
  conv => whnf
  refine ⟨_, true, rfl, rfl, ?_⟩
  conv => whnf
  refine ⟨_, rfl, ?_⟩
  conv => whnf
  refine ⟨rfl, short (by have := Sp.len hs; omega), ?_⟩
  rw [Sp.split hs]
  conv => whnf
  rw [show L2.atI (s.lines.map D.str) 0 = some (.str (signL s.m)) from at_zero _ _]
  conv => whnf
  refine ⟨rfl, rfl, s.m, rfl, hs.m, ?_⟩
  conv => whnf
  refine ⟨rfl, rfl, s.m, rfl, hn, ?_⟩
  have R1 : Cw.cutD (s.lines.map D.str) (some 1) none = (s.ps.map Part.row ++ s.js.map Joint.row).map D.str := by
    have e := cut_from (s.lines.map D.str) 1
    exact e
  have R2 : Cw.cutD (s.lines.map D.str) (some 1) (some (1 + (s.ps.length : Int))) = (s.ps.map Part.row).map D.str := by
    have e := cut_both (s.lines.map D.str) 1 (1 + s.ps.length)
    rw [show ((1 + s.ps.length : Nat) : Int) = 1 + (s.ps.length : Int) by omega] at e
    refine Eq.trans e ?_
    rw [← List.map_take, ← List.map_drop]
    congr 1
    show ((signL s.m :: (s.ps.map Part.row ++ s.js.map Joint.row)).take (1 + s.ps.length)).drop 1 = _
    rw [Nat.add_comm, List.take_succ_cons, List.drop_succ_cons, List.drop_zero, List.take_append_of_le_length (by simp), List.take_of_length_le (by simp)]
  have R3 : Cw.cutD (s.lines.map D.str) (some (1 + (s.ps.length : Int))) none = (s.js.map Joint.row).map D.str := by
    have e := cut_from (s.lines.map D.str) (1 + s.ps.length)
    rw [show ((1 + s.ps.length : Nat) : Int) = 1 + (s.ps.length : Int) by omega] at e
    refine Eq.trans e ?_
    rw [← List.map_drop]
    congr 1
    show (signL s.m :: (s.ps.map Part.row ++ s.js.map Joint.row)).drop (1 + s.ps.length) = _
    rw [Nat.add_comm, List.drop_succ_cons, List.drop_append_of_le_length (by simp), List.drop_of_length_le (by simp), List.nil_append]
  have lp := hs.np
  have lj := hs.nj
  conv => whnf
  rw [R1]
  refine lc_filter (c := []) (fun d => match d with | .str x => Txt.startswith x "piece " | _ => false) (fun d => d) rfl _ [] (fun d hd acc Ψ _ h => ?_) (fun d hd _ => ?_) rfl (by simp; exact short (by omega)) ?_
  · obtain ⟨x, _, rfl⟩ := List.mem_map.mp hd
    conv => whnf
    exact ⟨_, rfl, h⟩
  · obtain ⟨x, _, rfl⟩ := List.mem_map.mp hd
    exact ⟨rfl, fun acc Ψ _ h => h⟩
  · conv => whnf
    rw [List.map_id', List.nil_append, counted]
    conv => whnf
    have okst : ∀ x : Str, okDs 0 [.str x, stD s.m.length] = true := fun x => by
      show (true && (okDs 0 ((stL s.m.length).map D.str) && true)) = true
      rw [okDs_map (fun _ => rfl)]; rfl
    rw [R2, List.map_map]
    refine lc_pair (c := []) (fun p : Part => .str p.row) Part.d' rfl s.ps [] (fun p hp => ⟨by show okDs 0 _ = true; rfl, fun acc Ψ _ h => ?_⟩) rfl (by show 0 + s.ps.length ≤ _; exact short (by omega)) ?_
    · conv => whnf
      exact ⟨rfl, okst _, p, s.m.length, rfl, hn, hs.ps p hp, h⟩
    · conv => whnf
      rw [R3, List.map_map]
      refine lc_pair (c := []) (fun p : Joint => .str p.row) Joint.d' rfl s.js [] (fun p hp => ⟨by show okDs 0 _ = true; rfl, fun acc Ψ _ h => ?_⟩) rfl (by show 0 + s.js.length ≤ _; exact short (by omega)) ?_
      · conv => whnf
        exact ⟨rfl, okst _, p, s.m.length, rfl, hn, hs.js p hp, h⟩
      · conv => whnf
        obtain ⟨pool, h4, hpool⟩ := hs.pool
        refine ⟨rfl, ok_parts s.ps, s.m.length, s.ps, rfl, hn, hs.ps, hs.np, hs.dp, ?_⟩
        conv => whnf
        refine ⟨rfl, ok_joints s.js, s.m.length, s.js, pool, rfl, hn, hs.js, hs.nj, hs.dj, h4, hpool, ?_⟩
        conv => whnf
        exact ⟨short (by show (3 : Nat) ≤ _; decide), hΦ⟩

end
end K17

namespace K17
open PySem PySem.Spec PyProof.Rows L2 Cw

def fldB : List Str := ["whole", "motif", "piece_rows", "corner_rows", "all_states", "corner_names"]
def bordD (C : Addr) (t m ps js st nm : D) : D := .ins C fldB [t, m, ps, js, st, nm]
def S_Borders___init__ (C : Addr) : Pm := fun c ds Φ => ∃ s : Sp, c = [.obj C [] []] ∧ ds = [.cell 0, .str s.text] ∧ s.ok ∧ ∀ zs : List Str, zs.Nodup → sortedS zs = true → (∀ x, x ∈ zs ↔ x ∈ s.js.map (·.t)) →
  Φ .non [.obj C fldB [.str s.text, .str s.m, .tup (s.ps.map Part.d'), .tup (s.js.map Joint.d'), stD s.m.length, .tup (zs.map .str)]]
section
variable {P : Program} {w : World} {K : PySem.W.Frag} {mg : Str → Option Value} {base : Heap}
set_option maxHeartbeats 8000000 in
theorem ok_Borders___init__ (T : Tx K mg) : FnOk P w K mg base CX0 6 T.a_Borders___init__ T.d_Borders___init__ ["self", "text"] (spD K 1 2 (S_Borders___init__ T.C_Borders)) := by
  refine fnD T.F_Borders___init__ sc_Borders___init__ fun cdv A outer s H E hr => ⟨_, (psd_cons (psd_set (i := 2) sc_Borders___init__.nd (pd_callP (ok_parts_of T) (hr.mono (by decide)) T.g_parts_of T.F_parts_of.kp T.b_parts_of pass0 (pds_cons (pd_v 1) pds_nil))) (psd_cons (psd_if (pdt_isn (pd_v 2) pd_non) (psd_one psd_never) psd_nil) (psd_cons (psd_stf T.cl_Borders T.na_whole (pd_v 0) (pd_v 1)) (psd_cons (psd_asg (pd_v 2) (pgd_tup rfl (pgds_cons (pgd_fld T.cl_Borders T.na_motif (pd_v 0)) (pgds_cons (pgd_fld T.cl_Borders T.na_piece_rows (pd_v 0)) (pgds_cons (pgd_fld T.cl_Borders T.na_corner_rows (pd_v 0)) pgds_nil))))) (psd_cons (psd_stf T.cl_Borders T.na_all_states (pd_v 0) (pd_callP (ok_states_of T) (hr.mono (by decide)) T.g_states_of T.F_states_of.kp T.b_states_of pass0 (pds_cons (pd_fld T.cl_Borders T.na_motif (pd_v 0)) pds_nil))) (psd_one (psd_stf T.cl_Borders T.na_corner_names (pd_v 0) (pd_callP (ok_names_of T) (hr.mono (by decide)) T.g_names_of T.F_names_of.kp T.b_names_of pass0 (pds_cons (pd_fld T.cl_Borders T.na_corner_rows (pd_v 0)) pds_nil))))))))), ?_⟩
  rintro c ds Φ hc - ⟨s, rfl, rfl, hs, hΦ⟩
  conv => whnf
  refine ⟨rfl, rfl, s, rfl, hs, ?_⟩
  conv => whnf
  refine ⟨0, [], [], rfl, rfl, by decide, ?_⟩
  have hn : s.m.length ≤ 5 := tame_len (let_tame (n := 5) hs.m)
  conv => whnf
  refine ⟨rfl, ?_⟩
  conv => whnf
  refine ⟨0, _, _, rfl, rfl, by show (1 : Nat) < 1000; decide, ?_⟩
  conv => whnf
  refine ⟨0, _, _, rfl, rfl, by show (2 : Nat) < 1000; decide, ?_⟩
  conv => whnf
  refine ⟨0, _, _, rfl, rfl, by show (3 : Nat) < 1000; decide, ?_⟩
  conv => whnf
  refine ⟨rfl, rfl, _, rfl, ?_⟩
  conv => whnf
  refine ⟨rfl, rfl, s.m, rfl, hn, ?_⟩
  conv => whnf
  refine ⟨0, _, _, rfl, rfl, by show (4 : Nat) < 1000; decide, ?_⟩
  conv => whnf
  refine ⟨rfl, _, rfl, ?_⟩
  conv => whnf
  refine ⟨rfl, ok_joints s.js, s.js.map fun p => (p.t, [.str (bendS p.o), .str (stS p.i p.d), .str (stS p.j p.e), .int p.c]), by rw [List.map_map]; rfl, by have := hs.nj; rw [List.length_map]; omega, fun zs nd so mem => ?_⟩
  conv => whnf
  refine ⟨0, _, _, rfl, rfl, by show (5 : Nat) < 1000; decide, ?_⟩
  conv => whnf
  exact hΦ zs nd so fun x => by rw [mem x, List.map_map]; rfl

end
end K17

namespace K17
open PySem PySem.Spec PyProof.Rows L2 Cw
def spr (a b k : Int) : Cell := .lst [.int a, .int b, .int k]
def S__law_take : Pm := fun c ds Φ => ∃ a b k m, c = [spr a b k] ∧ ds = [.cell 0, .int m] ∧ (0 ≤ a ∧ a < 2147483587) ∧ 0 ≤ b ∧ (0 ≤ k ∧ k < 100000) ∧ (0 < m ∧ m < 1073741824) ∧ ∀ v a' b', 0 ≤ v → v < m → 0 ≤ a' → a' < 2147483587 → 0 ≤ b' → Φ (.int v) [spr a' b' (k + 1)]
def intsD (ns : List Int) : D := .fl (ns.map .int)
def S__law_spring : Pn := fun ds Φ => ∃ ns at_, ds = [intsD ns, .int at_] ∧ (0 ≤ at_ ∧ at_ ≤ 100) ∧ ns.length ≤ 63 ∧ ∀ a b : Int, (0 ≤ a ∧ a < 2147483587) → 0 ≤ b → Φ [.int a, .int b, .int 0]
theorem spring_tail {Φ : List D → Prop} {ns : List Int} {at_ own mix : Int} {x4 : Option D} (ha : 0 ≤ at_ ∧ at_ ≤ 100) (hm : 0 ≤ mix ∧ mix < 2147483587) (hΦ : ∀ (a b : Int), 0 ≤ a ∧ a < 2147483587 → 0 ≤ b → Φ [D.int a, D.int b, D.int 0]) :
    dRet (dLstM (dCons (dBin fMod (dCB (un1 fInt) (dCons (dBin fAdd (dBin fAdd (dBin fMul (dVar 3) (dC (.int 48271))) (dBin fMul (dC (.int 977)) (dVar 1))) (dC (.int 13))) dNil)) (dC (.int 2147483587)))
      (dCons (dIf (dOr (dT (dBin fLt (dVar 2) (dC (.int 0)))) (dT (dBin fGe (dVar 2) (dBin fPow (dC (.int 10)) (dC (.int 18)))))) (dCB (un1 fAbs) (dCons (dVar 2) dNil)) (dC (.int 0))) (dCons (dC (.int 0)) dNil))))
      ⟨fun _ _ => False, retN Φ, fun _ _ => False, fun _ _ => False⟩ [some (intsD ns), some (.int at_), some (.int own), some (.int mix), x4] [] := by
  conv => whnf
  ((refine ⟨?num, ?_⟩); (case num => first | omega | (left; omega) | (right; omega)); (conv => whnf))
  ((refine ⟨?num, ?_⟩); (case num => first | omega | (left; omega) | (right; omega)); (conv => whnf))
  ((refine ⟨?num, ?_⟩); (case num => first | omega | (left; omega) | (right; omega)); (conv => whnf))
  have fin : ∀ b : Int, 0 ≤ b → [D.int ((mix * 48271 + 977 * at_ + 13) % 2147483587), D.int b, D.int 0].length ≤ sizeLine ∧ retN Φ (.cell 0) [.lst [D.int ((mix * 48271 + 977 * at_ + 13) % 2147483587), D.int b, D.int 0]] := fun b hb =>
    ⟨by show 3 ≤ sizeLine; decide, _, rfl, rfl, hΦ _ b ⟨Int.emod_nonneg _ (by decide), Int.emod_lt_of_pos _ (by decide)⟩ hb⟩
  split
  · conv => whnf
    refine fin _ ?_
    split <;> omega
  · rename_i he
    have he : ¬ own < 0 := of_decide_eq_false he
    conv => whnf
    refine ⟨by decide, ?_⟩
    conv => whnf
    split
    · conv => whnf
      refine fin _ ?_
      split <;> omega
    · conv => whnf
      exact fin 0 (by decide)
def B3 (a b k : Int) (lim : Int) : Prop := (0 ≤ a ∧ a < 2147483587) ∧ 0 ≤ b ∧ (0 ≤ k ∧ k ≤ lim)
theorem B3.up {a b k l l' : Int} (h : B3 a b k l) (hl : l ≤ l') : B3 a b k l' := ⟨h.1, h.2.1, h.2.2.1, Int.le_trans h.2.2.2 hl⟩
theorem take_call {a b k m lim : Int} {rest : List Cell} {Φ : D → List Cell → Prop} (hB : B3 a b k lim) (hl : lim < 99999) (hm : 0 < m ∧ m < 1073741824)
    (h : ∀ v a' b' k', 0 ≤ v → v < m → B3 a' b' k' (lim + 1) → Φ (.int v) (spr a' b' k' :: rest)) : callM S__law_take [.cell 0, .int m] (spr a b k :: rest) Φ :=
  ⟨spr a b k, rfl, rfl, rfl, a, b, k, m, rfl, rfl, hB.1, hB.2.1, ⟨hB.2.2.1, by have := hB.2.2.2; omega⟩, hm, fun v a' b' h1 h2 h3 h4 h5 => ⟨rfl, rfl, h v a' b' _ h1 h2 ⟨⟨h3, h4⟩, h5, by have := hB.2.2.1; omega, by have := hB.2.2.2; omega⟩⟩⟩
theorem lc_inv {i : Nat} {te : TD} {ρ : Cw.Env} {Φ : List D → List Cell → Prop} (I : List D → List D → List Cell → Prop) (fin : ∀ acc c, I [] acc c → okCs c.length c = true ∧ okDs c.length acc = true ∧ Φ acc c)
    (step : ∀ d ds acc c (F : List D → List Cell → Prop), (∀ acc c, I ds acc c → F acc c) → I (d :: ds) acc c → te (ρ.set i (some d)) (c ++ [.lst acc]) fun y c3 => acc.length < sizeLine ∧ inner c.length acc y c3 fun c4 => F (acc ++ [y]) c4) : ∀ ds acc c, I ds acc c → lcD i dYes te ds acc ρ c Φ
  | [], acc, c, h => fin acc c h
  | d :: ds, acc, c, h => step d ds acc c _ (fun acc c h => lc_inv I fin step ds acc c h) h
section
variable {P : Program} {w : World} {K : PySem.W.Frag} {mg : Str → Option Value} {base : Heap}
set_option maxHeartbeats 8000000 in
theorem ok__law_take (T : Tx K mg) : FnOk P w K mg base CX0 1 T.a__law_take T.d__law_take ["_law_spring_here", "_law_much"] (spD K 1 2 S__law_take) := by
  refine fnD T.F__law_take sc__law_take fun cdv A outer s H E hr => ⟨_, (psd_cons (psd_asg (pd_add (pd_ix (pd_v 0) pd_int) pd_int) (pgd_sub (pd_v 0) pd_int)) (psd_cons (psd_set (i := 2) sc__law_take.nd (pd_intc (pd_ix (pd_v 0) pd_int) T.n_int)) (psd_cons (psd_set (i := 3) sc__law_take.nd (pd_add (pd_mod (pd_intc (pd_div (pd_v 2) pd_int) T.n_int) pd_int) pd_int)) (psd_cons (psd_asg (pd_mod (pd_intc (pd_add (pd_add (pd_mul (pd_v 2) (pd_v 3)) (pd_mul pd_int (pd_ix (pd_v 0) pd_int))) pd_int) T.n_int) pd_int) (pgd_sub (pd_v 0) pd_int)) (psd_cons (psd_if (pdt_gt (pd_ix (pd_v 0) pd_int) pd_int) (psd_cons (psd_asg (pd_divmod (pd_ix (pd_v 0) pd_int) (pd_v 1) T.n_divmod) (pgd_tup rfl (pgds_cons (pgd_sub (pd_v 0) pd_int) (pgds_cons (pgd_name (i := 4) sc__law_take.nd) pgds_nil)))) (psd_one (psd_ret (pd_v 4)))) psd_nil) (psd_one (psd_ret (pd_mod (pd_intc (pd_div (pd_ix (pd_v 0) pd_int) pd_int) T.n_int) (pd_v 1))))))))), ?_⟩
  rintro c ds Φ hc - ⟨a, b, k, m, rfl, rfl, ha, hb, hk, hm, hΦ⟩
  conv => whnf
  refine ⟨0, rfl, ?_⟩
  conv => whnf
  refine ⟨2, _, 2, rfl, rfl, rfl, ?_⟩
  conv => whnf
  ((refine ⟨?num, ?_⟩); (case num => first | omega | (left; omega) | (right; omega)); (conv => whnf))
  ((refine ⟨?num, ?_⟩); (case num => first | omega | (left; omega) | (right; omega)); (conv => whnf))
  ((refine ⟨?num, ?_⟩); (case num => first | omega | (left; omega) | (right; omega)); (conv => whnf))
  ((refine ⟨?num, ?_⟩); (case num => first | omega | (left; omega) | (right; omega)); (conv => whnf))
  ((refine ⟨?num, ?_⟩); (case num => first | omega | (left; omega) | (right; omega)); (conv => whnf))
  refine ⟨0, rfl, ?_⟩
  conv => whnf
  refine ⟨0, _, 0, rfl, rfl, rfl, ?_⟩
  conv => whnf
  have ha' := Int.emod_nonneg (a * (a / 8 % 40009 + 30011) + 8009 * (k + 1) + 29) (show (2147483587 : Int) ≠ 0 by decide)
  have ha'' := Int.emod_lt_of_pos (a * (a / 8 % 40009 + 30011) + 8009 * (k + 1) + 29) (show (0 : Int) < 2147483587 by decide)
  generalize (a * (a / 8 % 40009 + 30011) + 8009 * (k + 1) + 29) % 2147483587 = a1 at *
  split
  · rename_i he
    have hbp : 0 < b := of_decide_eq_true he
    conv => whnf
    refine ⟨hm, ?_⟩
    conv => whnf
    refine ⟨rfl, ?_⟩
    conv => whnf
    refine ⟨0, rfl, ?_⟩
    conv => whnf
    refine ⟨1, _, 1, rfl, rfl, rfl, ?_⟩
    conv => whnf
    refine ⟨rfl, ?_⟩
    conv => whnf
    exact hΦ (b % m) a1 (b / m) (Int.emod_nonneg _ (by omega)) (Int.emod_lt_of_pos _ hm.1) ha' ha'' (Int.ediv_nonneg hb (by omega))
  · conv => whnf
    refine ⟨by decide, ?_⟩
    conv => whnf
    refine ⟨hm.1, ?_⟩
    conv => whnf
    exact hΦ _ a1 b (Int.emod_nonneg _ (by omega)) (Int.emod_lt_of_pos _ hm.1) ha' ha'' hb
set_option maxHeartbeats 8000000 in
theorem ok__law_spring (T : Tx K mg) : FnOk P w K mg base CX0 1 T.a__law_spring T.d__law_spring ["_law_cells", "_law_at"] (spN K 2 S__law_spring) := by
  refine fnN T.F__law_spring sc__law_spring fun cdv A outer s H E hr => ⟨_, (psd_cons (psd_set (i := 2) sc__law_spring.nd (pd_if (pdt_lt (pd_v 1) (pd_len (pd_v 0) T.n_len)) (pd_ix (pd_v 0) (pd_v 1)) (pd_add (pd_mul pd_int (pd_v 1)) pd_int))) (psd_cons (psd_set (i := 3) sc__law_spring.nd (pd_mod (pd_intc (pd_v 2) T.n_int) pd_int)) (psd_cons (psd_if (pdt_ge (pd_v 1) (pd_len (pd_v 0) T.n_len)) (psd_one (psd_for PassesOwn.never rfl (pid_list (pd_sl (pd_v 0) po_no (po_so pd_int))) (pgd_name (i := 4) sc__law_spring.nd) (psd_one (psd_set (i := 3) sc__law_spring.nd (pd_mod (pd_intc (pd_add (pd_mul (pd_v 3) pd_int) (pd_v 4)) T.n_int) pd_int))))) psd_nil) (psd_one (psd_ret (pd_lstM (pds_cons (pd_mod (pd_intc (pd_add (pd_add (pd_mul (pd_v 3) pd_int) (pd_mul pd_int (pd_v 1))) pd_int) T.n_int) pd_int) (pds_cons (pd_if (PDw.pt (pdw_or (pdt_lt (pd_v 2) pd_int) (pdw_or1 (pdt_ge (pd_v 2) (pd_pow pd_int pd_int))))) (pd_abs (pd_v 2) T.n_abs) pd_int) (pds_cons pd_int pds_nil))))))))), ?_⟩
  rintro ds Φ - ⟨ns, at_, rfl, ha, hl, hΦ⟩
  conv => whnf
  split
  · rename_i he
    have hlt : at_ < ns.length := by have := of_decide_eq_true he; simpa using this
    have hj : ∃ j, at_ = (j : Nat) := ⟨at_.toNat, by omega⟩
    obtain ⟨j, rfl⟩ := hj
    have hj : j < ns.length := by omega
    have e1 : ixN (ns.map D.int).length (j : Int) = some j := by
      unfold ixN
      rw [List.length_map, if_pos (by omega), if_pos (by omega)]
      rfl
    have e2 : atI (ns.map D.int) (j : Int) = some (.int ns[j]) := by
      unfold atI
      rw [e1]
      show (ns.map D.int)[j]? = _
      rw [List.getElem?_map, List.getElem?_eq_getElem hj]
      rfl
    conv => whnf
    rw [e2]
    generalize ns[j] = own
    conv => whnf
    refine ⟨by decide, ?_⟩
    conv => whnf
    have hm := Int.emod_nonneg own (show (2147483587 : Int) ≠ 0 by decide)
    have hm' := Int.emod_lt_of_pos own (show (0 : Int) < 2147483587 by decide)
    generalize own % 2147483587 = mix0 at *
    have e3 : decide ((((ns.map D.int).length : Nat) : Int) ≤ (j : Int)) = false := decide_eq_false (by rw [List.length_map]; omega)
    split
    · rename_i h3
      exact absurd (e3.symm.trans h3) (by decide)
    · exact spring_tail ha ⟨hm, hm'⟩ hΦ
  · rename_i he
    have hge : ns.length ≤ at_ := by have := of_decide_eq_false he; simpa using this
    conv => whnf
    refine ⟨.inl (by decide), ?_⟩
    conv => whnf
    refine ⟨by decide, ?_⟩
    conv => whnf
    have hm := Int.emod_nonneg (11 * at_ + 5) (show (2147483587 : Int) ≠ 0 by decide)
    have hm' := Int.emod_lt_of_pos (11 * at_ + 5) (show (0 : Int) < 2147483587 by decide)
    have e2 : decide ((((ns.map D.int).length : Nat) : Int) ≤ at_) = true := decide_eq_true (by rw [List.length_map]; exact hge)
    generalize (11 * at_ + 5) % 2147483587 = mix0 at *
    split
    · conv => whnf
      refine forD_inv (fun ds ρ c => c = [] ∧ (∃ (mix : Int) (x4 : Option D), ρ = [some (intsD ns), some (.int at_), some (.int (11 * at_ + 5)), some (.int mix), x4] ∧ 0 ≤ mix ∧ mix < 2147483587) ∧ ∀ d ∈ ds, ∃ i : Int, d = .int i) ?_ ?_ _ _ _ ?_
      · rintro ρ c ⟨rfl, ⟨mix, x4, rfl, h1, h2⟩, -⟩
        exact spring_tail ha ⟨h1, h2⟩ hΦ
      · rintro d ds ρ c F hF ⟨rfl, ⟨mix, x4, rfl, h1, h2⟩, hi⟩
        obtain ⟨i, rfl⟩ := hi d List.mem_cons_self
        conv => whnf
        ((refine ⟨?num, ?_⟩); (case num => first | omega | (left; omega) | (right; omega)); (conv => whnf))
        ((refine ⟨?num, ?_⟩); (case num => first | omega | (left; omega) | (right; omega)); (conv => whnf))
        exact hF _ _ ⟨rfl, ⟨_, _, rfl, Int.emod_nonneg _ (by decide), Int.emod_lt_of_pos _ (by decide)⟩, fun d hd => hi d (List.mem_cons_of_mem _ hd)⟩
      · refine ⟨rfl, ⟨mix0, none, rfl, hm, hm'⟩, fun d hd => ?_⟩
        have hd := List.mem_of_mem_drop (List.mem_of_mem_take hd)
        obtain ⟨i, _, rfl⟩ := List.mem_map.mp hd
        exact ⟨i, rfl⟩
    · rename_i h3
      exact absurd (e2.symm.trans h3) (by decide)

end
end K17

namespace K17
open PySem PySem.Spec PyProof.Rows L2 Cw

theorem txts_of_ones : ∀ ks : List Nat, Cw.txts (ks.map fun q => D.str (one q)) = some (ks.map one)
  | [] => rfl
  | k :: ks => by
    show (Cw.txts (ks.map fun q => D.str (one q))).map (one k :: ·) = _
    rw [txts_of_ones ks]; rfl
theorem sum_ones (ks : List Nat) : ((ks.map one).map (·.length)).sum = ks.length := by
  induction ks with
  | nil => rfl
  | cons k ks ih => rw [List.map_cons, List.map_cons, List.sum_cons, ih, List.length_cons]; show 1 + _ = _; omega
def S__law_word : Pm := fun c ds Φ => ∃ a b k lim, c = [spr a b k] ∧ ds = [.cell 0] ∧ B3 a b k lim ∧ lim ≤ 80000 ∧ ∀ t a' b' k', isLet t 8 = true → B3 a' b' k' (lim + 10) → Φ (.str t) [spr a' b' k']
theorem at_small {v : Int} (h : 0 ≤ v ∧ v < 26) : ∃ k, L2.atI ("abcdefghijklmnopqrstuvwxyz" : Str).cps.toList v = some k ∧ lower k = true := by
  obtain ⟨n, rfl⟩ : ∃ n : Nat, v = n := ⟨v.toNat, by omega⟩
  refine ⟨97 + n, ?_, decide_eq_true (by omega)⟩
  exact all_small (show n < 26 by omega) (P := fun n : Nat => L2.atI ("abcdefghijklmnopqrstuvwxyz" : Str).cps.toList (n : Int) = some (97 + n)) (by decide +kernel)
theorem join_ones : ∀ ks : List Nat, Txt.join "" (ks.map one) = (⟨ks.toArray⟩ : Str) := fun ks => by
  refine TL.ext_tl ?_
  rw [TL.join_eq, TL.tl_join, show TL.tl ("" : Str) = [] by decide +kernel]
  show _ = ks
  have key : ∀ ks : List Nat, TL.joinL [] ((ks.map one).map TL.tl) = ks := by
    intro ks
    induction ks with
    | nil => rfl
    | cons k ks ih =>
      cases ks with
      | nil => rfl
      | cons q r =>
        show [k] ++ ([] ++ TL.joinL [] (((q :: r).map one).map TL.tl)) = k :: q :: r
        rw [ih]; rfl
  exact key ks
theorem let_mk {ks : List Nat} {n : Int} (h : ks.all lower = true) (h1 : 1 ≤ ks.length) (h2 : (ks.length : Int) ≤ n) : isLet ⟨ks.toArray⟩ n = true := by
  unfold isLet
  have e : (⟨ks.toArray⟩ : Str).length = ks.length := by show ks.toArray.size = _; simp
  rw [e, decide_eq_true ⟨by omega, h2⟩]
  exact h
/-- letters drawn one by one -/
theorem drawn {i : Nat} {te : TD} {ρ : Cw.Env} {Φ : List D → List Cell → Prop} {n : Nat} {lim : Int} (hl : lim + n < 90000) {a b k : Int} (hB : B3 a b k lim)
    (ht : ∀ (d : D) (acc : List D) (a b k lim : Int) (Ψ : D → List Cell → Prop), B3 a b k lim → lim < 90000 → (∀ q a' b' k', lower q = true → B3 a' b' k' (lim + 1) → Ψ (.str (one q)) [spr a' b' k', .lst acc]) → te (ρ.set i (some d)) [spr a b k, .lst acc] Ψ)
    (hn : n ≤ 60) (q : ∀ (ks : List Nat) a' b' k', ks.all lower = true → ks.length = n → B3 a' b' k' (lim + n) → Φ (ks.map fun q => .str (one q)) [spr a' b' k']) : lcD i dYes te (rng 0 n) [] ρ [spr a b k] Φ := by
  refine lc_inv (fun ds acc c => ∃ (ks : List Nat) (a b k : Int), acc = ks.map (fun q => .str (one q)) ∧ c = [spr a b k] ∧ ks.all lower = true ∧ ks.length + ds.length = n ∧ B3 a b k (lim + ks.length)) ?_ ?_ _ _ _ ⟨[], a, b, k, rfl, rfl, rfl, by rw [rng_len]; simp, by simpa using hB⟩
  · rintro acc c ⟨ks, a, b, k, rfl, rfl, h1, h2, h3⟩
    have e : ks.length = n := by simpa using h2
    exact ⟨rfl, okDs_map (fun _ => rfl) ks, q ks a b k h1 e (by rw [← e]; exact h3)⟩
  · rintro d ds acc c F hF ⟨ks, a, b, k, rfl, rfl, h1, h2, h3⟩
    have h2 : ks.length + (ds.length + 1) = n := h2
    refine ht d _ a b k _ _ h3 (by omega) fun q a' b' k' hq hB' => ⟨by rw [List.length_map]; exact Nat.lt_of_lt_of_le (show ks.length < 100 by omega) (by decide), rfl, ?_⟩
    refine hF _ _ ⟨ks ++ [q], a', b', k', by simp, rfl, by simp [h1, hq], by simp; omega, hB'.up (by simp; omega)⟩
section
variable {P : Program} {w : World} {K : PySem.W.Frag} {mg : Str → Option Value} {base : Heap}
set_option maxHeartbeats 8000000 in
theorem ok__law_word (T : Tx K mg) : FnOk P w K mg base CX0 2 T.a__law_word T.d__law_word ["_law_spring_here"] (spD K 1 1 S__law_word) := by
  refine fnD T.F__law_word sc__law_word fun cdv A outer s H E hr => ⟨_, (psd_cons (psd_set (i := 1) sc__law_word.nd (pd_lst (pds_cons pd_str (pds_cons pd_str (pds_cons pd_str (pds_cons pd_str (pds_cons pd_str (pds_cons pd_str (pds_cons pd_str (pds_cons pd_str (pds_cons pd_str (pds_cons pd_str pds_nil)))))))))))) (psd_cons (psd_if (pdt_eq hr (pd_callM (ok__law_take T) (hr.mono (by decide)) T.g__law_take T.F__law_take.kp T.b__law_take pass0 (pds_cons (pd_v 0) (pds_cons pd_int pds_nil))) pd_int) (psd_one (psd_ret (pd_ix (pd_v 1) (pd_callM (ok__law_take T) (hr.mono (by decide)) T.g__law_take T.F__law_take.kp T.b__law_take pass0 (pds_cons (pd_v 0) (pds_cons pd_int pds_nil)))))) psd_nil) (psd_cons (psd_set (i := 2) sc__law_word.nd pd_str) (psd_one (psd_ret (pd_join pd_str (pd_lc (i := 3) rfl sc__law_word.nd (pid_range1 (pd_add pd_int (pd_callM (ok__law_take T) (hr.mono (by decide)) T.g__law_take T.F__law_take.kp T.b__law_take pass0 (pds_cons (pd_v 0) (pds_cons pd_int pds_nil)))) T.n_range) (by kernel_rfl) (fun _ _ _ _ _ => pg_name (i := 3) sc__law_word.nd rfl (Or.inl rfl)) (fun _ _ _ _ _ => ptd_nil) (fun _ _ _ _ _ => (pd_ix (pd_v 2) (pd_callM (ok__law_take T) (hr.mono (by decide)) T.g__law_take T.F__law_take.kp T.b__law_take pass0 (pds_cons (pd_v 0) (pds_cons pd_int pds_nil)))))))))))), ?_⟩
  rintro c ds Φ hc - ⟨a, b, k, lim, rfl, rfl, hB, hl, hΦ⟩
  conv => whnf
  refine ⟨by show (10 : Nat) ≤ _; decide, ?_⟩
  conv => whnf
  refine ⟨rfl, ?_⟩
  refine take_call (rest := []) hB (by omega) (by decide) fun v a1 b1 k1 v1 v2 hB1 => ?_
  conv => whnf
  split
  · conv => whnf
    refine ⟨rfl, ?_⟩
    refine take_call (rest := []) hB1 (by omega) (by decide) fun v a2 b2 k2 v1 v2 hB2 => ?_
    have hv : v = 0 ∨ v = 1 ∨ v = 2 ∨ v = 3 ∨ v = 4 ∨ v = 5 ∨ v = 6 ∨ v = 7 ∨ v = 8 ∨ v = 9 := by omega
    rcases hv with rfl | rfl | rfl | rfl | rfl | rfl | rfl | rfl | rfl | rfl
    all_goals
      conv => whnf
      exact hΦ _ _ _ _ (by decide +kernel) (hB2.up (by omega))
  · conv => whnf
    refine ⟨_, rfl, ?_⟩
    conv => whnf
    refine ⟨rfl, ?_⟩
    refine take_call (rest := []) hB1 (by omega) (by decide) fun v a2 b2 k2 v1 v2 hB2 => ?_
    conv => whnf
    refine ⟨by omega, ?_⟩
    have e : (1 + v).toNat ≤ 8 := by omega
    refine drawn (lim := lim + 1 + 1) (by omega) hB2 (fun d acc a b k lim Ψ hB hl h => ?_) (by omega) fun ks a' b' k' h1 h2 h3 => ?_
    · conv => whnf
      refine ⟨rfl, ?_⟩
      refine take_call (rest := [.lst acc]) hB (by omega) (by decide) fun v a' b' k' v1 v2 hB' => ?_
      obtain ⟨q, e1, e2⟩ := at_small ⟨v1, v2⟩
      conv => whnf
      refine ⟨by show (26 : Nat) ≤ _; decide, ?_⟩
      rw [e1]
      exact h q a' b' k' e2 hB'
    · conv => whnf
      refine ⟨ks.map one, txts_of_ones ks, ?_, ?_⟩
      · rw [show ("" : Str).length = 0 by decide, sum_ones]; omega
      · rw [join_ones]
        exact hΦ _ a' b' k' (let_mk h1 (by omega) (by omega)) (h3.up (by omega))

end
end K17

namespace K17
open PySem PySem.Spec PyProof.Rows L2 Cw

theorem word_call {a b k lim : Int} {rest : List Cell} {Φ : D → List Cell → Prop} (hB : B3 a b k lim) (hl : lim ≤ 80000)
    (h : ∀ t a' b' k', isLet t 8 = true → B3 a' b' k' (lim + 10) → Φ (.str t) (spr a' b' k' :: rest)) : callM S__law_word [.cell 0] (spr a b k :: rest) Φ :=
  ⟨spr a b k, rfl, rfl, rfl, a, b, k, lim, rfl, rfl, hB, hl, fun t a' b' k' h1 h2 => ⟨rfl, rfl, h t a' b' k' h1 h2⟩⟩
def S__law_words : Pm := fun c ds Φ => ∃ a b k lim m, c = [spr a b k] ∧ ds = [.cell 0, .int m] ∧ (1 ≤ m ∧ m ≤ 8) ∧ B3 a b k lim ∧ lim ≤ 3000 ∧
  ∀ (ws : List Str) a' b' k', (∀ w ∈ ws, isLet w 8 = true) → ws.Nodup → (ws.length : Int) ≤ m → ws ≠ [] → B3 a' b' k' (lim + 100) → Φ (.lst (ws.map .str)) [spr a' b' k']
theorem pys_txts : ∀ ws : List Str, D.pys (ws.map .str) = some (ws.map .str)
  | [] => rfl
  | w :: ws => by
    show (match D.py (.str w), D.pys (ws.map D.str) with | some p, some ps => some (p :: ps) | _, _ => none) = _
    rw [pys_txts ws]; rfl
theorem inF_strs (x : Str) (ys : List Str) : inF (.str x) (ys.map .str) = decide (x ∈ ys) := by
  unfold inF inV
  rw [List.map_map, List.any_map]
  show (ys.any fun y => y == x) = _
  rw [Bool.eq_iff_iff]
  simp [List.any_eq_true]
theorem let_cut {w : Str} {v : Int} (h : isLet w 8 = true) (h1 : 0 ≤ v) (h2 : v < w.length) : isLet (cutS w none (some (1 + v))) 8 = true := by
  unfold isLet at h
  obtain ⟨g1, g2⟩ := Bool.and_eq_true_iff.mp h
  have g1 := of_decide_eq_true g1
  obtain ⟨n, rfl⟩ : ∃ n : Nat, v = n := ⟨v.toNat, by omega⟩
  have e : cutS w none (some (1 + (n : Int))) = (⟨(w.cps.toList.take (n + 1)).toArray⟩ : Str) := by
    refine TL.ext_tl ?_
    show (w.cps.toList.drop (HT.sIx w.length 0 none)).take (HT.sIx w.length w.length (some (1 + (n : Int))) - HT.sIx w.length 0 none) = w.cps.toList.take (n + 1)
    rw [show (1 : Int) + (n : Int) = ((n + 1 : Nat) : Int) by omega, HT.sIx_nat, HT.sIx_none, List.drop_zero, Nat.min_eq_left (by omega)]; rfl
  rw [e]
  have hl : w.cps.toList.length = w.length := Array.length_toList
  refine let_mk (List.all_eq_true.mpr fun k hk => List.all_eq_true.mp g2 k (List.mem_of_mem_take hk)) ?_ ?_
  · rw [List.length_take, hl]; omega
  · rw [List.length_take, hl]; omega
section
variable {P : Program} {w : World} {K : PySem.W.Frag} {mg : Str → Option Value} {base : Heap}
set_option maxHeartbeats 8000000 in
theorem ok__law_words (T : Tx K mg) : FnOk P w K mg base CX0 3 T.a__law_words T.d__law_words ["_law_spring_here", "_law_much"] (spD K 1 2 S__law_words) := by
  refine fnD T.F__law_words sc__law_words fun cdv A outer s H E hr => ⟨_, (psd_cons (psd_set (i := 2) sc__law_words.nd (pd_lstM pds_nil)) (psd_cons (psd_for PassesOwn.never rfl (pid_range1 (pd_v 1) T.n_range) (pgd_name (i := 3) sc__law_words.nd) (psd_cons (psd_set (i := 4) sc__law_words.nd (pd_callM (ok__law_word T) (hr.mono (by decide)) T.g__law_word T.F__law_word.kp T.b__law_word pass0 (pds_cons (pd_v 0) pds_nil))) (psd_cons (psd_if (PDw.pt (pdw_and (pdt_ne hr (pd_v 2) (pd_lst pds_nil)) (pdw_and1 (pdt_eq hr (pd_callM (ok__law_take T) (hr.mono (by decide)) T.g__law_take T.F__law_take.kp T.b__law_take pass0 (pds_cons (pd_v 0) (pds_cons pd_int pds_nil))) pd_int)))) (psd_one (psd_set (i := 4) sc__law_words.nd (pd_sl (pd_ix (pd_v 2) pd_int) po_no (po_so (pd_add pd_int (pd_callM (ok__law_take T) (hr.mono (by decide)) T.g__law_take T.F__law_take.kp T.b__law_take pass0 (pds_cons (pd_v 0) (pds_cons (pd_len (pd_ix (pd_v 2) pd_int) T.n_len) pds_nil)))))))) psd_nil) (psd_one (psd_if (pdt_nin hr (pd_v 4) (pd_v 2)) (psd_one (psd_expr (pd_append (pd_v 2) (pd_v 4)))) psd_nil))))) (psd_one (psd_ret (pd_v 2))))), ?_⟩
  rintro c ds Φ hc - ⟨a0, b0, k0, lim, m, rfl, rfl, hm, hB0, hl, hΦ⟩
  conv => whnf
  refine ⟨Nat.zero_le _, ?_⟩
  conv => whnf
  refine ⟨by omega, ?_⟩
  refine forD_inv (fun ds ρ c => ∃ (ws : List Str) (a b k : Int) (x3 x4 : Option D), ρ = [some (.cell 0), some (.int m), some (.cell 1), x3, x4] ∧ c = [spr a b k, .lst (ws.map .str)] ∧ (∀ w ∈ ws, isLet w 8 = true) ∧ ws.Nodup ∧ (ws.length : Int) + ds.length ≤ m ∧ (ws ≠ [] ∨ ds ≠ []) ∧ B3 a b k (lim + 12 * (m - ds.length))) ?_ ?_ _ _ _ ⟨[], a0, b0, k0, none, none, rfl, rfl, by simp, List.nodup_nil, by rw [rng_len]; simp; omega, .inr (fun z => by have := congrArg List.length z; rw [rng_len] at this; simp at this; omega), hB0.up (by rw [rng_len]; omega)⟩
  · rintro ρ c ⟨ws, a, b, k, x3, x4, rfl, rfl, h1, h2, h3, h4, h5⟩
    have hne := h4.resolve_right fun z => z rfl
    exact ⟨rfl, _, rfl, rfl, okDs_map (fun _ => rfl) ws, hΦ ws a b k h1 h2 (by simpa using h3) hne (h5.up (by simp; omega))⟩
  · rintro d ds ρ c F hF ⟨ws, a, b, k, x3, x4, rfl, rfl, h1, h2, h3, h4, h5⟩
    have h3 : (ws.length : Int) + ((ds.length + 1 : Nat) : Int) ≤ m := h3
    have h5 : B3 a b k (lim + 12 * (m - ((ds.length + 1 : Nat) : Int))) := h5
    conv => whnf
    refine ⟨rfl, ?_⟩
    refine word_call (rest := [.lst (ws.map .str)]) h5 (by omega) fun w a1 b1 k1 hw hB1 => ?_
    conv => whnf
    refine ⟨by decide, ?_⟩
    conv => whnf
    refine ⟨_, _, by show D.py (.lst (ws.map D.str)) = _; unfold D.py; rw [pys_txts]; rfl, rfl, ?_, by decide +kernel, ?_⟩
    · refine shaped_of (fun x hx => ?_) (fun x hx => Nat.zero_le _)
      exact tame_ok (let_tame (n := 8) (h1 x hx))
    cases ws with
    | nil =>
      conv => whnf
      refine .inl ⟨_, rfl, rfl, txt_flat _, ?_⟩
      rw [inF_strs]
      by_cases hmem : w ∈ ([] : List Str)
      · rw [decide_eq_true hmem]
        conv => whnf
        exact hF _ _ ⟨([] : List Str), a1, b1, k1, _, _, rfl, rfl, h1, h2, by omega, .inl (List.ne_nil_of_mem hmem), hB1.up (by omega)⟩
      · rw [decide_eq_false hmem]
        conv => whnf
        refine ⟨1, rfl, ⟨_, rfl⟩, ?_⟩
        conv => whnf
        have few : (([] : List Str)).length < 100 := by omega
        refine ⟨_, rfl, by rw [List.length_map]; exact Nat.lt_of_lt_of_le few (by decide), ?_⟩
        conv => whnf
        exact hF _ _ ⟨([] : List Str) ++ [w], a1, b1, k1, _, _, rfl, by rw [List.map_append]; rfl, fun z hz => (List.mem_append.mp hz).elim (h1 z) fun e => by rw [List.mem_singleton.mp e]; exact hw, List.nodup_append.mpr ⟨h2, by simp, fun x hx y hy e => by rw [List.mem_singleton.mp hy] at e; subst e; exact hmem hx⟩, by rw [List.length_append]; simp only [List.length_cons, List.length_nil] at h3 ⊢; omega, .inl (by simp), hB1.up (by omega)⟩
    | cons w0 r =>
      conv => whnf
      refine ⟨rfl, ?_⟩
      refine take_call (rest := [.lst ((w0 :: r).map .str)]) hB1 (by omega) (by decide) fun v a2 b2 k2 v1 v2 hB2 => ?_
      conv => whnf
      split
      · conv => whnf
        have hw0 := h1 w0 List.mem_cons_self
        have t0 := tame_len (let_tame (n := 8) hw0)
        have t1 : 1 ≤ w0.length := by
          have := of_decide_eq_true (Bool.and_eq_true_iff.mp (show (decide (1 ≤ (w0.length : Int) ∧ (w0.length : Int) ≤ 8) && w0.cps.toList.all lower) = true from hw0)).1
          omega
        rw [show L2.atI (List.map D.str (w0 :: r)) 0 = some (.str w0) from at_zero _ _]
        conv => whnf
        rw [show L2.atI (List.map D.str (w0 :: r)) 0 = some (.str w0) from at_zero _ _]
        conv => whnf
        refine ⟨short (by omega), ?_⟩
        conv => whnf
        refine ⟨rfl, ?_⟩
        refine take_call (rest := [.lst ((w0 :: r).map .str)]) hB2 (by omega) ⟨by omega, by omega⟩ fun u a3 b3 k3 u1 u2 hB3 => ?_
        conv => whnf
        refine ⟨short (by omega), ?_⟩
        have hcut := let_cut hw0 u1 u2
        generalize cutS w0 none (some (1 + u)) = w3 at hcut
        conv => whnf
        refine .inl ⟨_, rfl, rfl, txt_flat _, ?_⟩
        rw [inF_strs]
        by_cases hmem : w3 ∈ (w0 :: r)
        · rw [decide_eq_true hmem]
          conv => whnf
          exact hF _ _ ⟨(w0 :: r), a3, b3, k3, _, _, rfl, rfl, h1, h2, by omega, .inl (List.ne_nil_of_mem hmem), hB3.up (by omega)⟩
        · rw [decide_eq_false hmem]
          conv => whnf
          refine ⟨1, rfl, ⟨_, rfl⟩, ?_⟩
          conv => whnf
          have few : ((w0 :: r)).length < 100 := by omega
          refine ⟨_, rfl, by rw [List.length_map]; exact Nat.lt_of_lt_of_le few (by decide), ?_⟩
          conv => whnf
          exact hF _ _ ⟨(w0 :: r) ++ [w3], a3, b3, k3, _, _, rfl, by rw [List.map_append]; rfl, fun z hz => (List.mem_append.mp hz).elim (h1 z) fun e => by rw [List.mem_singleton.mp e]; exact hcut, List.nodup_append.mpr ⟨h2, by simp, fun x hx y hy e => by rw [List.mem_singleton.mp hy] at e; subst e; exact hmem hx⟩, by rw [List.length_append]; simp only [List.length_cons, List.length_nil] at h3 ⊢; omega, .inl (by simp), hB3.up (by omega)⟩
      · conv => whnf
        conv => whnf
        refine .inl ⟨_, rfl, rfl, txt_flat _, ?_⟩
        rw [inF_strs]
        by_cases hmem : w ∈ (w0 :: r)
        · rw [decide_eq_true hmem]
          conv => whnf
          exact hF _ _ ⟨(w0 :: r), a2, b2, k2, _, _, rfl, rfl, h1, h2, by omega, .inl (List.ne_nil_of_mem hmem), hB2.up (by omega)⟩
        · rw [decide_eq_false hmem]
          conv => whnf
          refine ⟨1, rfl, ⟨_, rfl⟩, ?_⟩
          conv => whnf
          have few : ((w0 :: r)).length < 100 := by omega
          refine ⟨_, rfl, by rw [List.length_map]; exact Nat.lt_of_lt_of_le few (by decide), ?_⟩
          conv => whnf
          exact hF _ _ ⟨(w0 :: r) ++ [w], a2, b2, k2, _, _, rfl, by rw [List.map_append]; rfl, fun z hz => (List.mem_append.mp hz).elim (h1 z) fun e => by rw [List.mem_singleton.mp e]; exact hw, List.nodup_append.mpr ⟨h2, by simp, fun x hx y hy e => by rw [List.mem_singleton.mp hy] at e; subst e; exact hmem hx⟩, by rw [List.length_append]; simp only [List.length_cons, List.length_nil] at h3 ⊢; omega, .inl (by simp), hB2.up (by omega)⟩

end
end K17

namespace K17
open PySem PySem.Spec PyProof.Rows L2 Cw

def S__law_state : Pm := fun c ds Φ => ∃ a b k lim n, c = [spr a b k] ∧ ds = [.cell 0, .int n] ∧ (1 ≤ n ∧ n ≤ 5) ∧ B3 a b k lim ∧ lim ≤ 90000 ∧ ∀ (i : Nat) (d : Bool) a' b' k', (i : Int) < n → B3 a' b' k' (lim + 2) → Φ (.str (stS i d)) [spr a' b' k']
def S__law_piece : Pm := fun c ds Φ => ∃ a b k lim n t, c = [spr a b k] ∧ ds = [.cell 0, .str t, .int n] ∧ (1 ≤ n ∧ n ≤ 5) ∧ isLet t 8 = true ∧ B3 a b k lim ∧ lim ≤ 3900 ∧ ∀ (p : Part) a' b' k', p.ok n.toNat → p.t = t → B3 a' b' k' (lim + 6) → Φ p.d' [spr a' b' k']
def S__law_joint : Pm := fun c ds Φ => ∃ a b k lim n t, c = [spr a b k] ∧ ds = [.cell 0, .str t, .int n] ∧ (1 ≤ n ∧ n ≤ 5) ∧ isLet t 8 = true ∧ B3 a b k lim ∧ lim ≤ 3900 ∧ ∀ (p : Joint) a' b' k', p.ok n.toNat → p.t = t → B3 a' b' k' (lim + 6) → Φ p.d' [spr a' b' k']
theorem state_call {a b k lim n : Int} {rest : List Cell} {Φ : D → List Cell → Prop} (hB : B3 a b k lim) (hl : lim ≤ 90000) (hn : 1 ≤ n ∧ n ≤ 5)
    (h : ∀ (i : Nat) (d : Bool) a' b' k', (i : Int) < n → B3 a' b' k' (lim + 2) → Φ (.str (stS i d)) (spr a' b' k' :: rest)) : callM S__law_state [.cell 0, .int n] (spr a b k :: rest) Φ :=
  ⟨spr a b k, rfl, rfl, rfl, a, b, k, lim, n, rfl, rfl, hn, hB, hl, fun i d a' b' k' h1 h2 => ⟨rfl, rfl, h i d a' b' k' h1 h2⟩⟩
section
variable {P : Program} {w : World} {K : PySem.W.Frag} {mg : Str → Option Value} {base : Heap}
set_option maxHeartbeats 8000000 in
theorem ok__law_state (T : Tx K mg) : FnOk P w K mg base CX0 2 T.a__law_state T.d__law_state ["_law_spring_here", "_law_period"] (spD K 1 2 S__law_state) := by
  refine fnD T.F__law_state sc__law_state fun cdv A outer s H E hr => ⟨_, (psd_one (psd_ret (pd_add (pd_strc (pd_callM (ok__law_take T) (hr.mono (by decide)) T.g__law_take T.F__law_take.kp T.b__law_take pass0 (pds_cons (pd_v 0) (pds_cons (pd_v 1) pds_nil))) T.n_str) (pd_ix pd_str (pd_callM (ok__law_take T) (hr.mono (by decide)) T.g__law_take T.F__law_take.kp T.b__law_take pass0 (pds_cons (pd_v 0) (pds_cons pd_int pds_nil))))))), ?_⟩
  rintro c ds Φ hc - ⟨a, b, k, lim, n, rfl, rfl, hn, hB, hl, hΦ⟩
  conv => whnf
  refine ⟨rfl, ?_⟩
  refine take_call (rest := []) hB (by omega) ⟨by omega, by omega⟩ fun v a1 b1 k1 v1 v2 hB1 => ?_
  obtain ⟨i, rfl⟩ : ∃ i : Nat, v = i := ⟨v.toNat, by omega⟩
  conv => whnf
  refine ⟨?_, ?_⟩
  · have : (i : Int).natAbs < 16 := by omega
    have : (i : Int).natAbs.log2 < 4 := by
      by_cases h0 : (i : Int).natAbs = 0
      · rw [h0]; decide
      · exact (Nat.log2_lt h0).mpr (by omega)
    omega
  conv => whnf
  refine ⟨rfl, ?_⟩
  refine take_call (rest := []) hB1 (by omega) (by decide) fun u a2 b2 k2 u1 u2 hB2 => ?_
  have hi : (toString (i : Int) : Str).length ≤ 1 := tame_len (dig_tame (by omega))
  have hu : u = 0 ∨ u = 1 := by omega
  rcases hu with rfl | rfl
  · conv => whnf
    refine ⟨short (by decide), ?_⟩
    conv => whnf
    refine ⟨short (by show _ + 1 ≤ _; omega), ?_⟩
    conv => whnf
    exact hΦ i false _ _ _ v2 (hB2.up (by omega))
  · conv => whnf
    refine ⟨short (by decide), ?_⟩
    conv => whnf
    refine ⟨short (by show _ + 1 ≤ _; omega), ?_⟩
    conv => whnf
    exact hΦ i true _ _ _ v2 (hB2.up (by omega))
set_option maxHeartbeats 8000000 in
theorem ok__law_piece (T : Tx K mg) : FnOk P w K mg base CX0 3 T.a__law_piece T.d__law_piece ["_law_spring_here", "_law_title", "_law_period"] (spD K 1 3 S__law_piece) := by
  refine fnD T.F__law_piece sc__law_piece fun cdv A outer s H E hr => ⟨_, (psd_cons (psd_par (i := 3) (j := 4) rfl sc__law_piece.nd (pd_callM (ok__law_state T) (hr.mono (by decide)) T.g__law_state T.F__law_state.kp T.b__law_state pass0 (pds_cons (pd_v 0) (pds_cons (pd_v 2) pds_nil))) (pd_callM (ok__law_state T) (hr.mono (by decide)) T.g__law_state T.F__law_state.kp T.b__law_state pass0 (pds_cons (pd_v 0) (pds_cons (pd_v 2) pds_nil)))) (psd_one (psd_ret (pd_tup (pds_cons (pd_v 1) (pds_cons (pd_v 3) (pds_cons (pd_v 4) (pds_cons (pd_add pd_int (pd_callM (ok__law_take T) (hr.mono (by decide)) T.g__law_take T.F__law_take.kp T.b__law_take pass0 (pds_cons (pd_v 0) (pds_cons pd_int pds_nil)))) (pds_cons (pd_callM (ok__law_take T) (hr.mono (by decide)) T.g__law_take T.F__law_take.kp T.b__law_take pass0 (pds_cons (pd_v 0) (pds_cons pd_int pds_nil))) pds_nil))))))))), ?_⟩
  rintro c ds Φ hc - ⟨a, b, k, lim, n, t, rfl, rfl, hn, ht, hB, hl, hΦ⟩
  conv => whnf
  refine ⟨rfl, ?_⟩
  refine state_call (rest := []) hB (by omega) hn fun i d a1 b1 k1 i1 hB1 => ?_
  conv => whnf
  refine ⟨rfl, ?_⟩
  refine state_call (rest := []) hB1 (by omega) hn fun j e a2 b2 k2 j1 hB2 => ?_
  conv => whnf
  refine ⟨rfl, ?_⟩
  refine take_call (rest := []) hB2 (by omega) (by decide) fun v a3 b3 k3 v1 v2 hB3 => ?_
  conv => whnf
  refine ⟨rfl, ?_⟩
  refine take_call (rest := []) hB3 (by omega) (by decide) fun u a4 b4 k4 u1 u2 hB4 => ?_
  conv => whnf
  obtain ⟨v, rfl⟩ : ∃ i : Nat, v = i := ⟨v.toNat, by omega⟩
  obtain ⟨u, rfl⟩ : ∃ i : Nat, u = i := ⟨u.toNat, by omega⟩
  refine ⟨by show (5 : Nat) ≤ sizeLine; decide, ?_⟩
  conv => whnf
  have := hΦ ⟨t, i, d, j, e, 1 + v, u⟩ a4 b4 k4 ⟨ht, ⟨by show i < n.toNat; omega, by show j < n.toNat; omega⟩, ⟨by show 1 ≤ 1 + v; omega, by show 1 + v ≤ 6; omega⟩, by show u ≤ 9; omega⟩ rfl (hB4.up (by omega))
  rw [show Part.d' ⟨t, i, d, j, e, 1 + v, u⟩ = .tup [.str t, .str (stS i d), .str (stS j e), .int (1 + (v : Int)), .int u] from by unfold Part.d'; simp] at this
  exact this
set_option maxHeartbeats 8000000 in
theorem ok__law_joint (T : Tx K mg) : FnOk P w K mg base CX0 3 T.a__law_joint T.d__law_joint ["_law_spring_here", "_law_title", "_law_period"] (spD K 1 3 S__law_joint) := by
  refine fnD T.F__law_joint sc__law_joint fun cdv A outer s H E hr => ⟨_, (psd_cons (psd_set (i := 3) sc__law_joint.nd (pd_ix (pd_lst (pds_cons pd_str (pds_cons pd_str pds_nil))) (pd_callM (ok__law_take T) (hr.mono (by decide)) T.g__law_take T.F__law_take.kp T.b__law_take pass0 (pds_cons (pd_v 0) (pds_cons pd_int pds_nil))))) (psd_cons (psd_par (i := 4) (j := 5) rfl sc__law_joint.nd (pd_callM (ok__law_state T) (hr.mono (by decide)) T.g__law_state T.F__law_state.kp T.b__law_state pass0 (pds_cons (pd_v 0) (pds_cons (pd_v 2) pds_nil))) (pd_callM (ok__law_state T) (hr.mono (by decide)) T.g__law_state T.F__law_state.kp T.b__law_state pass0 (pds_cons (pd_v 0) (pds_cons (pd_v 2) pds_nil)))) (psd_one (psd_ret (pd_tup (pds_cons (pd_v 1) (pds_cons (pd_v 3) (pds_cons (pd_v 4) (pds_cons (pd_v 5) (pds_cons (pd_callM (ok__law_take T) (hr.mono (by decide)) T.g__law_take T.F__law_take.kp T.b__law_take pass0 (pds_cons (pd_v 0) (pds_cons pd_int pds_nil))) pds_nil)))))))))), ?_⟩
  rintro c ds Φ hc - ⟨a, b, k, lim, n, t, rfl, rfl, hn, ht, hB, hl, hΦ⟩
  conv => whnf
  refine ⟨by show (2 : Nat) ≤ sizeLine; decide, ?_⟩
  conv => whnf
  refine ⟨rfl, ?_⟩
  refine take_call (rest := []) hB (by omega) (by decide) fun v a0 b0 k0 v1 v2 hB0 => ?_
  have hv : v = 0 ∨ v = 1 := by omega
  rcases hv with rfl | rfl
  all_goals
    conv => whnf
    refine ⟨rfl, ?_⟩
    refine state_call (rest := []) hB0 (by omega) hn fun i d a1 b1 k1 i1 hB1 => ?_
    conv => whnf
    refine ⟨rfl, ?_⟩
    refine state_call (rest := []) hB1 (by omega) hn fun j e a2 b2 k2 j1 hB2 => ?_
    conv => whnf
    refine ⟨rfl, ?_⟩
    refine take_call (rest := []) hB2 (by omega) (by decide) fun u a4 b4 k4 u1 u2 hB4 => ?_
    conv => whnf
    obtain ⟨u, rfl⟩ : ∃ i : Nat, u = i := ⟨u.toNat, by omega⟩
    refine ⟨by show (5 : Nat) ≤ sizeLine; decide, ?_⟩
    conv => whnf
    first
      | exact hΦ ⟨t, true, i, d, j, e, u⟩ a4 b4 k4 ⟨ht, ⟨by show i < n.toNat; omega, by show j < n.toNat; omega⟩, by show u ≤ 9; omega⟩ rfl (hB4.up (by omega))
      | exact hΦ ⟨t, false, i, d, j, e, u⟩ a4 b4 k4 ⟨ht, ⟨by show i < n.toNat; omega, by show j < n.toNat; omega⟩, by show u ≤ 9; omega⟩ rfl (hB4.up (by omega))

end
end K17

namespace K17
open PySem PySem.Spec PyProof.Rows L2 Cw

theorem cut_to {α : Type} (xs : List α) (n : Nat) : Cw.cutD xs none (some (n : Int)) = xs.take n := by
  have e := cut_both xs 0 n
  rw [List.drop_zero] at e
  exact e
theorem at_mem {ys : List Str} {w : Int} (h : 0 ≤ w) (h2 : w < ys.length) : ∃ t, t ∈ ys ∧ L2.atI (ys.map D.str) w = some (.str t) := by
  obtain ⟨n, rfl⟩ : ∃ n : Nat, w = n := ⟨w.toNat, by omega⟩
  have hn : n < ys.length := by omega
  refine ⟨ys[n], List.getElem_mem hn, ?_⟩
  unfold L2.atI L2.ixN
  rw [if_pos (by omega), if_pos (by rw [List.length_map]; omega)]
  show (ys.map D.str)[(n : Int).toNat]? = _
  rw [Int.toNat_natCast, List.getElem?_map, List.getElem?_eq_getElem hn]; rfl
theorem eqvAll_self : ∀ ps : List PyData, (∀ p ∈ ps, PyData.eqv p p = true) → PyData.eqvAll ps ps = true
  | [], _ => rfl
  | p :: ps, h => by
    show (PyData.eqv p p && PyData.eqvAll ps ps) = true
    rw [h p List.mem_cons_self, eqvAll_self ps fun q hq => h q (List.mem_cons_of_mem _ hq)]; rfl
theorem joint_eqv {p q : Joint} (h : p.k = q.k) : PyData.eqv p.py q.py = true := by
  unfold Joint.k at h
  injection h with e1 h
  injection h with e2 h
  injection h with e3 h
  injection h with e4 h
  injection h with e5 _
  injection e1 with e1
  injection e2 with e2
  injection e3 with e3
  injection e4 with e4
  injection e5 with e5
  have : p.py = q.py := by unfold Joint.py; rw [e1, e2, e3, e4, e5]
  rw [this]
  refine eqvAll_self _ fun x hx => ?_
  simp only [List.mem_cons, List.not_mem_nil, or_false] at hx
  rcases hx with rfl | rfl | rfl | rfl | rfl
  · show (_ == _) = true; simp
  · show (_ == _) = true; simp
  · show (_ == _) = true; simp
  · show (_ == _) = true; simp
  · show (_ == _) = true; simp
def S__law_spec : Pm := fun c ds Φ => ∃ a b k lim, c = [spr a b k] ∧ ds = [.cell 0] ∧ B3 a b k lim ∧ lim ≤ 2500 ∧ ∀ (s : Sp) a' b' k', s.ok → B3 a' b' k' (lim + 400) → Φ s.d [spr a' b' k']
theorem words_call {a b k lim m : Int} {rest : List Cell} {Φ : D → List Cell → Prop} (hB : B3 a b k lim) (hl : lim ≤ 3000) (hm : 1 ≤ m ∧ m ≤ 8)
    (h : ∀ (ws : List Str) a' b' k', (∀ w ∈ ws, isLet w 8 = true) → ws.Nodup → (ws.length : Int) ≤ m → ws ≠ [] → B3 a' b' k' (lim + 100) → Φ (.lst (ws.map .str)) (spr a' b' k' :: rest)) : callM S__law_words [.cell 0, .int m] (spr a b k :: rest) Φ :=
  ⟨spr a b k, rfl, rfl, rfl, a, b, k, lim, m, rfl, rfl, hm, hB, hl, fun ws a' b' k' h1 h2 h3 h4 h5 => ⟨rfl, by show okDs 0 (ws.map D.str) = true; exact okDs_map (fun _ => rfl) ws, h ws a' b' k' h1 h2 h3 h4 h5⟩⟩
theorem piece_call {a b k lim n : Int} {t : Str} {rest : List Cell} {Φ : D → List Cell → Prop} (hB : B3 a b k lim) (hl : lim ≤ 3900) (hn : 1 ≤ n ∧ n ≤ 5) (ht : isLet t 8 = true)
    (h : ∀ (p : Part) a' b' k', p.ok n.toNat → p.t = t → B3 a' b' k' (lim + 6) → Φ p.d' (spr a' b' k' :: rest)) : callM S__law_piece [.cell 0, .str t, .int n] (spr a b k :: rest) Φ :=
  ⟨spr a b k, rfl, rfl, rfl, a, b, k, lim, n, t, rfl, rfl, hn, ht, hB, hl, fun p a' b' k' h1 h2 h3 => ⟨rfl, rfl, h p a' b' k' h1 h2 h3⟩⟩
theorem joint_call {a b k lim n : Int} {t : Str} {rest : List Cell} {Φ : D → List Cell → Prop} (hB : B3 a b k lim) (hl : lim ≤ 3900) (hn : 1 ≤ n ∧ n ≤ 5) (ht : isLet t 8 = true)
    (h : ∀ (p : Joint) a' b' k', p.ok n.toNat → p.t = t → B3 a' b' k' (lim + 6) → Φ p.d' (spr a' b' k' :: rest)) : callM S__law_joint [.cell 0, .str t, .int n] (spr a b k :: rest) Φ :=
  ⟨spr a b k, rfl, rfl, rfl, a, b, k, lim, n, t, rfl, rfl, hn, ht, hB, hl, fun p a' b' k' h1 h2 h3 => ⟨rfl, rfl, h p a' b' k' h1 h2 h3⟩⟩
section
variable {P : Program} {w : World} {K : PySem.W.Frag} {mg : Str → Option Value} {base : Heap}
set_option maxHeartbeats 8000000 in
theorem ok__law_spec (T : Tx K mg) : FnOk P w K mg base CX0 4 T.a__law_spec T.d__law_spec ["_law_spring_here"] (spD K 1 1 S__law_spec) := by
  refine fnD T.F__law_spec sc__law_spec fun cdv A outer s H E hr => ⟨_, (psd_cons (psd_asg (pd_tup (pds_cons pd_str (pds_cons (pd_add pd_int (pd_callM (ok__law_take T) (hr.mono (by decide)) T.g__law_take T.F__law_take.kp T.b__law_take pass0 (pds_cons (pd_v 0) (pds_cons pd_int pds_nil)))) pds_nil))) (pgd_tup rfl (pgds_cons (pgd_name (i := 1) sc__law_spec.nd) (pgds_cons (pgd_name (i := 2) sc__law_spec.nd) pgds_nil)))) (psd_cons (psd_set (i := 3) sc__law_spec.nd (pd_ix (pd_lst (pds_cons pd_int (pds_cons pd_int pds_nil))) (pd_callM (ok__law_take T) (hr.mono (by decide)) T.g__law_take T.F__law_take.kp T.b__law_take pass0 (pds_cons (pd_v 0) (pds_cons pd_int pds_nil))))) (psd_cons (psd_set (i := 4) sc__law_spec.nd (pd_join pd_str (pd_lc (i := 8) rfl sc__law_spec.nd (pid_range1 (pd_v 2) T.n_range) (by kernel_rfl) (fun _ _ _ _ _ => pg_name (i := 8) sc__law_spec.nd rfl (Or.inl rfl)) (fun _ _ _ _ _ => ptd_nil) (fun _ _ _ _ _ => (pd_ix (pd_v 1) (pd_callM (ok__law_take T) (hr.mono (by decide)) T.g__law_take T.F__law_take.kp T.b__law_take pass0 (pds_cons (pd_v 0) (pds_cons (pd_v 3) pds_nil)))))))) (psd_cons (psd_setLc (j := 5) (i := 10) rfl sc__law_spec.nd rfl rfl (sw_true rfl rfl rfl (by kernel_rfl)) (pid_list (pd_sl (pd_callM (ok__law_words T) (hr.mono (by decide)) T.g__law_words T.F__law_words.kp T.b__law_words pass0 (pds_cons (pd_v 0) (pds_cons pd_int pds_nil))) po_no (po_so (pd_callM (ok__law_take T) (hr.mono (by decide)) T.g__law_take T.F__law_take.kp T.b__law_take pass0 (pds_cons (pd_v 0) (pds_cons pd_int pds_nil)))))) (by kernel_rfl) (fun _ _ _ _ _ => pg_name (i := 10) sc__law_spec.nd rfl (Or.inl rfl)) (fun _ _ _ _ _ => ptd_nil) (fun _ _ _ _ _ => (pd_callM (ok__law_piece T) (hr.mono (by decide)) T.g__law_piece T.F__law_piece.kp T.b__law_piece pass0 (pds_cons (pd_v 0) (pds_cons (pd_v 10) (pds_cons (pd_v 2) pds_nil)))))) (psd_cons (psd_par (i := 6) (j := 7) rfl sc__law_spec.nd (pd_callM (ok__law_words T) (hr.mono (by decide)) T.g__law_words T.F__law_words.kp T.b__law_words pass0 (pds_cons (pd_v 0) (pds_cons pd_int pds_nil))) (pd_lstM pds_nil)) (psd_cons (psd_for PassesOwn.never rfl (pid_range1 (pd_callM (ok__law_take T) (hr.mono (by decide)) T.g__law_take T.F__law_take.kp T.b__law_take pass0 (pds_cons (pd_v 0) (pds_cons pd_int pds_nil))) T.n_range) (pgd_name (i := 8) sc__law_spec.nd) (psd_cons (psd_set (i := 9) sc__law_spec.nd (pd_callM (ok__law_joint T) (hr.mono (by decide)) T.g__law_joint T.F__law_joint.kp T.b__law_joint pass0 (pds_cons (pd_v 0) (pds_cons (pd_ix (pd_v 6) (pd_callM (ok__law_take T) (hr.mono (by decide)) T.g__law_take T.F__law_take.kp T.b__law_take pass0 (pds_cons (pd_v 0) (pds_cons (pd_len (pd_v 6) T.n_len) pds_nil)))) (pds_cons (pd_v 2) pds_nil))))) (psd_one (psd_if (pdt_nin hr (pd_v 9) (pd_v 7)) (psd_one (psd_expr (pd_append (pd_v 7) (pd_v 9)))) psd_nil)))) (psd_one (psd_ret (pd_tup (pds_cons (pd_v 4) (pds_cons (pd_tuplec (pd_v 5) T.n_tuple) (pds_cons (pd_tuplec (pd_v 7) T.n_tuple) pds_nil)))))))))))), ?_⟩
  rintro c ds Φ hc - ⟨a, b, k, lim, rfl, rfl, hB, hl, hΦ⟩
  conv => whnf
  refine ⟨rfl, ?_⟩
  refine take_call (rest := []) hB (by omega) (by decide) fun n a1 b1 k1 n1 n2 hB1 => ?_
  conv => whnf
  refine ⟨by show (2 : Nat) ≤ sizeLine; decide, ?_⟩
  conv => whnf
  refine ⟨rfl, ?_⟩
  refine ⟨rfl, ?_⟩
  conv => whnf
  refine ⟨by show (2 : Nat) ≤ sizeLine; decide, ?_⟩
  conv => whnf
  refine ⟨rfl, ?_⟩
  refine take_call (rest := []) hB1 (by omega) (by decide) fun r a2 b2 k2 r1 r2 hB2 => ?_
  have hr : ∃ m, (m = 2 ∨ m = 26) ∧ L2.atI ([.int 2, .int 26] : List D) r = some (.int m) := by
    have : r = 0 ∨ r = 1 := by omega
    rcases this with rfl | rfl
    · exact ⟨2, .inl rfl, rfl⟩
    · exact ⟨26, .inr rfl, rfl⟩
  obtain ⟨m, hm, em⟩ := hr
  conv => whnf
  rw [em]
  conv => whnf
  refine ⟨_, rfl, ?_⟩
  conv => whnf
  refine ⟨by omega, ?_⟩
  refine drawn (lim := lim + 1 + 1) (by omega) hB2 (fun d acc a b k lim Ψ hB hl h => ?_) (by omega) fun ks a3 b3 k3 h1 h2 hB3 => ?_
  · conv => whnf
    refine ⟨rfl, ?_⟩
    refine take_call (rest := [.lst acc]) hB (by omega) (by omega) fun v a' b' k' v1 v2 hB' => ?_
    obtain ⟨q, e1, e2⟩ := at_small (v := v) ⟨v1, by omega⟩
    conv => whnf
    refine ⟨by show (26 : Nat) ≤ _; decide, ?_⟩
    rw [e1]
    exact h q a' b' k' e2 hB'
  have hB3 : B3 a3 b3 k3 (lim + 7) := hB3.up (by omega)
  have hM := let_mk (n := 5) h1 (by omega) (by omega)
  have lM : (⟨ks.toArray⟩ : Str).length = (1 + n).toNat := by rw [← h2]; show ks.toArray.size = _; simp
  conv => whnf
  refine ⟨ks.map one, txts_of_ones ks, by rw [show ("" : Str).length = 0 by decide, sum_ones]; omega, ?_⟩
  rw [join_ones]
  generalize (⟨ks.toArray⟩ : Str) = M at hM lM
  conv => whnf
  refine ⟨rfl, ?_⟩
  refine words_call (rest := []) hB3 (by omega) (by decide) fun ws a4 b4 k4 w1 w2 w3 w4 hB4 => ?_
  conv => whnf
  refine ⟨rfl, ?_⟩
  refine take_call (rest := []) hB4 (by omega) (by decide) fun v a5 b5 k5 v1 v2 hB5 => ?_
  conv => whnf
  have hT : Cw.cutD (ws.map D.str) none (some v) = (ws.take v.toNat).map .str := by
    have e := cut_to (ws.map D.str) v.toNat
    rw [show ((v.toNat : Nat) : Int) = v by omega, ← List.map_take] at e
    exact e
  rw [hT]
  have tW : ∀ t ∈ ws.take v.toNat, isLet t 8 = true := fun t ht => w1 t (List.mem_of_mem_take ht)
  have tN : (ws.take v.toNat).Nodup := w2.sublist (List.take_sublist _ _)
  have tL : (ws.take v.toNat).length ≤ 8 := by rw [List.length_take]; omega
  generalize ws.take v.toNat = T' at tW tN tL
  refine lc_inv (fun rest acc c => ∃ (ts : List Str) (ps : List Part) (a b k : Int), rest = ts.map .str ∧ acc = ps.map Part.d' ∧ c = [spr a b k] ∧ ps.map (·.t) ++ ts = T' ∧ (∀ p ∈ ps, p.ok M.length) ∧ B3 a b k (lim + 108 + 6 * ps.length)) ?_ ?_ _ _ _ ⟨T', [], a5, b5, k5, rfl, rfl, rfl, rfl, by simp, hB5.up (by simp; omega)⟩
  case refine_2 =>
    rintro d ds acc c F hF ⟨ts, ps, a, b, k, e1, rfl, rfl, e2, ok1, hB⟩
    cases ts with
    | nil => cases e1
    | cons t ts =>
      cases e1
      have pl : ps.length + (ts.length + 1) ≤ 8 := by
        have := congrArg List.length e2
        rw [List.length_append, List.length_map] at this
        have h8 : (t :: ts).length = ts.length + 1 := rfl
        omega
      conv => whnf
      refine ⟨rfl, ?_⟩
      refine piece_call (rest := [.lst (ps.map Part.d')]) hB (by omega) ⟨by omega, by omega⟩ (tW t (by rw [← e2]; simp)) fun p a' b' k' hp et hB' => ?_
      conv => whnf
      refine ⟨by rw [List.length_map]; exact Nat.lt_of_lt_of_le (show ps.length < 100 by omega) (by decide), rfl, ?_⟩
      exact hF _ _ ⟨ts, ps ++ [p], a', b', k', rfl, by simp, rfl, by rw [List.map_append, ← e2, List.append_assoc]; show _ ++ ([p.t] ++ ts) = _; rw [et]; rfl, fun q hq => (List.mem_append.mp hq).elim (ok1 q) fun e => by rw [List.mem_singleton.mp e, lM]; exact hp, hB'.up (by simp; omega)⟩
  rintro acc c ⟨ts, ps, a6, b6, k6, e1, rfl, rfl, e2, okp, hB6⟩
  have ets : ts = [] := List.map_eq_nil_iff.mp e1.symm
  subst ets
  rw [List.append_nil] at e2
  subst e2
  rw [List.length_map] at tL
  refine ⟨rfl, okDs_map (fun _ => rfl) ps, ?_⟩
  conv => whnf
  refine ⟨rfl, ?_⟩
  refine words_call (rest := []) (hB6.up (show _ ≤ lim + 160 by omega)) (by omega) (by decide) fun pool a7 b7 k7 q1 q2 q3 q4 hB7 => ?_
  conv => whnf
  refine ⟨Nat.zero_le _, ?_⟩
  conv => whnf
  refine ⟨rfl, ?_⟩
  refine take_call (rest := [.lst []]) hB7 (by omega) (by decide) fun u a8 b8 k8 u1 u2 hB8 => ?_
  conv => whnf
  refine ⟨by omega, ?_⟩
  have eN : (1 + n).toNat = M.length := lM.symm
  have hn5 : M.length ≤ 5 := by omega
  refine forD_inv (fun ds ρ c => ∃ (js : List Joint) (a b k : Int) (x8 x9 : Option D), ρ = [some (.cell 0), some (.str "abcdefghijklmnopqrstuvwxyz"), some (.int (1 + n)), some (.int m), some (.str M), some (.lst (ps.map Part.d')), some (.lst (pool.map .str)), some (.cell 1), x8, x9, none] ∧ c = [spr a b k, .lst (js.map Joint.d')] ∧ (∀ p ∈ js, p.ok M.length) ∧ (∀ p ∈ js, p.t ∈ pool) ∧ (js.map Joint.k).Nodup ∧ js.length + ds.length ≤ 12 ∧ B3 a b k (lim + 261 + 7 * (12 - ds.length))) ?_ ?_ _ _ _ ⟨[], a8, b8, k8, none, none, rfl, rfl, by simp, by simp, List.nodup_nil, by rw [rng_len]; simp; omega, hB8.up (by rw [rng_len]; omega)⟩
  · rintro ρ c ⟨js, a, b, k, x8, x9, rfl, rfl, o1, o2, o3, o4, hB9⟩
    conv => whnf
    refine ⟨by show (3 : Nat) ≤ sizeLine; decide, ?_⟩
    conv => whnf
    refine ⟨rfl, ?_, ?_⟩
    · show (true && (okDs 1 (ps.map Part.d') && (okDs 1 (js.map Joint.d') && true))) = true
      rw [okDs_map (fun _ => rfl), okDs_map (fun _ => rfl)]; rfl
    · exact hΦ ⟨M, ps, js⟩ a b k ⟨hM, okp, tL, tN, o1, by simpa using o4, o3, pool, by omega, o2⟩ (hB9.up (by simp; omega))
  · rintro d ds ρ c F hF ⟨js, a, b, k, x8, x9, rfl, rfl, o1, o2, o3, o4, hB9⟩
    have o4 : js.length + (ds.length + 1) ≤ 12 := o4
    have hB9 : B3 a b k (lim + 261 + 7 * (12 - ((ds.length + 1 : Nat) : Int))) := hB9
    conv => whnf
    refine ⟨rfl, ?_⟩
    refine take_call (rest := [.lst (js.map Joint.d')]) hB9 (by omega) ⟨by rw [List.length_map]; have := List.length_pos_iff.mpr q4; omega, by rw [List.length_map]; omega⟩ fun w a10 b10 k10 z1 z2 hB10 => ?_
    obtain ⟨t, tm, et⟩ := at_mem z1 (by rw [List.length_map] at z2; exact z2)
    conv => whnf
    rw [et]
    conv => whnf
    refine ⟨rfl, ?_⟩
    refine joint_call (rest := [.lst (js.map Joint.d')]) hB10 (by omega) ⟨by omega, by omega⟩ (q1 t tm) fun p a11 b11 k11 hp ep hB11 => ?_
    conv => whnf
    refine .inr ⟨p.py, _, _, rfl, rfl, pys_of d_joint js, ?_, shaped_of (fun x hx => Joint.lay (o1 x hx) hn5) (fun x _ => Nat.le_refl _), ?_⟩
    · show (p.py.canLay0 && decide (1 ≤ 64)) = true
      rw [Joint.lay hp (by omega)]; rfl
    have hp : p.ok M.length := by rw [← eN]; exact hp
    cases hany : (js.map Joint.py).any fun z => PyData.eqv z p.py with
    | true =>
      conv => whnf
      exact hF _ _ ⟨js, a11, b11, k11, _, _, rfl, rfl, o1, o2, o3, by omega, hB11.up (by omega)⟩
    | false =>
      conv => whnf
      refine ⟨1, rfl, ⟨_, rfl⟩, ?_⟩
      conv => whnf
      refine ⟨_, rfl, by rw [List.length_map]; exact Nat.lt_of_lt_of_le (show js.length < 100 by omega) (by decide), ?_⟩
      conv => whnf
      have new : ∀ q ∈ js, q.k ≠ p.k := fun q hq e => by
        have z := List.any_eq_false.mp hany q.py (List.mem_map_of_mem hq)
        exact z (joint_eqv e)
      exact hF _ _ ⟨js ++ [p], a11, b11, k11, _, _, rfl, by rw [List.map_append]; rfl, fun q hq => (List.mem_append.mp hq).elim (o1 q) fun e => by rw [List.mem_singleton.mp e]; exact hp, fun q hq => (List.mem_append.mp hq).elim (o2 q) fun e => by rw [List.mem_singleton.mp e, ep]; exact tm, by
        rw [List.map_append]
        refine List.nodup_append.mpr ⟨o3, by simp, fun x hx y hy e => ?_⟩
        obtain ⟨q, hq, rfl⟩ := List.mem_map.mp hx
        rw [List.map_cons, List.map_nil, List.mem_singleton] at hy
        subst hy
        exact new q hq e, by rw [List.length_append]; simp only [List.length_cons, List.length_nil]; omega, hB11.up (by omega)⟩

end
end K17

namespace K17
open PySem PySem.Spec PyProof.Rows L2 Cw

def S__law_piece_row : Pm := fun c ds Φ => ∃ p n, ds = [Part.d' p] ∧ n ≤ 5 ∧ p.ok n ∧ Φ (.str p.row) c
def S__law_joint_row : Pm := fun c ds Φ => ∃ p n, ds = [Joint.d' p] ∧ n ≤ 5 ∧ p.ok n ∧ Φ (.str p.row) c
def S__law_rows : Pm := fun c ds Φ => ∃ s : Sp, ds = [s.d] ∧ s.ok ∧ Φ (.lst (s.lines.map .str)) c
def S__law_joined : Pm := fun c ds Φ => ∃ s : Sp, ds = [s.d] ∧ s.ok ∧ Φ (.str s.text) c
def tits (s : Sp) (zs : List Str) : Prop := zs.Nodup ∧ sortedS zs = true ∧ ∀ x, x ∈ zs ↔ x ∈ s.js.map (·.t)
def bD (C : Addr) (s : Sp) (zs : List Str) : D := bordD C (.str s.text) (.str s.m) (.tup (s.ps.map Part.d')) (.tup (s.js.map Joint.d')) (stD s.m.length) (.tup (zs.map .str))
theorem txts_of' : ∀ ws : List Str, Cw.txts (ws.map D.str) = some ws
  | [] => rfl
  | w :: ws => by
    show (Cw.txts (ws.map D.str)).map (w :: ·) = _
    rw [txts_of' ws]; rfl
theorem dig_small {n : Nat} (h : n < 10) : ((n : Int)).natAbs.log2 < 1920 := by
  have : (n : Int).natAbs < 16 := by omega
  have : (n : Int).natAbs.log2 < 4 := by
    by_cases h0 : (n : Int).natAbs = 0
    · rw [h0]; decide
    · exact (Nat.log2_lt h0).mpr (by omega)
  omega
theorem signs_row (m : Str) : signL m = "signs " ++ m := by
  refine TL.ext_tl ?_
  unfold signL
  rw [TL.join_eq, TL.tl_join, TL.tl_append, show TL.tl ("signs " : Str) = TL.tl ("signs" : Str) ++ TL.tl (" " : Str) by decide +kernel, List.append_assoc]
  rfl
theorem b_ok (C : Addr) (s : Sp) (zs : List Str) : okDs 0 [bD C s zs] = true := by
  show ((true && (true && (okDs 0 (s.ps.map Part.d') && (okDs 0 (s.js.map Joint.d') && (okDs 0 ((stL s.m.length).map D.str) && (okDs 0 (zs.map D.str) && true)))))) && true) = true
  rw [okDs_map (fun _ => rfl), okDs_map (fun _ => rfl), okDs_map (fun _ => rfl), okDs_map (fun _ => rfl)]; rfl
theorem sp_ok (s : Sp) : okDs 0 [s.d] = true := by
  show (true && (okDs 0 (s.ps.map Part.d') && (okDs 0 (s.js.map Joint.d') && true)) && true) = true
  rw [okDs_map (fun _ => rfl), okDs_map (fun _ => rfl)]; rfl
section
variable {P : Program} {w : World} {K : PySem.W.Frag} {mg : Str → Option Value} {base : Heap}
set_option maxHeartbeats 8000000 in
theorem ok__law_piece_row (T : Tx K mg) : FnOk P w K mg base CX0 1 T.a__law_piece_row T.d__law_piece_row ["_law_part"] (spD K 0 1 S__law_piece_row) := by
  refine fnD T.F__law_piece_row sc__law_piece_row fun cdv A outer s H E hr => ⟨_, (psd_cons (psd_asg (pd_v 0) (pgd_tup rfl (pgds_cons (pgd_name (i := 1) sc__law_piece_row.nd) (pgds_cons (pgd_name (i := 2) sc__law_piece_row.nd) (pgds_cons (pgd_name (i := 3) sc__law_piece_row.nd) (pgds_cons (pgd_name (i := 4) sc__law_piece_row.nd) (pgds_cons (pgd_name (i := 5) sc__law_piece_row.nd) pgds_nil))))))) (psd_one (psd_ret (pd_join pd_str (pd_lst (pds_cons pd_str (pds_cons (pd_v 1) (pds_cons (pd_v 2) (pds_cons (pd_v 3) (pds_cons pd_str (pds_cons (pd_strc (pd_v 4) T.n_str) (pds_cons pd_str (pds_cons (pd_strc (pd_v 5) T.n_str) pds_nil))))))))))))), ?_⟩
  rintro c ds Φ hc - ⟨p, n, rfl, hn, hp, hΦ⟩
  cases c with
  | cons _ _ => cases hc
  | nil =>
  conv => whnf
  refine ⟨rfl, ?_⟩
  conv => whnf
  refine ⟨rfl, ?_⟩
  conv => whnf
  refine ⟨_, rfl, ?_⟩
  conv => whnf
  have h6 := hp.2.2.1.2
  have h9 := hp.2.2.2
  refine ⟨dig_small (by omega), ?_⟩
  conv => whnf
  refine ⟨dig_small (by omega), ?_⟩
  conv => whnf
  refine ⟨by show (8 : Nat) ≤ sizeLine; decide, ?_⟩
  conv => whnf
  have tm := Part.tames hp hn
  refine ⟨p.ws, txts_of' p.ws, ?_, hΦ⟩
  have := sum_le (k := 8) (fun x hx => tame_len (tm x hx))
  have l8 : p.ws.length = 8 := rfl
  have l1 : (" " : Str).length = 1 := by decide
  rw [l1]; omega
set_option maxHeartbeats 8000000 in
theorem ok__law_joint_row (T : Tx K mg) : FnOk P w K mg base CX0 1 T.a__law_joint_row T.d__law_joint_row ["_law_joint_here"] (spD K 0 1 S__law_joint_row) := by
  refine fnD T.F__law_joint_row sc__law_joint_row fun cdv A outer s H E hr => ⟨_, (psd_cons (psd_asg (pd_v 0) (pgd_tup rfl (pgds_cons (pgd_name (i := 1) sc__law_joint_row.nd) (pgds_cons (pgd_name (i := 2) sc__law_joint_row.nd) (pgds_cons (pgd_name (i := 3) sc__law_joint_row.nd) (pgds_cons (pgd_name (i := 4) sc__law_joint_row.nd) (pgds_cons (pgd_name (i := 5) sc__law_joint_row.nd) pgds_nil))))))) (psd_one (psd_ret (pd_join pd_str (pd_lst (pds_cons pd_str (pds_cons (pd_v 1) (pds_cons (pd_v 2) (pds_cons (pd_v 3) (pds_cons (pd_v 4) (pds_cons pd_str (pds_cons (pd_strc (pd_v 5) T.n_str) pds_nil)))))))))))), ?_⟩
  rintro c ds Φ hc - ⟨p, n, rfl, hn, hp, hΦ⟩
  cases c with
  | cons _ _ => cases hc
  | nil =>
  conv => whnf
  refine ⟨rfl, ?_⟩
  conv => whnf
  refine ⟨rfl, ?_⟩
  conv => whnf
  refine ⟨_, rfl, ?_⟩
  conv => whnf
  have h9 := hp.2.2
  refine ⟨dig_small (by omega), ?_⟩
  conv => whnf
  refine ⟨by show (7 : Nat) ≤ sizeLine; decide, ?_⟩
  conv => whnf
  have tm := Joint.tames hp hn
  refine ⟨p.ws, txts_of' p.ws, ?_, hΦ⟩
  have := sum_le (k := 8) (fun x hx => tame_len (tm x hx))
  have l8 : p.ws.length = 7 := rfl
  have l1 : (" " : Str).length = 1 := by decide
  rw [l1]; omega
set_option maxHeartbeats 8000000 in
theorem ok__law_rows (T : Tx K mg) : FnOk P w K mg base CX0 2 T.a__law_rows T.d__law_rows ["_law_spec_here"] (spD K 0 1 S__law_rows) := by
  refine fnD T.F__law_rows sc__law_rows fun cdv A outer s H E hr => ⟨_, (psd_cons (psd_set (i := 1) sc__law_rows.nd (pd_lst (pds_cons (pd_add pd_str (pd_ix (pd_v 0) pd_int)) pds_nil))) (psd_cons (psd_set (i := 1) sc__law_rows.nd (pd_add (pd_v 1) (pd_lc (i := 2) rfl sc__law_rows.nd (pid_tup (pd_ix (pd_v 0) pd_int)) (by kernel_rfl) (fun _ _ _ _ _ => pg_name (i := 2) sc__law_rows.nd rfl (Or.inl rfl)) (fun _ _ _ _ _ => ptd_nil) (fun _ _ _ _ _ => (pd_callP (ok__law_piece_row T) (hr.mono (by decide)) T.g__law_piece_row T.F__law_piece_row.kp T.b__law_piece_row pass0 (pds_cons (pd_v 2) pds_nil)))))) (psd_one (psd_ret (pd_add (pd_v 1) (pd_lc (i := 3) rfl sc__law_rows.nd (pid_tup (pd_ix (pd_v 0) pd_int)) (by kernel_rfl) (fun _ _ _ _ _ => pg_name (i := 3) sc__law_rows.nd rfl (Or.inl rfl)) (fun _ _ _ _ _ => ptd_nil) (fun _ _ _ _ _ => (pd_callP (ok__law_joint_row T) (hr.mono (by decide)) T.g__law_joint_row T.F__law_joint_row.kp T.b__law_joint_row pass0 (pds_cons (pd_v 3) pds_nil))))))))), ?_⟩
  rintro c ds Φ hc - ⟨s, rfl, hs, hΦ⟩
  cases c with
  | cons _ _ => cases hc
  | nil =>
  have hn : s.m.length ≤ 5 := tame_len (let_tame (n := 5) hs.m)
  have np := hs.np
  have nj := hs.nj
  conv => whnf
  refine ⟨short (by rw [show ("signs " : Str).length = 6 by decide]; omega), ?_⟩
  conv => whnf
  refine ⟨by show (1 : Nat) ≤ sizeLine; decide, ?_⟩
  conv => whnf
  refine lc_pair (c := []) Part.d' (fun p => .str p.row) rfl s.ps [] (fun p hp => ⟨rfl, fun acc Ψ _ h => ?_⟩) rfl (by show 0 + s.ps.length ≤ _; exact short (by omega)) ?_
  · conv => whnf
    exact ⟨rfl, rfl, p, s.m.length, rfl, hn, hs.ps p hp, h⟩
  conv => whnf
  refine ⟨short (by simp; omega), ?_⟩
  conv => whnf
  refine lc_pair (c := []) Joint.d' (fun p => .str p.row) rfl s.js [] (fun p hp => ⟨rfl, fun acc Ψ _ h => ?_⟩) rfl (by show 0 + s.js.length ≤ _; exact short (by omega)) ?_
  · conv => whnf
    exact ⟨rfl, rfl, p, s.m.length, rfl, hn, hs.js p hp, h⟩
  conv => whnf
  refine ⟨short (by simp; omega), ?_⟩
  have e : ([D.str ("signs " ++ s.m)] ++ ([] ++ s.ps.map fun p => D.str p.row)) ++ ([] ++ s.js.map fun p => D.str p.row) = s.lines.map .str := by
    unfold Sp.lines
    rw [signs_row, List.map_cons, List.map_append, List.map_map, List.map_map]
    simp
    rfl
  rw [← e] at hΦ
  exact hΦ
set_option maxHeartbeats 8000000 in
theorem ok__law_joined (T : Tx K mg) : FnOk P w K mg base CX0 3 T.a__law_joined T.d__law_joined ["_law_spec_here"] (spD K 0 1 S__law_joined) := by
  refine fnD T.F__law_joined sc__law_joined fun cdv A outer s H E hr => ⟨_, (psd_one (psd_ret (pd_join pd_str (pd_callP (ok__law_rows T) (hr.mono (by decide)) T.g__law_rows T.F__law_rows.kp T.b__law_rows pass0 (pds_cons (pd_v 0) pds_nil))))), ?_⟩
  rintro c ds Φ hc - ⟨s, rfl, hs, hΦ⟩
  cases c with
  | cons _ _ => cases hc
  | nil =>
  conv => whnf
  refine ⟨_, rfl, ?_⟩
  conv => whnf
  refine ⟨rfl, sp_ok s, s, rfl, hs, ?_⟩
  conv => whnf
  have h1 := (Sp.sums hs).1
  have h2 := (Sp.sums hs).2
  refine ⟨s.lines, txts_of' _, (by rw [show ("\n" : Str).length = 1 by decide]; omega), hΦ⟩

end
end K17

namespace K17
open PySem PySem.Spec PyProof.Rows L2 Cw
end K17

namespace K17
open PySem PySem.Spec PyProof.Rows L2 Cw
/-- what is needed of a part of a value that is shown -/
structure Fine (p : PyData) (n : Nat) : Prop where
  lay : p.canLay0 = true
  show_ : p.showable = true
  sml : p.intsShort 45 = true
  dep : p.depth ≤ 4
  wt : p.weight ≤ n
structure Fines (ps : List PyData) (n d : Nat) : Prop where
  lay : PyData.canLayAll0 ps = true
  show_ : PyData.showableAll ps = true
  sml : PyData.intsShortAll 45 ps = true
  dep : PyData.depthAll ps ≤ d
  wt : PyData.weightAll ps ≤ n
end K17

namespace K17
open PySem PySem.Spec PyProof.Rows L2 Cw

structure Sh where
  l : Nat
  n : Int
  o : Bool
def Sh.d (s : Sh) : D := .tup [.str (one s.l), .int s.n, .str (bendS s.o)]
def moreS (n : Int) : Str := if n = 0 then "" else if n < 0 then toString n else "+" ++ toString n
def Sh.row (s : Sh) : Str := one s.l ++ moreS s.n ++ " " ++ bendS s.o
def Sh.ok (s : Sh) : Prop := (s.l = 120 ∨ s.l = 121 ∨ s.l = 122) ∧ (-9 ≤ s.n ∧ s.n ≤ 9)
theorem nine {n : Int} (h : -9 ≤ n ∧ n ≤ 9) {P : Int → Prop} (hp : ∀ i : Fin 19, P ((i.val : Int) - 9)) : P n := by
  have := hp ⟨(n + 9).toNat, by omega⟩
  have e : (((⟨(n + 9).toNat, by omega⟩ : Fin 19).val : Nat) : Int) - 9 = n := by simp; omega
  rw [e] at this; exact this
theorem tos_len {n : Int} (h : -9 ≤ n ∧ n ≤ 9) : (toString n : Str).length ≤ 2 := nine (P := fun n => (toString n : Str).length ≤ 2) h (by decide +kernel)
theorem tos_small {n : Int} (h : -9 ≤ n ∧ n ≤ 9) : n.natAbs.log2 < 1920 := by
  have : n.natAbs.log2 < 4 := by
    by_cases h0 : n.natAbs = 0
    · rw [h0]; decide
    · exact (Nat.log2_lt h0).mpr (by omega)
  omega
def S__law_shut_row : Pm := fun c ds Φ => ∃ s, ds = [Sh.d s] ∧ s.ok ∧ Φ (.str s.row) c
section
variable {P : Program} {w : World} {K : PySem.W.Frag} {mg : Str → Option Value} {base : Heap}
set_option maxHeartbeats 8000000 in
theorem ok__law_shut_row (T : Tx K mg) : FnOk P w K mg base CX0 1 T.a__law_shut_row T.d__law_shut_row ["_law_shut"] (spD K 0 1 S__law_shut_row) := by
  refine fnD T.F__law_shut_row sc__law_shut_row fun cdv A outer s H E hr => ⟨_, (psd_cons (psd_asg (pd_v 0) (pgd_tup rfl (pgds_cons (pgd_name (i := 1) sc__law_shut_row.nd) (pgds_cons (pgd_name (i := 2) sc__law_shut_row.nd) (pgds_cons (pgd_name (i := 3) sc__law_shut_row.nd) pgds_nil))))) (psd_one (psd_ret (pd_add (pd_add (pd_add (pd_v 1) (pd_if (pdt_eq hr (pd_v 2) pd_int) pd_str (pd_if (pdt_lt (pd_v 2) pd_int) (pd_strc (pd_v 2) T.n_str) (pd_add pd_str (pd_strc (pd_v 2) T.n_str))))) pd_str) (pd_v 3))))), ?_⟩
  rintro c ds Φ hc - ⟨s, rfl, hs, hΦ⟩
  cases c with
  | cons _ _ => cases hc
  | nil =>
  conv => whnf
  refine ⟨rfl, ?_⟩
  conv => whnf
  refine ⟨rfl, ?_⟩
  conv => whnf
  obtain ⟨l, n, o⟩ := s
  have fin : ∀ z : Str, moreS n = z → z.length ≤ 3 → Φ (D.str (one l ++ z ++ " " ++ bendS o)) [] := fun z e _ => by subst e; exact hΦ
  have hb : (bendS o).length ≤ 3 := by cases o <;> decide
  have hl : (one l).length = 1 := rfl
  have l0 : (Str.ofString "").length = 0 := rfl
  have l1 : (Str.ofString " ").length = 1 := by decide
  have l2 : (Str.ofString "+").length = 1 := by decide
  have hi : (toString n : Str).length ≤ 2 := tos_len hs.2
  split
  · rename_i he
    have hn : n = 0 := of_decide_eq_true he
    conv => whnf
    refine ⟨by show (1 : Nat) + 0 ≤ _; decide, ?_⟩
    conv => whnf
    refine ⟨short (by simp only [Str.length_append]; omega), ?_⟩
    conv => whnf
    refine ⟨short (by simp only [Str.length_append]; omega), ?_⟩
    conv => whnf
    exact fin "" (by unfold moreS; rw [if_pos hn]) (by rw [show ("" : Str).length = 0 from rfl]; omega)
  · rename_i he
    have hn : n ≠ 0 := of_decide_eq_false he
    conv => whnf
    split
    · rename_i h2
      have h2 : n < 0 := of_decide_eq_true h2
      conv => whnf
      refine ⟨tos_small hs.2, ?_⟩
      conv => whnf
      refine ⟨short (by show (one l).length + (toString n : Str).length ≤ 60000; omega), ?_⟩
      conv => whnf
      refine ⟨short (by simp only [Str.length_append]; omega), ?_⟩
      conv => whnf
      refine ⟨short (by simp only [Str.length_append]; omega), ?_⟩
      conv => whnf
      exact fin (toString n) (by unfold moreS; rw [if_neg hn, if_pos h2]) (by omega)
    · rename_i h2
      have h2 : ¬ n < 0 := of_decide_eq_false h2
      conv => whnf
      refine ⟨tos_small hs.2, ?_⟩
      conv => whnf
      refine ⟨short (by show (Str.ofString "+").length + (toString n : Str).length ≤ 60000; omega), ?_⟩
      conv => whnf
      refine ⟨short (by simp only [Str.length_append]; omega), ?_⟩
      conv => whnf
      refine ⟨short (by simp only [Str.length_append]; omega), ?_⟩
      conv => whnf
      refine ⟨short (by simp only [Str.length_append]; omega), ?_⟩
      conv => whnf
      exact fin ("+" ++ toString n) (by unfold moreS; rw [if_neg hn, if_neg h2]) (by rw [Str.length_append]; omega)

end

def shsD (ss : List Sh) : D := .tup (ss.map Sh.d)
def planS (ss : List Sh) : Str := Txt.join ", " (ss.map Sh.row)
def oks (ss : List Sh) : Prop := ss.length ≤ 12 ∧ ∀ s ∈ ss, s.ok
def S__law_plan : Pm := fun c ds Φ => ∃ ss, ds = [shsD ss] ∧ oks ss ∧ Φ (.str (planS ss)) c
theorem shs_ok : ∀ ss : List Sh, okDs 0 (ss.map Sh.d) = true
  | [] => rfl
  | s :: ss => by
    show (okD 0 s.d && okDs 0 (ss.map Sh.d)) = true
    rw [shs_ok ss]; rfl
theorem txts_strs : ∀ ys : List Str, txts (ys.map .str) = some ys
  | [] => rfl
  | y :: ys => by
    show (txts (ys.map .str)).map (y :: ·) = _
    rw [txts_strs ys]; rfl
theorem rrow_len {s : Sh} (h : s.ok) : s.row.length ≤ 8 := by
  have h1 : (one s.l).length = 1 := rfl
  have h2 : (bendS s.o).length ≤ 3 := by cases s.o <;> decide
  have h3 : (moreS s.n).length ≤ 3 := by
    have := tos_len h.2
    have l2 : (Str.ofString "+").length = 1 := by decide
    unfold moreS
    split
    · exact Nat.zero_le _
    · split
      · omega
      · rw [Str.length_append]; omega
  have h4 : (Str.ofString " ").length = 1 := by decide
  unfold Sh.row
  simp only [Str.length_append]
  omega
theorem rows_len : ∀ {ss : List Sh}, (∀ s ∈ ss, s.ok) → ((ss.map Sh.row).map (·.length)).sum ≤ 8 * ss.length
  | [], _ => Nat.le_refl _
  | s :: ss, h => by
    have h1 := rrow_len (h s List.mem_cons_self)
    have h2 := rows_len fun x hx => h x (List.mem_cons_of_mem s hx)
    show s.row.length + ((ss.map Sh.row).map (·.length)).sum ≤ 8 * (ss.length + 1)
    omega
section
variable {P : Program} {w : World} {K : PySem.W.Frag} {mg : Str → Option Value} {base : Heap}
set_option maxHeartbeats 8000000 in
theorem ok__law_plan (T : Tx K mg) : FnOk P w K mg base CX0 2 T.a__law_plan T.d__law_plan ["_law_shuts_here"] (spD K 0 1 S__law_plan) := by
  refine fnD T.F__law_plan sc__law_plan fun cdv A outer s H E hr => ⟨_, (psd_one (psd_ret (pd_join pd_str (pd_lc (i := 1) rfl sc__law_plan.nd (pid_tup (pd_v 0)) (by kernel_rfl) (fun _ _ _ _ _ => pg_name (i := 1) sc__law_plan.nd rfl (Or.inl rfl)) (fun _ _ _ _ _ => ptd_nil) (fun _ _ _ _ _ => (pd_callP (ok__law_shut_row T) (hr.mono (by decide)) T.g__law_shut_row T.F__law_shut_row.kp T.b__law_shut_row pass0 (pds_cons (pd_v 1) pds_nil))))))), ?_⟩
  rintro c ds Φ hc - ⟨ss, rfl, hs, hΦ⟩
  cases c with
  | cons _ _ => cases hc
  | nil =>
  conv => whnf
  refine ⟨_, rfl, ?_⟩
  refine lc_map (c := []) (fun d => match d with | .tup [.str l, .int n, .str b] => .str (l ++ moreS n ++ " " ++ b) | _ => .non) rfl _ ?_ ?_ ?_
  · intro d hd
    obtain ⟨s, hs', rfl⟩ := List.mem_map.mp hd
    refine ⟨rfl, fun acc Ψ _ h => ?_⟩
    conv => whnf
    refine ⟨rfl, rfl, ?_⟩
    exact ⟨s, rfl, hs.2 s hs', h⟩
  · rw [List.length_map]; exact short (by have := hs.1; omega)
  · conv => whnf
    have e : (ss.map Sh.d).map (fun d => match d with | .tup [.str l, .int n, .str b] => D.str (l ++ moreS n ++ " " ++ b) | _ => .non) = (ss.map Sh.row).map .str := by
      rw [List.map_map, List.map_map]; rfl
    rw [e]
    refine ⟨_, txts_strs _, ?_, ?_⟩
    · have h1 := rows_len hs.2
      have h2 : (Str.ofString ", ").length = 2 := by decide
      have h3 := hs.1
      rw [List.length_map, h2]
      show _ ≤ 16777216
      omega
    · exact hΦ

end

theorem rinF_strs (x : Str) (ys : List Str) : inF (.str x) (ys.map .str) = decide (x ∈ ys) := by
  unfold inF inV
  rw [List.map_map, List.any_map]
  show (ys.any fun y => y == x) = _
  rw [Bool.eq_iff_iff]
  simp [List.any_eq_true]
def hasL (ss : List Sh) (k : Nat) : Bool := decide (one k ∈ ss.map fun s => one s.l)
def lettersS (ss : List Sh) : Str := Txt.join "" (([120, 121, 122].filter (hasL ss)).map one)
section
variable {P : Program} {w : World} {K : PySem.W.Frag} {mg : Str → Option Value} {base : Heap}


end

def plusOf (t : Str) : Option Int := if t = "" then some 0 else match numberOf (cutS t (some 1) none) 1 9, atI t.cps.toList 0 with
  | some n, some k => if k ∈ ("+-" : Str).cps.toList then some (if one k = "+" then n else -n) else none
  | _, _ => none
def S_plus_of : Pm := fun c ds Φ => ∃ t, ds = [.str t] ∧ t.length ≤ 5000 ∧ Φ (optI (plusOf t)) c
theorem rcut_len (t : Str) (lo hi : Option Int) : (cutS t lo hi).length ≤ t.length := by
  show (((t.cps.toList.drop _).take _).toArray).size ≤ t.cps.size
  rw [List.size_toArray, List.length_take, List.length_drop, Array.length_toList]
  omega
theorem at0 {t : Str} (h : ¬ t = "") : ∃ k, atI t.cps.toList 0 = some k := by
  cases e : t.cps.toList with
  | nil =>
    refine absurd ?_ h
    cases t with | mk a => 
      have : a = #[] := by
        apply Array.ext'
        exact e
      subst this; rfl
  | cons k r =>
    refine ⟨k, ?_⟩
    unfold atI ixN
    rw [if_pos (by decide), if_pos (by simp)]
    rfl
section
variable {P : Program} {w : World} {K : PySem.W.Frag} {mg : Str → Option Value} {base : Heap}
set_option maxHeartbeats 8000000 in
theorem ok_plus_of (T : Tx K mg) : FnOk P w K mg base CX0 2 T.a_plus_of T.d_plus_of ["text"] (spD K 0 1 S_plus_of) := by
  refine fnD T.F_plus_of sc_plus_of fun cdv A outer s H E hr => ⟨_, (psd_cons (psd_if (pdt_eq hr (pd_v 0) pd_str) (psd_one (psd_ret pd_int)) psd_nil) (psd_cons (psd_set (i := 1) sc_plus_of.nd (pd_callP (ok_number_of T) (hr.mono (by decide)) T.g_number_of T.F_number_of.kp T.b_number_of pass0 (pds_cons (pd_sl (pd_v 0) (po_so pd_int) po_no) (pds_cons pd_int (pds_cons (pd_gi T.c_MOST_PLUS) pds_nil))))) (psd_cons (psd_if (PDw.pt (pdw_or (pdt_isn (pd_v 1) pd_non) (pdw_or1 (pdt_nin hr (pd_ix (pd_v 0) pd_int) pd_str)))) (psd_one (psd_ret pd_non)) psd_nil) (psd_one (psd_ret (pd_if (pdt_eq hr (pd_ix (pd_v 0) pd_int) pd_str) (pd_v 1) (pd_neg (pd_v 1)))))))), ?_⟩
  rintro c ds Φ hc - ⟨t, rfl, ht, hΦ⟩
  cases c with
  | cons _ _ => cases hc
  | nil =>
  conv => whnf
  split
  · rename_i he
    have he : t = "" := of_decide_eq_true he
    conv => whnf
    have : plusOf t = some 0 := by unfold plusOf; rw [if_pos he]
    rw [this] at hΦ
    exact hΦ
  · rename_i he
    have he : ¬ t = "" := of_decide_eq_false he
    conv => whnf
    refine ⟨Nat.le_trans ht (by decide), ?_⟩
    conv => whnf
    refine ⟨rfl, rfl, _, 1, 9, rfl, Nat.le_trans (rcut_len _ _ _) ht, ?_⟩
    have hk : ∃ k, atI t.cps.toList 0 = some k := at0 he
    obtain ⟨k, hk⟩ := hk
    cases e : numberOf (cutS t (some 1) none) 1 9 with
    | none =>
      conv => whnf
      have : plusOf t = none := by unfold plusOf; rw [if_neg he, e]
      rw [this] at hΦ
      exact hΦ
    | some n =>
      conv => whnf
      refine ⟨Nat.le_trans ht (by decide), ?_⟩
      conv => whnf
      rw [hk]
      conv => whnf
      have e2 : plusOf t = if k ∈ ("+-" : Str).cps.toList then some (if one k = "+" then n else -n) else none := by unfold plusOf; rw [if_neg he, e, hk]
      split
      · rename_i h2
        have h2 : ¬ k ∈ ("+-" : Str).cps.toList := by simpa [inS] using h2
        rw [e2, if_neg h2] at hΦ
        exact hΦ
      · rename_i h2
        have h2 : k ∈ ("+-" : Str).cps.toList := by simpa [inS] using h2
        rw [e2, if_pos h2] at hΦ
        conv => whnf
        refine ⟨Nat.le_trans ht (by decide), ?_⟩
        conv => whnf
        rw [hk]
        conv => whnf
        split
        · rename_i h3
          rw [if_pos (of_decide_eq_true h3)] at hΦ
          exact hΦ
        · rename_i h3
          rw [if_neg (of_decide_eq_false h3)] at hΦ
          exact hΦ

end

theorem spl_len (S : List Nat) : ∀ (l : List Nat) (k : Nat) (acc : List Nat), ∀ p ∈ TL.spl S k acc l, p.length ≤ acc.length + l.length
  | [], k, acc, p, h => by
    rw [TL.spl_nil] at h
    rw [List.mem_singleton.mp h]; simp
  | c :: r, 0, acc, p, h => by
    cases e : TL.pre S (c :: r) with
    | true =>
      rw [TL.spl_hit e] at h
      rcases List.mem_cons.mp h with rfl | h
      · simp
      · have := spl_len S r _ _ p h
        simp at this ⊢; omega
    | false =>
      rw [TL.spl_miss e] at h
      have := spl_len S r _ _ p h
      simp at this ⊢; omega
  | c :: r, k + 1, acc, p, h => by
    have := spl_len S r k acc p h
    simp at this ⊢; omega
theorem split_len {t y : Str} (hy : TL.tl y ≠ []) (hk : y.cps.all (· < 256) = true) {p : Str} (h : p ∈ Txt.split t y) : p.length ≤ t.length := by
  have h1 : TL.tl p ∈ TL.spl (TL.tl y) 0 [] (TL.tl t) := by
    rw [← TL.split_spl t y hy (TL.kind_ok hk)]
    exact List.mem_map.mpr ⟨p, h, rfl⟩
  have := spl_len _ _ _ _ _ h1
  rw [TL.len_tl, TL.len_tl]
  simpa using this
theorem nd_t {P : Prop} [Decidable P] (h : (!decide P) = true) : ¬ P := fun hp => by rw [decide_eq_true hp] at h; cases h
theorem nd_f {P : Prop} [Decidable P] (h : (!decide P) = false) : P := Decidable.byContradiction fun hp => by rw [decide_eq_false hp] at h; cases h
def sideOf (t : Str) : Option (Nat × Int × Str) := match Txt.split t " " with
  | [a, b] => if cutS a none (some 1) ∈ (["x", "y", "z"] : List Str) ∧ b ∈ (["out", "in"] : List Str) then match plusOf (cutS a (some 1) none), atI a.cps.toList 0 with
    | some n, some k => some (k, n, b)
    | _, _ => none else none
  | _ => none
def sideD : Option (Nat × Int × Str) → D
  | none => .non
  | some (k, n, b) => .tup [.str (one k), .int n, .str b]
def S_side_of : Pm := fun c ds Φ => ∃ t, ds = [.str t] ∧ t.length ≤ 5000 ∧ Φ (sideD (sideOf t)) c
section
variable {P : Program} {w : World} {K : PySem.W.Frag} {mg : Str → Option Value} {base : Heap}
set_option maxHeartbeats 8000000 in
theorem ok_side_of (T : Tx K mg) : FnOk P w K mg base CX0 3 T.a_side_of T.d_side_of ["text"] (spD K 0 1 S_side_of) := by
  refine fnD T.F_side_of sc_side_of fun cdv A outer s H E hr => ⟨_, (psd_cons (psd_set (i := 1) sc_side_of.nd (pd_split (pd_v 0) pd_str)) (psd_cons (psd_if (PDw.pt (pdw_or (pdt_ne hr (pd_len (pd_v 1) T.n_len) pd_int) (pdw_or (pdt_nin hr (pd_sl (pd_ix (pd_v 1) pd_int) po_no (po_so pd_int)) (pd_gtt T.c_SIDE_LETTERS)) (pdw_or1 (pdt_nin hr (pd_ix (pd_v 1) pd_int) (pd_gtt T.c_TURNS)))))) (psd_one (psd_ret pd_non)) psd_nil) (psd_cons (psd_set (i := 2) sc_side_of.nd (pd_callP (ok_plus_of T) (hr.mono (by decide)) T.g_plus_of T.F_plus_of.kp T.b_plus_of pass0 (pds_cons (pd_sl (pd_ix (pd_v 1) pd_int) (po_so pd_int) po_no) pds_nil))) (psd_cons (psd_if (pdt_isn (pd_v 2) pd_non) (psd_one (psd_ret pd_non)) psd_nil) (psd_one (psd_ret (pd_tup (pds_cons (pd_ix (pd_ix (pd_v 1) pd_int) pd_int) (pds_cons (pd_v 2) (pds_cons (pd_ix (pd_v 1) pd_int) pds_nil)))))))))), ?_⟩
  rintro c ds Φ hc - ⟨t, rfl, ht, hΦ⟩
  cases c with
  | cons _ _ => cases hc
  | nil =>
  conv => whnf
  refine ⟨t, rfl, ?_⟩
  conv => whnf
  refine ⟨rfl, Nat.le_trans (Nat.add_le_add_right ht 2) (by decide), ?_⟩
  have hlen : ∀ p ∈ Txt.split t " ", p.length ≤ 5000 := fun p hp => Nat.le_trans (split_len (by decide +kernel) (by decide +kernel) hp) ht
  have no : (∀ a b, Txt.split t " " ≠ [a, b]) → sideOf t = none := fun h => by
    unfold sideOf
    split
    · rename_i a b e
      exact absurd e (h a b)
    · rfl
  have yes : ∀ a b, Txt.split t " " = [a, b] → sideOf t = if cutS a none (some 1) ∈ (["x", "y", "z"] : List Str) ∧ b ∈ (["out", "in"] : List Str) then match plusOf (cutS a (some 1) none), atI a.cps.toList 0 with
    | some n, some k => some (k, n, b)
    | _, _ => none else none := fun a b h => by
    unfold sideOf
    rw [h]
  have e0 : Txt.split t (Str.ofString " ") = Txt.split t " " := rfl
  rw [e0]
  generalize Txt.split t " " = ws at *
  have bad : (∀ a b, ws ≠ [a, b]) → Φ .non [] := fun h => by
    rw [no h] at hΦ; exact hΦ
  match ws, hlen, yes, bad with
  | [], _, _, bad =>
    conv => whnf
    exact bad fun _ _ e => by cases e
  | [a], _, _, bad =>
    conv => whnf
    exact bad fun _ _ e => by cases e
  | a :: b :: x :: r, _, _, bad =>
    conv => whnf
    exact bad fun _ _ e => by cases e
  | [a, b], hlen, yes, bad =>
    have ha := hlen a (by simp)
    have hb := hlen b (by simp)
    have yes := yes a b rfl
    conv => whnf
    refine ⟨Nat.le_trans ha (by decide), ?_⟩
    conv => whnf
    refine .inl ⟨_, rfl, rfl, rfl, ?_⟩
    conv => whnf
    split
    · rename_i h1
      have h1 : ¬ cutS a none (some 1) ∈ (["x", "y", "z"] : List Str) := by
        have h1 : (!inF (.str (cutS a none (some 1))) ((["x", "y", "z"] : List Str).map .str)) = true := h1
        rw [rinF_strs] at h1
        exact nd_t h1
      rw [yes, if_neg fun z => h1 z.1] at hΦ
      conv => whnf
      exact hΦ
    · rename_i h1
      have h1 : cutS a none (some 1) ∈ (["x", "y", "z"] : List Str) := by
        have h1 : (!inF (.str (cutS a none (some 1))) ((["x", "y", "z"] : List Str).map .str)) = false := h1
        rw [rinF_strs] at h1
        exact nd_f h1
      conv => whnf
      refine .inl ⟨_, rfl, rfl, rfl, ?_⟩
      conv => whnf
      split
      · rename_i h2
        have h2 : ¬ b ∈ (["out", "in"] : List Str) := by
          have h2 : (!inF (.str b) ((["out", "in"] : List Str).map .str)) = true := h2
          rw [rinF_strs] at h2
          exact nd_t h2
        rw [yes, if_neg fun z => h2 z.2] at hΦ
        conv => whnf
        exact hΦ
      · rename_i h2
        have h2 : b ∈ (["out", "in"] : List Str) := by
          have h2 : (!inF (.str b) ((["out", "in"] : List Str).map .str)) = false := h2
          rw [rinF_strs] at h2
          exact nd_f h2
        rw [yes, if_pos ⟨h1, h2⟩] at hΦ
        conv => whnf
        refine ⟨Nat.le_trans ha (by decide), ?_⟩
        conv => whnf
        refine ⟨rfl, rfl, _, rfl, Nat.le_trans (rcut_len _ _ _) ha, ?_⟩
        have hk : ∃ k, atI a.cps.toList 0 = some k := at0 (by
          rintro rfl
          revert h1
          decide +kernel)
        obtain ⟨k, hk⟩ := hk
        cases e : plusOf (cutS a (some 1) none) with
        | none =>
          rw [e] at hΦ
          conv => whnf
          exact hΦ
        | some n =>
          rw [e, hk] at hΦ
          conv => whnf
          refine ⟨Nat.le_trans ha (by decide), ?_⟩
          conv => whnf
          rw [hk]
          conv => whnf
          refine ⟨by show 3 ≤ sizeLine; decide, ?_⟩
          conv => whnf
          exact hΦ

end

theorem plus_more {n : Int} (h : -9 ≤ n ∧ n ≤ 9) : plusOf (moreS n) = some n := nine (P := fun n => plusOf (moreS n) = some n) h (by decide +kernel)
theorem more_tl {n : Int} (h : -9 ≤ n ∧ n ≤ 9) : 32 ∉ TL.tl (moreS n) ∧ 44 ∉ TL.tl (moreS n) := nine (P := fun n => 32 ∉ TL.tl (moreS n) ∧ 44 ∉ TL.tl (moreS n)) h (by decide +kernel)
theorem row_join (s : Sh) : s.row = Txt.join " " [one s.l ++ moreS s.n, bendS s.o] := by
  refine TL.ext_tl ?_
  rw [TL.join_eq, TL.tl_join]
  unfold Sh.row
  rw [TL.tl_append, TL.tl_append]
  show (TL.tl _ ++ TL.tl _) ++ TL.tl _ = TL.tl _ ++ (TL.tl _ ++ TL.tl _)
  rw [List.append_assoc]
theorem row_split {s : Sh} (h : s.ok) : Txt.split s.row " " = [one s.l ++ moreS s.n, bendS s.o] := by
  rw [row_join]
  refine TL.split_join (s := 32) (S := []) (by decide +kernel) (by decide +kernel) (by simp) fun p hp => ?_
  rcases List.mem_cons.mp hp with rfl | hp
  · rw [TL.tl_append]
    intro z
    rcases List.mem_append.mp z with z | z
    · have z : 32 ∈ [s.l] := z
      have := List.mem_singleton.mp z
      have := h.1; omega
    · exact (more_tl h.2).1 z
  · rw [List.mem_singleton.mp hp]
    cases s.o <;> decide +kernel
theorem one_cut (l : Nat) (z : Str) : cutS (one l ++ z) none (some 1) = one l ∧ cutS (one l ++ z) (some 1) none = z ∧ atI (one l ++ z).cps.toList 0 = some l := by
  have e : (one l ++ z).cps.toList = l :: z.cps.toList := TL.tl_append (one l) z
  have el : (one l ++ z).length = z.length + 1 := by rw [Str.length_append]; show 1 + _ = _; omega
  refine ⟨TL.ext_tl ?_, TL.ext_tl ?_, ?_⟩
  · show ((((one l ++ z).cps.toList).drop _).take _) = [l]
    rw [e, el]
    show ((l :: z.cps.toList).drop 0).take (min 1 (z.length + 1) - 0) = [l]
    rw [show min 1 (z.length + 1) - 0 = 1 by omega]
    rfl
  · show ((((one l ++ z).cps.toList).drop _).take _) = z.cps.toList
    rw [e, el]
    show ((l :: z.cps.toList).drop (min 1 (z.length + 1))).take ((z.length + 1) - min 1 (z.length + 1)) = z.cps.toList
    rw [show min 1 (z.length + 1) = 1 by omega]
    show z.cps.toList.take (z.length + 1 - 1) = _
    rw [List.take_of_length_le]
    rw [Array.length_toList]
    exact Nat.le_refl _
  · unfold atI ixN
    rw [e, if_pos (by decide), if_pos (by simp)]
    rfl
theorem side_row {s : Sh} (h : s.ok) : sideOf s.row = some (s.l, s.n, bendS s.o) := by
  unfold sideOf
  rw [row_split h]
  obtain ⟨h1, h2, h3⟩ := one_cut s.l (moreS s.n)
  dsimp only
  rw [h1, h2, h3, plus_more h.2, if_pos]
  refine ⟨?_, ?_⟩
  · rcases h.1 with e | e | e <;> rw [e] <;> decide +kernel
  · cases s.o <;> decide +kernel
theorem row_comma {s : Sh} (h : s.ok) : 44 ∉ TL.tl s.row := by
  unfold Sh.row
  rw [TL.tl_append, TL.tl_append, TL.tl_append]
  intro z
  rcases List.mem_append.mp z with z | z
  · rcases List.mem_append.mp z with z | z
    · rcases List.mem_append.mp z with z | z
      · have z : 44 ∈ [s.l] := z
        have := List.mem_singleton.mp z
        have := h.1; omega
      · exact (more_tl h.2).2 z
    · revert z; decide +kernel
  · revert z
    cases s.o <;> decide +kernel
theorem plan_split {ss : List Sh} (h : oks ss) (hn : ss ≠ []) : Txt.split (planS ss) ", " = ss.map Sh.row :=
  TL.split_join (s := 44) (S := [32]) (by decide +kernel) (by decide +kernel) (fun z => hn (List.map_eq_nil_iff.mp z)) fun p hp => by
    obtain ⟨s, hs, rfl⟩ := List.mem_map.mp hp
    exact row_comma (h.2 s hs)

theorem plan_len {ss : List Sh} (h : oks ss) : (planS ss).length ≤ 200 := by
  have h1 := join_len (", " : Str) (ss.map Sh.row)
  have h2 := rows_len h.2
  have h3 : (", " : Str).length = 2 := by decide
  have h4 := h.1
  rw [List.length_map, h3] at h1
  unfold planS
  omega
def Sh.py (s : Sh) : PyData := .tuple [.str (one s.l), .int s.n, .str (bendS s.o)]
theorem pys_shs : ∀ ss : List Sh, D.pys (ss.map Sh.d) = some (ss.map Sh.py)
  | [] => rfl
  | s :: ss => by
    show (match D.py s.d, D.pys (ss.map Sh.d) with | some p, some ps => some (p :: ps) | _, _ => none) = _
    rw [pys_shs ss]; rfl
theorem lay_shs : ∀ {ss : List Sh}, (∀ s ∈ ss, s.ok) → PyData.canLayAll0 (ss.map Sh.py) = true
  | [], _ => rfl
  | s :: ss, h => by
    have h1 : s.py.canLay0 = true := by
      have hl := (h s List.mem_cons_self).1
      show (PyData.strOk (one s.l) && (true && (PyData.strOk (bendS s.o) && true))) = true
      have e1 : PyData.strOk (one s.l) = true := by rcases hl with e | e | e <;> rw [e] <;> decide +kernel
      have e2 : PyData.strOk (bendS s.o) = true := by cases s.o <;> decide +kernel
      rw [e1, e2]; rfl
    show (s.py.canLay0 && PyData.canLayAll0 (ss.map Sh.py)) = true
    rw [h1, lay_shs fun x hx => h x (List.mem_cons_of_mem s hx)]; rfl
theorem dep_shs : ∀ ss : List Sh, PyData.depthAll (ss.map Sh.py) ≤ 1
  | [] => Nat.zero_le _
  | s :: ss => by
    show max 1 (PyData.depthAll (ss.map Sh.py)) ≤ 1
    have := dep_shs ss
    omega
theorem shaped_shs {ss : List Sh} (h : ∀ s ∈ ss, s.ok) : SeqAt.shaped (.list (ss.map Sh.py)) = true := by
  show (PyData.canLayAll0 (ss.map Sh.py) && decide (PyData.depthAll (ss.map Sh.py) + 1 ≤ 64)) = true
  have := dep_shs ss
  rw [lay_shs h, decide_eq_true (by omega)]; rfl
theorem any_shs (ss : List Sh) : ((ss.map Sh.py).any fun z => PyData.eqv z .none) = false := by
  rw [List.any_eq_false]
  intro x hx
  obtain ⟨s, _, rfl⟩ := List.mem_map.mp hx
  have e : s.py.eqv .none = false := rfl
  rw [e]; decide
def S_sides_of : Pm := fun c ds Φ => ∃ ss, ds = [.str (planS ss)] ∧ oks ss ∧ ss ≠ [] ∧ Φ (shsD ss) c
section
variable {P : Program} {w : World} {K : PySem.W.Frag} {mg : Str → Option Value} {base : Heap}
set_option maxHeartbeats 8000000 in
theorem ok_sides_of (T : Tx K mg) : FnOk P w K mg base CX0 4 T.a_sides_of T.d_sides_of ["text"] (spD K 0 1 S_sides_of) := by
  refine fnD T.F_sides_of sc_sides_of fun cdv A outer s H E hr => ⟨_, (psd_cons (psd_if (pdt_not (pdt_val (pd_isi isi_str (.ty "str") (pd_v 0) (pe_bltn rfl T.n_str (by decide +kernel) rfl) T.n_isinstance))) (psd_one (psd_ret pd_non)) psd_nil) (psd_cons (psd_set (i := 1) sc_sides_of.nd (pd_tuplec (pd_lc (i := 2) rfl sc_sides_of.nd (pid_list (pd_split (pd_v 0) pd_str)) (by kernel_rfl) (fun _ _ _ _ _ => pg_name (i := 2) sc_sides_of.nd rfl (Or.inl rfl)) (fun _ _ _ _ _ => ptd_nil) (fun _ _ _ _ _ => (pd_callP (ok_side_of T) (hr.mono (by decide)) T.g_side_of T.F_side_of.kp T.b_side_of pass0 (pds_cons (pd_v 2) pds_nil)))) T.n_tuple)) (psd_cons (psd_if (PDw.pt (pdw_or (pdt_gt (pd_len (pd_v 1) T.n_len) (pd_gi T.c_MOST_SIDES)) (pdw_or1 (pdt_in hr pd_non (pd_v 1))))) (psd_one (psd_ret pd_non)) psd_nil) (psd_one (psd_ret (pd_v 1)))))), ?_⟩
  rintro c ds Φ hc - ⟨ss, rfl, hs, hn, hΦ⟩
  cases c with
  | cons _ _ => cases hc
  | nil =>
  have hpl := plan_len hs
  conv => whnf
  refine ⟨.str, true, rfl, rfl, ?_⟩
  conv => whnf
  refine ⟨_, rfl, ?_⟩
  conv => whnf
  refine ⟨by decide +kernel, short (by omega), ?_⟩
  conv => whnf
  have e0 : Txt.split (planS ss) (Str.ofString ", ") = ss.map Sh.row := plan_split hs hn
  rw [e0]
  refine lc_map (c := []) (fun d => match d with | .str t => sideD (sideOf t) | _ => .non) rfl _ ?_ ?_ ?_
  · intro d hd
    obtain ⟨t, ht, rfl⟩ := List.mem_map.mp hd
    obtain ⟨s, hs', rfl⟩ := List.mem_map.mp ht
    refine ⟨?_, fun acc Ψ _ h => ?_⟩
    · show okD 0 (sideD (sideOf s.row)) = true
      rw [side_row (hs.2 s hs')]; rfl
    · conv => whnf
      refine ⟨rfl, rfl, ?_⟩
      exact ⟨_, rfl, Nat.le_trans (rrow_len (hs.2 s hs')) (by decide), h⟩
  · rw [List.length_map, List.length_map]; exact short (by have := hs.1; omega)
  · have e : ((ss.map Sh.row).map D.str).map (fun d => match d with | .str t => sideD (sideOf t) | _ => .non) = ss.map Sh.d := by
      rw [List.map_map, List.map_map]
      refine List.map_congr_left fun s hs' => ?_
      show sideD (sideOf s.row) = s.d
      rw [side_row (hs.2 s hs')]; rfl
    rw [e]
    conv => whnf
    have hle : decide ((12 : Int) < ((ss.map Sh.d).length : Nat)) = false := decide_eq_false (by rw [List.length_map]; have := hs.1; omega)
    split
    · rename_i h
      exact absurd (hle.symm.trans h) (by decide)
    · conv => whnf
      refine .inr ⟨.none, _, _, rfl, rfl, pys_shs ss, by decide, shaped_shs hs.2, ?_⟩
      have e2 := any_shs ss
      conv => whnf
      split
      · rename_i h
        exact absurd (e2.symm.trans h) (by decide)
      · conv => whnf
        exact hΦ

end
end K17

namespace K17
open PySem PySem.Spec PyProof.Rows L2 Cw
def roomD (C : Addr) (t : Str) (rows : D) (al : Str) : D := .ins C ["whole", "rows", "alphabet"] [.str t, rows, .str al]
def S_Room___len__ (C : Addr) : Pm := fun c ds Φ => ∃ t rows al, ds = [roomD C t (.tup rows) al] ∧ Φ (.int rows.length) c
def S_Room___init__ (C : Addr) : Pm := fun c ds Φ => ∃ ss, c = [.obj C [] []] ∧ ds = [.cell 0, .str (planS ss)] ∧ oks ss ∧ ss ≠ [] ∧ Φ .non [.obj C ["whole", "rows", "alphabet"] [.str (planS ss), shsD ss, .str (lettersS ss)]]
theorem sort3 {ss : List Sh} (h : oks ss) {zs : List Str} (h1 : zs.Nodup) (h2 : sortedS zs = true) (h3 : ∀ x, x ∈ zs ↔ x ∈ ss.map fun s => one s.l) : zs = ([120, 121, 122].filter (hasL ss)).map one := by
  have e : hasL ss = fun k => decide (one k ∈ zs) := by
    funext k
    unfold hasL
    by_cases hk : one k ∈ zs
    · rw [decide_eq_true hk, decide_eq_true ((h3 _).mp hk)]
    · rw [decide_eq_false hk, decide_eq_false fun z => hk ((h3 _).mpr z)]
  have hk : ∀ x ∈ zs, x = one 120 ∨ x = one 121 ∨ x = one 122 := fun x hx => by
    obtain ⟨s, hs, rfl⟩ := List.mem_map.mp ((h3 x).mp hx)
    rcases (h.2 s hs).1 with e | e | e <;> rw [e] <;> simp
  rw [e]
  clear h3 e
  match zs, h1, h2, hk with
  | [], _, _, _ => decide +kernel
  | [a], h1, h2, hk =>
    rcases hk a (by simp) with rfl | rfl | rfl <;> decide +kernel
  | [a, b], h1, h2, hk =>
    rcases hk a (by simp) with rfl | rfl | rfl <;> rcases hk b (by simp) with rfl | rfl | rfl <;> first | decide +kernel | exact absurd h2 (by decide +kernel) | exact absurd h1 (by decide +kernel)
  | [a, b, c], h1, h2, hk =>
    rcases hk a (by simp) with rfl | rfl | rfl <;> rcases hk b (by simp) with rfl | rfl | rfl <;> rcases hk c (by simp) with rfl | rfl | rfl <;> first | decide +kernel | exact absurd h2 (by decide +kernel) | exact absurd h1 (by decide +kernel)
  | a :: b :: c :: d :: r, h1, _, hk =>
    exfalso
    have n1 := (List.nodup_cons.mp h1)
    have n2 := (List.nodup_cons.mp n1.2)
    have n3 := (List.nodup_cons.mp n2.2)
    have m1 : b ≠ a := fun z => n1.1 (by simp [z])
    have m2 : c ≠ a := fun z => n1.1 (by simp [z])
    have m3 : d ≠ a := fun z => n1.1 (by simp [z])
    have m4 : c ≠ b := fun z => n2.1 (by simp [z])
    have m5 : d ≠ b := fun z => n2.1 (by simp [z])
    have m6 : d ≠ c := fun z => n3.1 (by simp [z])
    rcases hk a (by simp) with rfl | rfl | rfl <;> rcases hk b (by simp) with rfl | rfl | rfl <;> first | exact m1 rfl | skip
    all_goals rcases hk c (by simp) with rfl | rfl | rfl <;> first | exact m2 rfl | exact m4 rfl | skip
    all_goals rcases hk d (by simp) with rfl | rfl | rfl <;> first | exact m3 rfl | exact m5 rfl | exact m6 rfl
section
variable {P : Program} {w : World} {K : PySem.W.Frag} {mg : Str → Option Value} {base : Heap}
set_option maxHeartbeats 8000000 in
theorem ok_Room___len__ (T : Tx K mg) : FnOk P w K mg base CX0 1 T.a_Room___len__ T.d_Room___len__ ["self"] (spD K 0 1 (S_Room___len__ T.C_Room)) := by
  refine fnD T.F_Room___len__ sc_Room___len__ fun cdv A outer s H E hr => ⟨_, (psd_one (psd_ret (pd_len (pd_fld T.cl_Room T.na_rows (pd_v 0)) T.n_len))), ?_⟩
  rintro c ds Φ hc - ⟨t, rows, al, rfl, hΦ⟩
  cases c with
  | cons _ _ => cases hc
  | nil =>
  conv => whnf
  refine ⟨rfl, _, rfl, ?_⟩
  conv => whnf
  exact hΦ
set_option maxHeartbeats 8000000 in
theorem ok_Room___init__ (T : Tx K mg) : FnOk P w K mg base CX0 6 T.a_Room___init__ T.d_Room___init__ ["self", "text"] (spD K 1 2 (S_Room___init__ T.C_Room)) := by
  refine fnD T.F_Room___init__ sc_Room___init__ fun cdv A outer s H E hr => ⟨_, (psd_cons (psd_set (i := 2) sc_Room___init__.nd (pd_callP (ok_sides_of T) (hr.mono (by decide)) T.g_sides_of T.F_sides_of.kp T.b_sides_of pass0 (pds_cons (pd_v 1) pds_nil))) (psd_cons (psd_if (pdt_isn (pd_v 2) pd_non) (psd_one psd_never) psd_nil) (psd_cons (psd_stf T.cl_Room T.na_Room_whole (pd_v 0) (pd_v 1)) (psd_cons (psd_stf T.cl_Room T.na_rows (pd_v 0) (pd_v 2)) (psd_one (psd_stf T.cl_Room T.na_alphabet (pd_v 0) (pd_join pd_str (pd_sortSet T.n_sorted rfl sc_Room___init__.nd (pid_tup (pd_v 2)) (by kernel_rfl) (fun _ _ _ _ _ => pg_name (i := 3) sc_Room___init__.nd rfl (Or.inl rfl)) (fun _ _ _ _ _ => (pd_ix (pd_v 3) pd_int)))))))))), ?_⟩
  rintro c ds Φ hc - ⟨ss, rfl, rfl, hs, hn, hΦ⟩
  conv => whnf
  refine ⟨rfl, rfl, ss, rfl, hs, hn, ?_⟩
  conv => whnf
  refine ⟨0, [], [], rfl, rfl, by decide, ?_⟩
  conv => whnf
  refine ⟨0, _, _, rfl, rfl, by show (1 : Nat) < 1000; decide, ?_⟩
  conv => whnf
  refine ⟨_, rfl, ?_⟩
  conv => whnf
  refine ⟨ss.map fun s => one s.l, by rw [List.length_map, List.length_map], by rw [List.length_map]; have := hs.1; omega, ?_, fun zs hz1 hz2 hz3 => ?_⟩
  · intro j d y hd hy Ψ h
    rw [List.getElem?_map] at hd hy
    cases e : ss[j]? with
    | none => rw [e] at hd; cases hd
    | some s =>
      rw [e] at hd hy
      cases hd; cases hy
      exact h
  · have ez : zs = ([120, 121, 122].filter (hasL ss)).map one := sort3 hs hz1 hz2 hz3
    conv => whnf
    refine ⟨zs, txts_strs zs, ?_, ?_⟩
    · have h2 : ([120, 121, 122].filter (hasL ss)).length ≤ 3 := List.length_filter_le _ _
      have h3 : ∀ l : List Nat, ((l.map one).map (·.length)).sum = l.length := fun l => by
        induction l with
        | nil => rfl
        | cons a l ih =>
          show (1 : Nat) + ((l.map one).map (·.length)).sum = l.length + 1
          rw [ih]; omega
      rw [ez, h3, List.length_map, show (Str.ofString "").length = 0 from rfl]
      omega
    · have e1 : Txt.join (Str.ofString "") zs = lettersS ss := by rw [ez]; rfl
      rw [e1]
      conv => whnf
      refine ⟨0, _, _, rfl, rfl, by show (2 : Nat) < 1000; decide, ?_⟩
      conv => whnf
      exact hΦ

end
end K17

namespace K17
open PySem PySem.Spec PyProof.Rows L2 Cw
def PN : List Str := ["shelf", "row", "behind", "many"]
def PD0 : List D := [.dct [] [], .tup [], .non, .int 0]
def bookD (C CP a : Addr) : D := .ins C ["page"] [.insA a CP PN PD0]
def S_Page___init__ (C : Addr) : Pm := fun c ds Φ => c = [.obj C [] []] ∧ ds = [.cell 0, .dct [] [], .tup [], .non] ∧ Φ .non [.obj C PN PD0]
def S_Book___init__ (C CP : Addr) : Pm := fun c ds Φ => c = [.obj C [] []] ∧ ds = [.cell 0] ∧ ∀ a, Φ .non [.obj C ["page"] [.insA a CP PN PD0]]
def S_Book___len__ (C CP : Addr) : Pm := fun c ds Φ => ∃ a, ds = [bookD C CP a] ∧ Φ (.int 0) c
def S_Book___bool__ (C CP : Addr) : Pm := fun c ds Φ => ∃ a, ds = [bookD C CP a] ∧ Φ (.bl true) c
/-- d is of another kind -/
def other (C : Addr) (Ds : List Addr) (d : D) : Prop := ∃ t, tyD d = some t ∧ gOwnX C Ds t = some false
def pB (C : Addr) (Ds : List Addr) (d1 d2 : D) (b : Bool) : Prop := ∃ t m ps js st nm, d1 = bordD C (.str t) m ps js st nm ∧ ((∃ t' m' ps' js' st' nm', d2 = bordD C (.str t') m' ps' js' st' nm' ∧ b = decide (t = t')) ∨ (other C Ds d2 ∧ b = false))
def pR (C : Addr) (Ds : List Addr) (d1 d2 : D) (b : Bool) : Prop := ∃ t r al, d1 = roomD C t r al ∧ ((∃ t' r' al', d2 = roomD C t' r' al' ∧ b = decide (t = t')) ∨ (other C Ds d2 ∧ b = false))
def pK (C CP : Addr) (Ds : List Addr) (d1 d2 : D) (b : Bool) : Prop := ∃ a, d1 = bookD C CP a ∧ ((∃ a', d2 = bookD C CP a' ∧ a ≠ a' ∧ b = false) ∨ (other C Ds d2 ∧ b = false))
def Sq_Borders (C : Addr) (Ds : List Addr) : Pm := fun c ds Φ => ∃ d1 d2 b, ds = [d1, d2] ∧ pB C Ds d1 d2 b ∧ Φ (.bl b) c
def Sq_Room (C : Addr) (Ds : List Addr) : Pm := fun c ds Φ => ∃ d1 d2 b, ds = [d1, d2] ∧ pR C Ds d1 d2 b ∧ Φ (.bl b) c
def Sq_Book (C CP : Addr) (Ds : List Addr) : Pm := fun c ds Φ => ∃ d1 d2 b, ds = [d1, d2] ∧ pK C CP Ds d1 d2 b ∧ Φ (.bl b) c
theorem pB_S {C : Addr} {Ds : List Addr} : ∀ d1 d2 b, pB C Ds d1 d2 b → (∃ ns ds, d1 = .ins C ns ds) ∧ ∀ Φ : D → List Cell → Prop, Φ (.bl b) [] → Sq_Borders C Ds [] [d1, d2] Φ := fun d1 d2 b h =>
  ⟨by obtain ⟨t, m, ps, js, st, nm, rfl, _⟩ := h; exact ⟨_, _, rfl⟩, fun Φ hΦ => ⟨d1, d2, b, rfl, h, hΦ⟩⟩
theorem pR_S {C : Addr} {Ds : List Addr} : ∀ d1 d2 b, pR C Ds d1 d2 b → (∃ ns ds, d1 = .ins C ns ds) ∧ ∀ Φ : D → List Cell → Prop, Φ (.bl b) [] → Sq_Room C Ds [] [d1, d2] Φ := fun d1 d2 b h =>
  ⟨by obtain ⟨t, r, al, rfl, _⟩ := h; exact ⟨_, _, rfl⟩, fun Φ hΦ => ⟨d1, d2, b, rfl, h, hΦ⟩⟩
theorem pK_S {C CP : Addr} {Ds : List Addr} : ∀ d1 d2 b, pK C CP Ds d1 d2 b → (∃ ns ds, d1 = .ins C ns ds) ∧ ∀ Φ : D → List Cell → Prop, Φ (.bl b) [] → Sq_Book C CP Ds [] [d1, d2] Φ := fun d1 d2 b h =>
  ⟨by obtain ⟨a, rfl, _⟩ := h; exact ⟨_, _, rfl⟩, fun Φ hΦ => ⟨d1, d2, b, rfl, h, hΦ⟩⟩
def pA (B R Bk Pg : Addr) (d1 d2 : D) (b : Bool) : Prop := (pB B [R, Bk] d1 d2 b ∨ pR R [B, Bk] d1 d2 b) ∨ pK Bk Pg [B, R] d1 d2 b
def S__law_shuts : Pm := fun c ds Φ => ∃ a b k r, c = [spr a b k] ∧ ds = [.cell 0, .int 12, .int r, .int 9] ∧ B3 a b k 1000 ∧ (1 ≤ r ∧ r ≤ 3) ∧
  ∀ ss a' b' k', oks ss → ss ≠ [] → B3 a' b' k' 1049 → Φ (shsD ss) [spr a' b' k']
def S__law_pair (K : PySem.W.Frag) (P : D → D → Bool → Prop) : Pm := fun c ds Φ => ∃ d1 d2 b, ds = [d1, d2, .bl b] ∧ okDs 0 [d1, d2] = true ∧ EqP K P d1 d2 b ∧ EqP K P d2 d1 b ∧ Φ (.bl true) c
def S__law_right : Pm := fun c ds Φ => ∃ a b k, c = [spr a b k] ∧ ds = [.cell 0] ∧ B3 a b k 0 ∧ ∀ a' b' k', Φ (.bl true) [spr a' b' k']
theorem ty_vw {c : List Cell} {d : D} {t : Ty} (h : tyD d = some t) : tyD (vw c d) = tyD d := by
  cases d <;> first | rfl | (cases h; done)
theorem b4 (a b c d : Bool) : Showy (.list [.bool a, .bool b, .bool c, .bool d]) := by
  refine ⟨by decide +revert, by decide +revert, by decide +revert, ?_⟩
  have : (PyData.list [.bool a, .bool b, .bool c, .bool d]).shown.length ≤ 40 := by decide +revert
  exact Nat.le_trans this (by decide)
theorem spec_call {a b k lim : Int} {rest : List Cell} {Φ : D → List Cell → Prop} (hB : B3 a b k lim) (hl : lim ≤ 2500)
    (h : ∀ (s : Sp) a' b' k', s.ok → B3 a' b' k' (lim + 400) → Φ s.d (spr a' b' k' :: rest)) : callM S__law_spec [.cell 0] (spr a b k :: rest) Φ :=
  ⟨spr a b k, rfl, rfl, rfl, a, b, k, lim, rfl, rfl, hB, hl, fun s a' b' k' h1 h2 => ⟨rfl, (Bool.and_eq_true_iff.mp (sp_ok s)).1, h s a' b' k' h1 h2⟩⟩
theorem shuts_call {a b k lim : Int} {rest : List Cell} {Φ : D → List Cell → Prop} (hB : B3 a b k lim) (hl : lim ≤ 1000)
    (h : ∀ ss a' b' k', oks ss → ss ≠ [] → B3 a' b' k' 1049 → Φ (shsD ss) (spr a' b' k' :: rest)) : callM S__law_shuts [.cell 0, .int 12, .int 3, .int 9] (spr a b k :: rest) Φ :=
  ⟨spr a b k, rfl, rfl, rfl, a, b, k, 3, rfl, rfl, hB.up hl, by decide, fun ss a' b' k' h1 h2 h3 => ⟨rfl, shs_ok ss, h ss a' b' k' h1 h2 h3⟩⟩
/-- the first put last -/
def rot {α : Type} (l : List α) : List α := l.drop 1 ++ l.take 1
theorem rot_perm {α : Type} (l : List α) : (rot l).Perm l := by
  cases l with
  | nil => exact .refl _
  | cons a t => show (t ++ [a]).Perm (a :: t); exact List.perm_append_comm
theorem rot_map {α β : Type} (f : α → β) (l : List α) : (rot l).map f = rot (l.map f) := by
  cases l <;> simp [rot]
def Sp.rot (s : Sp) : Sp := ⟨s.m, K17.rot s.ps, K17.rot s.js⟩
theorem Sp.rot_ok {s : Sp} (h : s.ok) : s.rot.ok := ⟨h.m, fun p hp => h.ps p ((rot_perm _).mem_iff.mp hp), by show (K17.rot s.ps).length ≤ 8; rw [(rot_perm _).length_eq]; exact h.np,
  by show ((K17.rot s.ps).map (·.t)).Nodup; rw [rot_map]; exact (rot_perm _).nodup_iff.mpr h.dp, fun p hp => h.js p ((rot_perm _).mem_iff.mp hp), by show (K17.rot s.js).length ≤ 12; rw [(rot_perm _).length_eq]; exact h.nj,
  by show ((K17.rot s.js).map Joint.k).Nodup; rw [rot_map]; exact (rot_perm _).nodup_iff.mpr h.dj, h.pool.imp fun pool hp => ⟨hp.1, fun p hq => hp.2 p ((rot_perm _).mem_iff.mp hq)⟩⟩
def Sp.less (s : Sp) : Sp := ⟨s.m, s.ps.dropLast, s.js⟩
theorem Sp.less_ok {s : Sp} (h : s.ok) : s.less.ok := ⟨h.m, fun p hp => h.ps p ((List.dropLast_subset _) hp), by show s.ps.dropLast.length ≤ 8; rw [List.length_dropLast]; have := h.np; omega,
  by show (s.ps.dropLast.map (·.t)).Nodup; exact ((List.dropLast_sublist _).map _).nodup h.dp, h.js, h.nj, h.dj, h.pool⟩
theorem oks_rot {ss : List Sh} (h : oks ss) (hn : ss ≠ []) : oks (rot ss) ∧ rot ss ≠ [] := ⟨⟨by rw [(rot_perm ss).length_eq]; exact h.1, fun s hs => h.2 s ((rot_perm ss).mem_iff.mp hs)⟩, fun z => hn (by have := (rot_perm ss).length_eq; rw [z] at this; exact List.length_eq_zero_iff.mp this.symm)⟩
theorem shs1 (ss : List Sh) : okDs 0 [shsD ss] = true := by
  show (okDs 0 (ss.map Sh.d) && true) = true
  rw [shs_ok]; rfl
theorem cut_rot {α : Type} (xs : List α) : Cw.cutD xs (some 1) none ++ Cw.cutD xs none (some 1) = rot xs := by
  rw [show (1 : Int) = ((1 : Nat) : Int) from rfl, cut_from, cut_to]; rfl
theorem cut_less {α : Type} (xs : List α) : Cw.cutD xs none (some (-1)) = xs.dropLast := by
  have e : Cw.cutD xs none (some (-1)) = xs.take (xs.length - 1) := by
    unfold Cw.cutD
    have h1 : HT.sIx xs.length 0 none = 0 := rfl
    have h2 : HT.sIx xs.length xs.length (some (-1)) = xs.length - 1 := by
      show (if (-1 : Int) < 0 then ((-1 : Int) + (xs.length : Int)).toNat else min (-1 : Int).toNat xs.length) = _
      rw [if_pos (by decide)]
      omega
    rw [h1, h2]; simp
  rw [e, List.dropLast_eq_take]
theorem rot_d (s : Sp) : D.tup [.str s.m, .tup (Cw.cutD (s.ps.map Part.d') (some 1) none ++ Cw.cutD (s.ps.map Part.d') none (some 1)), .tup (Cw.cutD (s.js.map Joint.d') (some 1) none ++ Cw.cutD (s.js.map Joint.d') none (some 1))] = s.rot.d := by
  rw [cut_rot, cut_rot, ← rot_map, ← rot_map]; rfl
theorem less_d (s : Sp) : D.tup [.str s.m, .tup (Cw.cutD (s.ps.map Part.d') none (some (-1))), .tup (s.js.map Joint.d')] = s.less.d := by
  rw [cut_less, ← List.map_dropLast]; rfl
theorem cut_short {xs : List D} {a b e f : Option Int} (h : xs.length ≤ 12) : (Cw.cutD xs a b).length + (Cw.cutD xs e f).length ≤ sizeLine := by
  have l : ∀ a b, (Cw.cutD xs a b).length ≤ xs.length := fun a b => by
    unfold Cw.cutD
    simp only [List.length_take, List.length_drop]
    omega
  have := l a b
  have := l e f
  exact Nat.le_trans (show _ ≤ 24 by omega) (by decide)
theorem seq_join {a b : TSD} {De : DEnds} {ρ : Cw.Env} {c : List Cell} (J : Cw.Env → List Cell → Prop) (fin : ∀ ρ c, J ρ c → b De ρ c) (h : ∀ R : Cw.Env → List Cell → Prop, (∀ ρ c, J ρ c → R ρ c) → a ⟨R, De.rt, De.bk, De.ct⟩ ρ c) : dSeq a b De ρ c := h _ fin
theorem atl (ini : List Sh) (x : Sh) : L2.atI ((ini ++ [x]).map Sh.d) (-1) = some x.d := by
  have e : ((-1 : Int) + ((ini.length : Int) + 1)).toNat = ini.length := by omega
  have h : (1 : Int) ≤ (ini.length : Int) + 1 := by omega
  rw [List.map_append]
  unfold L2.atI L2.ixN
  simp [e, h]
theorem flds_ok (s : Sp) (zs : List Str) : okDs 0 [.str s.text, .str s.m, .tup (s.ps.map Part.d'), .tup (s.js.map Joint.d'), stD s.m.length, .tup (zs.map .str)] = true := by
  show (true && (true && (okDs 0 (s.ps.map Part.d') && (okDs 0 (s.js.map Joint.d') && (okDs 0 ((stL s.m.length).map D.str) && (okDs 0 (zs.map D.str) && true)))))) = true
  rw [okDs_map (fun _ => rfl), okDs_map (fun _ => rfl), okDs_map (fun _ => rfl), okDs_map (fun _ => rfl)]; rfl
theorem rfld_ok (ss : List Sh) (al : Str) : okDs 0 [.str (planS ss), shsD ss, .str al] = true := by
  show (true && (okDs 0 (ss.map Sh.d) && (true && true))) = true
  rw [shs_ok]; rfl
/-! ### who is equal to whom -/
def plainD (d : D) : Prop := ∃ ty, tyD d = some ty ∧ ∀ D, ty ≠ .ins D
section
variable {K : PySem.W.Frag} {mg : Str → Option Value}
theorem nf_Borders (T : Tx K mg) {ty : Ty} (h : ∀ D, ty ≠ .ins D) : PySem.W.notFirst K T.C_Borders ty.val = true := by
  cases ty
  · show (_ || PySem.W.subIn K (.type "NoneType") (.ref T.C_Borders) == some false) = true
    rw [T.su_Borders_NoneType]; simp
  · show (_ || PySem.W.subIn K (.type "bool") (.ref T.C_Borders) == some false) = true
    rw [T.su_Borders_bool]; simp
  · show (_ || PySem.W.subIn K (.type "int") (.ref T.C_Borders) == some false) = true
    rw [T.su_Borders_int]; simp
  · show (_ || PySem.W.subIn K (.type "str") (.ref T.C_Borders) == some false) = true
    rw [T.su_Borders_str]; simp
  · show (_ || PySem.W.subIn K (.type "tuple") (.ref T.C_Borders) == some false) = true
    rw [T.su_Borders_tuple]; simp
  · show (_ || PySem.W.subIn K (.type "list") (.ref T.C_Borders) == some false) = true
    rw [T.su_Borders_list]; simp
  · show (_ || PySem.W.subIn K (.type "dict") (.ref T.C_Borders) == some false) = true
    rw [T.su_Borders_dict]; simp
  · exact (h _ rfl).elim
theorem sb_Borders (T : Tx K mg) {ty : Ty} (h : ∀ D, ty ≠ .ins D) : PySem.W.subIn K (.ref T.C_Borders) ty.val = some false := by
  cases ty
  · exact T.st_Borders_NoneType
  · exact T.st_Borders_bool
  · exact T.st_Borders_int
  · exact T.st_Borders_str
  · exact T.st_Borders_tuple
  · exact T.st_Borders_list
  · exact T.st_Borders_dict
  · exact (h _ rfl).elim
theorem nf_Borders_Room (T : Tx K mg) : PySem.W.notFirst K T.C_Borders (.ref T.C_Room) = true := by
  show (_ || PySem.W.subIn K (.ref T.C_Room) (.ref T.C_Borders) == some false) = true
  rw [T.sx_Borders_Room]; simp
theorem nf_Borders_Book (T : Tx K mg) : PySem.W.notFirst K T.C_Borders (.ref T.C_Book) = true := by
  show (_ || PySem.W.subIn K (.ref T.C_Book) (.ref T.C_Borders) == some false) = true
  rw [T.sx_Borders_Book]; simp
theorem nf_Room (T : Tx K mg) {ty : Ty} (h : ∀ D, ty ≠ .ins D) : PySem.W.notFirst K T.C_Room ty.val = true := by
  cases ty
  · show (_ || PySem.W.subIn K (.type "NoneType") (.ref T.C_Room) == some false) = true
    rw [T.su_Room_NoneType]; simp
  · show (_ || PySem.W.subIn K (.type "bool") (.ref T.C_Room) == some false) = true
    rw [T.su_Room_bool]; simp
  · show (_ || PySem.W.subIn K (.type "int") (.ref T.C_Room) == some false) = true
    rw [T.su_Room_int]; simp
  · show (_ || PySem.W.subIn K (.type "str") (.ref T.C_Room) == some false) = true
    rw [T.su_Room_str]; simp
  · show (_ || PySem.W.subIn K (.type "tuple") (.ref T.C_Room) == some false) = true
    rw [T.su_Room_tuple]; simp
  · show (_ || PySem.W.subIn K (.type "list") (.ref T.C_Room) == some false) = true
    rw [T.su_Room_list]; simp
  · show (_ || PySem.W.subIn K (.type "dict") (.ref T.C_Room) == some false) = true
    rw [T.su_Room_dict]; simp
  · exact (h _ rfl).elim
theorem sb_Room (T : Tx K mg) {ty : Ty} (h : ∀ D, ty ≠ .ins D) : PySem.W.subIn K (.ref T.C_Room) ty.val = some false := by
  cases ty
  · exact T.st_Room_NoneType
  · exact T.st_Room_bool
  · exact T.st_Room_int
  · exact T.st_Room_str
  · exact T.st_Room_tuple
  · exact T.st_Room_list
  · exact T.st_Room_dict
  · exact (h _ rfl).elim
theorem nf_Room_Borders (T : Tx K mg) : PySem.W.notFirst K T.C_Room (.ref T.C_Borders) = true := by
  show (_ || PySem.W.subIn K (.ref T.C_Borders) (.ref T.C_Room) == some false) = true
  rw [T.sx_Room_Borders]; simp
theorem nf_Room_Book (T : Tx K mg) : PySem.W.notFirst K T.C_Room (.ref T.C_Book) = true := by
  show (_ || PySem.W.subIn K (.ref T.C_Book) (.ref T.C_Room) == some false) = true
  rw [T.sx_Room_Book]; simp
theorem nf_Book (T : Tx K mg) {ty : Ty} (h : ∀ D, ty ≠ .ins D) : PySem.W.notFirst K T.C_Book ty.val = true := by
  cases ty
  · show (_ || PySem.W.subIn K (.type "NoneType") (.ref T.C_Book) == some false) = true
    rw [T.su_Book_NoneType]; simp
  · show (_ || PySem.W.subIn K (.type "bool") (.ref T.C_Book) == some false) = true
    rw [T.su_Book_bool]; simp
  · show (_ || PySem.W.subIn K (.type "int") (.ref T.C_Book) == some false) = true
    rw [T.su_Book_int]; simp
  · show (_ || PySem.W.subIn K (.type "str") (.ref T.C_Book) == some false) = true
    rw [T.su_Book_str]; simp
  · show (_ || PySem.W.subIn K (.type "tuple") (.ref T.C_Book) == some false) = true
    rw [T.su_Book_tuple]; simp
  · show (_ || PySem.W.subIn K (.type "list") (.ref T.C_Book) == some false) = true
    rw [T.su_Book_list]; simp
  · show (_ || PySem.W.subIn K (.type "dict") (.ref T.C_Book) == some false) = true
    rw [T.su_Book_dict]; simp
  · exact (h _ rfl).elim
theorem sb_Book (T : Tx K mg) {ty : Ty} (h : ∀ D, ty ≠ .ins D) : PySem.W.subIn K (.ref T.C_Book) ty.val = some false := by
  cases ty
  · exact T.st_Book_NoneType
  · exact T.st_Book_bool
  · exact T.st_Book_int
  · exact T.st_Book_str
  · exact T.st_Book_tuple
  · exact T.st_Book_list
  · exact T.st_Book_dict
  · exact (h _ rfl).elim
theorem nf_Book_Borders (T : Tx K mg) : PySem.W.notFirst K T.C_Book (.ref T.C_Borders) = true := by
  show (_ || PySem.W.subIn K (.ref T.C_Borders) (.ref T.C_Book) == some false) = true
  rw [T.sx_Book_Borders]; simp
theorem nf_Book_Room (T : Tx K mg) : PySem.W.notFirst K T.C_Book (.ref T.C_Room) = true := by
  show (_ || PySem.W.subIn K (.ref T.C_Room) (.ref T.C_Book) == some false) = true
  rw [T.sx_Book_Room]; simp
theorem nf_self {C : Addr} : PySem.W.notFirst K C (.ref C) = true := by simp [PySem.W.notFirst]
theorem ox_plain {C : Addr} {Ds : List Addr} {ty : Ty} (h : ∀ D, ty ≠ .ins D) : gOwnX C Ds ty = some false := by
  cases ty <;> first | rfl | exact (h _ rfl).elim
theorem ox_own {C D : Addr} {Ds : List Addr} (h : D ≠ C) (hm : D ∈ Ds) : gOwnX C Ds (.ins D) = some false := by
  show (if D = C then some true else if Ds.contains D then some false else none) = some false
  rw [if_neg h, if_pos (by simpa using hm)]
abbrev pT (T : Tx K mg) : D → D → Bool → Prop := pA T.C_Borders T.C_Room T.C_Book T.C_Page
abbrev Two (T : Tx K mg) (d1 d2 : D) (b : Bool) : Prop := EqP K (pT T) d1 d2 b ∧ EqP K (pT T) d2 d1 b
theorem dec_comm (t u : Str) : decide (t = u) = decide (u = t) := by
  by_cases h : t = u
  · rw [decide_eq_true h, decide_eq_true h.symm]
  · rw [decide_eq_false h, decide_eq_false fun z => h z.symm]
theorem two_BB (T : Tx K mg) (s t : Sp) (zs zt : List Str) : Two T (bD T.C_Borders s zs) (bD T.C_Borders t zt) (decide (s.text = t.text)) :=
  ⟨.inl ⟨_, _, _, _, rfl, rfl, nf_self, .inl (.inl ⟨_, _, _, _, _, _, rfl, .inl ⟨_, _, _, _, _, _, rfl, rfl⟩⟩)⟩, .inl ⟨_, _, _, _, rfl, rfl, nf_self, .inl (.inl ⟨_, _, _, _, _, _, rfl, .inl ⟨_, _, _, _, _, _, rfl, dec_comm _ _⟩⟩)⟩⟩
theorem two_RR (T : Tx K mg) (t t' : Str) (r r' : D) (al al' : Str) : Two T (roomD T.C_Room t r al) (roomD T.C_Room t' r' al') (decide (t = t')) :=
  ⟨.inl ⟨_, _, _, _, rfl, rfl, nf_self, .inl (.inr ⟨_, _, _, rfl, .inl ⟨_, _, _, rfl, rfl⟩⟩)⟩, .inl ⟨_, _, _, _, rfl, rfl, nf_self, .inl (.inr ⟨_, _, _, rfl, .inl ⟨_, _, _, rfl, dec_comm _ _⟩⟩)⟩⟩
theorem two_KK (T : Tx K mg) {a b : Addr} (h : b ≠ a) : Two T (bookD T.C_Book T.C_Page a) (bookD T.C_Book T.C_Page b) false :=
  ⟨.inl ⟨_, _, _, _, rfl, rfl, nf_self, .inr ⟨_, rfl, .inl ⟨_, rfl, h.symm, rfl⟩⟩⟩, .inl ⟨_, _, _, _, rfl, rfl, nf_self, .inr ⟨_, rfl, .inl ⟨_, rfl, h, rfl⟩⟩⟩⟩
theorem two_Bp (T : Tx K mg) (s : Sp) (zs : List Str) {d : D} (h : plainD d) : Two T (bD T.C_Borders s zs) d false := by
  obtain ⟨ty, h1, h2⟩ := h
  have p : pT T (bD T.C_Borders s zs) d false := .inl (.inl ⟨_, _, _, _, _, _, rfl, .inr ⟨⟨ty, h1, ox_plain h2⟩, rfl⟩⟩)
  exact ⟨.inl ⟨_, _, _, ty, rfl, h1, nf_Borders T h2, p⟩, .inr ⟨_, _, _, ty, rfl, h1, h2, sb_Borders T h2, p⟩⟩
theorem two_Rp (T : Tx K mg) (t : Str) (r : D) (al : Str) {d : D} (h : plainD d) : Two T (roomD T.C_Room t r al) d false := by
  obtain ⟨ty, h1, h2⟩ := h
  have p : pT T (roomD T.C_Room t r al) d false := .inl (.inr ⟨_, _, _, rfl, .inr ⟨⟨ty, h1, ox_plain h2⟩, rfl⟩⟩)
  exact ⟨.inl ⟨_, _, _, ty, rfl, h1, nf_Room T h2, p⟩, .inr ⟨_, _, _, ty, rfl, h1, h2, sb_Room T h2, p⟩⟩
theorem two_Kp (T : Tx K mg) (a : Addr) {d : D} (h : plainD d) : Two T (bookD T.C_Book T.C_Page a) d false := by
  obtain ⟨ty, h1, h2⟩ := h
  have p : pT T (bookD T.C_Book T.C_Page a) d false := .inr ⟨_, rfl, .inr ⟨⟨ty, h1, ox_plain h2⟩, rfl⟩⟩
  exact ⟨.inl ⟨_, _, _, ty, rfl, h1, nf_Book T h2, p⟩, .inr ⟨_, _, _, ty, rfl, h1, h2, sb_Book T h2, p⟩⟩
theorem two_BR (T : Tx K mg) (s : Sp) (zs : List Str) (t : Str) (r : D) (al : Str) : Two T (bD T.C_Borders s zs) (roomD T.C_Room t r al) false :=
  ⟨.inl ⟨_, _, _, .ins T.C_Room, rfl, rfl, nf_Borders_Room T, .inl (.inl ⟨_, _, _, _, _, _, rfl, .inr ⟨⟨_, rfl, ox_own T.nx_Borders_Room (by simp)⟩, rfl⟩⟩)⟩,
   .inl ⟨_, _, _, .ins T.C_Borders, rfl, rfl, nf_Room_Borders T, .inl (.inr ⟨_, _, _, rfl, .inr ⟨⟨_, rfl, ox_own T.nx_Borders_Room.symm (by simp)⟩, rfl⟩⟩)⟩⟩
theorem two_BK (T : Tx K mg) (s : Sp) (zs : List Str) (a : Addr) : Two T (bD T.C_Borders s zs) (bookD T.C_Book T.C_Page a) false :=
  ⟨.inl ⟨_, _, _, .ins T.C_Book, rfl, rfl, nf_Borders_Book T, .inl (.inl ⟨_, _, _, _, _, _, rfl, .inr ⟨⟨_, rfl, ox_own T.nx_Borders_Book (by simp)⟩, rfl⟩⟩)⟩,
   .inl ⟨_, _, _, .ins T.C_Borders, rfl, rfl, nf_Book_Borders T, .inr ⟨_, rfl, .inr ⟨⟨_, rfl, ox_own T.nx_Borders_Book.symm (by simp)⟩, rfl⟩⟩⟩⟩
theorem two_RK (T : Tx K mg) (t : Str) (r : D) (al : Str) (a : Addr) : Two T (roomD T.C_Room t r al) (bookD T.C_Book T.C_Page a) false :=
  ⟨.inl ⟨_, _, _, .ins T.C_Book, rfl, rfl, nf_Room_Book T, .inl (.inr ⟨_, _, _, rfl, .inr ⟨⟨_, rfl, ox_own T.nx_Room_Book (by simp)⟩, rfl⟩⟩)⟩,
   .inl ⟨_, _, _, .ins T.C_Room, rfl, rfl, nf_Book_Room T, .inr ⟨_, rfl, .inr ⟨⟨_, rfl, ox_own T.nx_Room_Book.symm (by simp)⟩, rfl⟩⟩⟩⟩
end
def someL (s : Sp) (ss : List Sh) : List D := [.non, .int 0, .int 1, .bl true, .str "", .str s.text, .str (planS ss), .tup [], .tup [.str s.text], .lst [.str s.text], .dct [] [], s.d, shsD ss, .int (ss.map Sh.d).length]
theorem some_ok (s : Sp) (ss : List Sh) : ∀ d ∈ someL s ss, plainD d ∧ okD 0 d = true := fun d hd => by
  unfold someL at hd
  simp only [List.mem_cons, List.not_mem_nil, or_false] at hd
  rcases hd with rfl | rfl | rfl | rfl | rfl | rfl | rfl | rfl | rfl | rfl | rfl | rfl | rfl | rfl
  all_goals refine ⟨⟨_, rfl, fun _ z => nomatch z⟩, ?_⟩
  all_goals first | rfl | exact (Bool.and_eq_true_iff.mp (sp_ok s)).1 | exact shs_ok ss
theorem ok2_of {a b : D} (h1 : okD 0 a = true) (h2 : okD 0 b = true) : okDs 0 [a, b] = true := by
  show (okD 0 a && (okD 0 b && true)) = true
  rw [h1, h2]; rfl
theorem ok3_of {a b : D} {k : Bool} (h1 : okD 0 a = true) (h2 : okD 0 b = true) : okDs 0 [a, b, .bl k] = true := by
  show (okD 0 a && (okD 0 b && (true && true))) = true
  rw [h1, h2]; rfl
theorem bD_ok (C : Addr) (s : Sp) (zs : List Str) : okD 0 (bD C s zs) = true := (Bool.and_eq_true_iff.mp (b_ok C s zs)).1
theorem rD_ok (C : Addr) (ss : List Sh) (al : Str) : okD 0 (roomD C (planS ss) (shsD ss) al) = true := rfld_ok ss al
theorem kD_ok (C CP a : Addr) : okD 0 (bookD C CP a) = true := rfl
theorem pair_call {K : PySem.W.Frag} {mg : Str → Option Value} {T : Tx K mg} {d1 d2 : D} {b : Bool} {c : List Cell} {Φ : D → List Cell → Prop} (o1 : okD 0 d1 = true) (o2 : okD 0 d2 = true) (h : Two T d1 d2 b) (q : Φ (.bl true) c) : callP (S__law_pair K (pA T.C_Borders T.C_Room T.C_Book T.C_Page)) [d1, d2, .bl b] c Φ :=
  ⟨ok3_of o1 o2, d1, d2, b, rfl, ok2_of o1 o2, h.1, h.2, q⟩
theorem cut_short1 {xs : List D} {a b : Option Int} {ys : List D} (h : xs.length ≤ 12) (hy : ys.length ≤ 1 := by decide) : (Cw.cutD xs a b).length + ys.length ≤ sizeLine := by
  have : (Cw.cutD xs a b).length ≤ xs.length := by
    unfold Cw.cutD
    simp only [List.length_take, List.length_drop]
    omega
  exact Nat.le_trans (show _ ≤ 24 by omega) (by decide)
theorem oks_flip {ini : List Sh} {l : Nat} {n : Int} {o o' : Bool} (h : oks (ini ++ [⟨l, n, o⟩])) : oks (ini ++ [⟨l, n, o'⟩]) :=
  ⟨by have := h.1; rw [List.length_append] at this ⊢; exact this, fun s hs => (List.mem_append.mp hs).elim (fun z => h.2 s (List.mem_append_left _ z)) fun z => by
    rw [List.mem_singleton.mp z]
    exact h.2 ⟨l, n, o⟩ (List.mem_append_right _ (.head _))⟩
theorem sh_app (ini : List Sh) (x : Sh) : shsD (ini ++ [x]) = .tup (ini.map Sh.d ++ [x.d]) := by
  unfold shsD; rw [List.map_append]; rfl
theorem two_BBt {K : PySem.W.Frag} {mg : Str → Option Value} (T : Tx K mg) (s : Sp) (zs zt : List Str) : Two T (bD T.C_Borders s zs) (bD T.C_Borders s zt) true := by
  have := two_BB T s s zs zt
  rw [decide_eq_true rfl] at this
  exact this
theorem two_RRt {K : PySem.W.Frag} {mg : Str → Option Value} (T : Tx K mg) (t : Str) (r r' : D) (al al' : Str) : Two T (roomD T.C_Room t r al) (roomD T.C_Room t r' al') true := by
  have := two_RR T t t r r' al al'
  rw [decide_eq_true rfl] at this
  exact this
theorem two_if {K : PySem.W.Frag} {mg : Str → Option Value} {T : Tx K mg} {d1 d2 : D} {b : Bool} (h : Two T d1 d2 b) : Two T d1 d2 (if false = true then !b else b) := by
  rw [if_neg (by simp)]; exact h
theorem plain_spr (a b k : Int) : plainC [spr a b k] := fun ce h => ⟨[a, b, k], List.mem_singleton.mp h⟩
theorem bls_all : ∀ l : List D, bls (l.map fun _ => D.bl true) = some (l.map fun _ => true)
  | [] => rfl
  | _ :: l => by
    show (bls (l.map fun _ => D.bl true)).map (true :: ·) = _
    rw [bls_all l]; rfl
theorem all_all : ∀ l : List D, (l.map fun _ => true).all id = true
  | [] => rfl
  | _ :: l => by show (true && _) = true; rw [all_all l]; rfl
theorem b3i (a b c : Bool) : Showy (.list [.bool a, .bool b, .bool c, .int 0]) := by
  refine ⟨by decide +revert, by decide +revert, by decide +revert, ?_⟩
  have : (PyData.list [.bool a, .bool b, .bool c, .int 0]).shown.length ≤ 40 := by decide +revert
  exact Nat.le_trans this (by decide)
theorem len_tru {ss : List Sh} (h : ss ≠ []) : ((((ss.map Sh.d).length : Nat) : Int) != 0) = true := by
  have : 0 < ss.length := List.length_pos_iff.mpr h
  rw [List.length_map]
  simp only [bne_iff_ne, ne_eq]
  omega
theorem okR1 (C : Addr) (ss : List Sh) (al : Str) : okDs 0 [roomD C (planS ss) (shsD ss) al] = true := by
  show (okD 0 (roomD C (planS ss) (shsD ss) al) && true) = true
  rw [rD_ok]; rfl
section
variable {P : Program} {w : World} {K : PySem.W.Frag} {mg : Str → Option Value} {base : Heap}
set_option maxHeartbeats 8000000 in
theorem ok_Page___init__ (T : Tx K mg) : FnOk P w K mg base CX0 1 T.a_Page___init__ T.d_Page___init__ ["self", "shelf", "row", "behind"] (spD K 1 4 (S_Page___init__ T.C_Page)) := by
  refine fnD T.F_Page___init__ sc_Page___init__ fun cdv A outer s H E hr => ⟨_, (psd_cons (psd_stf T.cl_Page T.na_shelf (pd_v 0) (pd_v 1)) (psd_cons (psd_stf T.cl_Page T.na_row (pd_v 0) (pd_v 2)) (psd_cons (psd_stf T.cl_Page T.na_behind (pd_v 0) (pd_v 3)) (psd_one (psd_stf T.cl_Page T.na_many (pd_v 0) (pd_if (pdt_isn (pd_v 3) pd_non) pd_int (pd_add (pd_fld T.cl_Page T.na_many (pd_v 3)) pd_int))))))), ?_⟩
  rintro c ds Φ hc - ⟨rfl, rfl, hΦ⟩
  conv => whnf
  refine ⟨0, [], [], rfl, rfl, by decide, ?_⟩
  conv => whnf
  refine ⟨0, _, _, rfl, rfl, by show (1 : Nat) < 1000; decide, ?_⟩
  conv => whnf
  refine ⟨0, _, _, rfl, rfl, by show (2 : Nat) < 1000; decide, ?_⟩
  conv => whnf
  refine ⟨0, _, _, rfl, rfl, by show (3 : Nat) < 1000; decide, ?_⟩
  conv => whnf
  exact hΦ
set_option maxHeartbeats 8000000 in
theorem ok_Book___init__ (T : Tx K mg) : FnOk P w K mg base CX0 3 T.a_Book___init__ T.d_Book___init__ ["self"] (spD K 1 1 (S_Book___init__ T.C_Book T.C_Page)) := by
  refine fnD T.F_Book___init__ sc_Book___init__ fun cdv A outer s H E hr => ⟨_, (psd_one (psd_stf T.cl_Book T.na_page (pd_v 0) (pd_named (pd_make T.mk_Page (ok_Page___init__ T) (hr.mono (by decide)) T.g_Page T.b_Page___init__ pass0 (pds_cons pd_dict0 (pds_cons (pd_tup pds_nil) (pds_cons pd_non pds_nil))))))), ?_⟩
  rintro c ds Φ hc - ⟨rfl, rfl, hΦ⟩
  conv => whnf
  refine ⟨Nat.zero_le _, ?_⟩
  conv => whnf
  refine ⟨rfl, rfl, rfl, rfl, rfl, rfl, rfl, _, _, _, rfl, fun a => ?_⟩
  conv => whnf
  refine ⟨0, [], [], rfl, rfl, by decide, ?_⟩
  conv => whnf
  exact hΦ a
set_option maxHeartbeats 8000000 in
theorem ok_Book___len__ (T : Tx K mg) : FnOk P w K mg base CX0 1 T.a_Book___len__ T.d_Book___len__ ["self"] (spD K 0 1 (S_Book___len__ T.C_Book T.C_Page)) := by
  refine fnD T.F_Book___len__ sc_Book___len__ fun cdv A outer s H E hr => ⟨_, (psd_one (psd_ret (pd_lenD (pd_fld T.cl_Page T.na_shelf (pd_unA (pd_fld T.cl_Book T.na_page (pd_v 0)))) T.n_len))), ?_⟩
  rintro c ds Φ hc - ⟨a, rfl, hΦ⟩
  cases c with
  | cons _ _ => cases hc
  | nil =>
  conv => whnf
  refine ⟨rfl, _, rfl, ?_⟩
  conv => whnf
  refine ⟨rfl, _, rfl, ?_⟩
  conv => whnf
  exact hΦ
set_option maxHeartbeats 8000000 in
theorem ok_Book___bool__ (T : Tx K mg) : FnOk P w K mg base CX0 1 T.a_Book___bool__ T.d_Book___bool__ ["self"] (spD K 0 1 (S_Book___bool__ T.C_Book T.C_Page)) := by
  refine fnD T.F_Book___bool__ sc_Book___bool__ fun cdv A outer s H E hr => ⟨_, (psd_one (psd_ret pd_bl)), ?_⟩
  rintro c ds Φ hc - ⟨a, rfl, hΦ⟩
  cases c with
  | cons _ _ => cases hc
  | nil =>
  conv => whnf
  exact hΦ
set_option maxHeartbeats 8000000 in
theorem okq_Borders___eq__ (T : Tx K mg) : FnOk P w K mg base CX0 1 T.a_Borders___eq__ T.d_Borders___eq__ ["self", "other"] (spD K 0 2 (Sq_Borders T.C_Borders [T.C_Room, T.C_Book])) := by
  refine fnD T.F_Borders___eq__ sc_Borders___eq__ fun cdv A outer s H E hr => ⟨_, (psd_one (psd_ret (pd_and (pd_isi T.ix_Borders (.own _) (pd_v 1) (pe_glob rfl T.g_Borders rfl) T.n_isinstance) (pd_one (pd_eq hr (pd_fld T.cl_Borders T.na_whole (pd_v 0)) (pd_fld T.cl_Borders T.na_whole (pd_v 1))))))), ?_⟩
  rintro c ds Φ hc - ⟨d1, d2, b, rfl, ⟨t, m, ps, js, st, nm, rfl, h⟩, hΦ⟩
  cases c with
  | cons _ _ => cases hc
  | nil =>
  rcases h with ⟨t', m', ps', js', st', nm', rfl, rfl⟩ | ⟨⟨ty, h1, h2⟩, rfl⟩
  · conv => whnf
    refine ⟨.ins T.C_Borders, true, rfl, if_pos rfl, ?_⟩
    conv => whnf
    refine ⟨rfl, _, rfl, ?_⟩
    conv => whnf
    refine ⟨rfl, _, rfl, ?_⟩
    conv => whnf
    exact hΦ
  · conv => whnf
    refine ⟨ty, false, (ty_vw h1).trans h1, h2, ?_⟩
    conv => whnf
    exact hΦ
set_option maxHeartbeats 8000000 in
theorem okq_Room___eq__ (T : Tx K mg) : FnOk P w K mg base CX0 1 T.a_Room___eq__ T.d_Room___eq__ ["self", "other"] (spD K 0 2 (Sq_Room T.C_Room [T.C_Borders, T.C_Book])) := by
  refine fnD T.F_Room___eq__ sc_Room___eq__ fun cdv A outer s H E hr => ⟨_, (psd_one (psd_ret (pd_and (pd_isi T.ix_Room (.own _) (pd_v 1) (pe_glob rfl T.g_Room rfl) T.n_isinstance) (pd_one (pd_eq hr (pd_fld T.cl_Room T.na_Room_whole (pd_v 0)) (pd_fld T.cl_Room T.na_Room_whole (pd_v 1))))))), ?_⟩
  rintro c ds Φ hc - ⟨d1, d2, b, rfl, ⟨t, r, al, rfl, h⟩, hΦ⟩
  cases c with
  | cons _ _ => cases hc
  | nil =>
  rcases h with ⟨t', r', al', rfl, rfl⟩ | ⟨⟨ty, h1, h2⟩, rfl⟩
  · conv => whnf
    refine ⟨.ins T.C_Room, true, rfl, if_pos rfl, ?_⟩
    conv => whnf
    refine ⟨rfl, _, rfl, ?_⟩
    conv => whnf
    refine ⟨rfl, _, rfl, ?_⟩
    conv => whnf
    exact hΦ
  · conv => whnf
    refine ⟨ty, false, (ty_vw h1).trans h1, h2, ?_⟩
    conv => whnf
    exact hΦ
set_option maxHeartbeats 8000000 in
theorem okq_Book___eq__ (T : Tx K mg) : FnOk P w K mg base CX0 1 T.a_Book___eq__ T.d_Book___eq__ ["self", "other"] (spD K 0 2 (Sq_Book T.C_Book T.C_Page [T.C_Borders, T.C_Room])) := by
  refine fnD T.F_Book___eq__ sc_Book___eq__ fun cdv A outer s H E hr => ⟨_, (psd_one (psd_ret (pd_and (pd_isi T.ix_Book (.own _) (pd_v 1) (pe_glob rfl T.g_Book rfl) T.n_isinstance) (pd_one (pd_eqI (k := 0) (hr.mono (by decide)) T.mro_Page T.eq_Page (pd_fld T.cl_Book T.na_page (pd_v 0)) (pd_fld T.cl_Book T.na_page (pd_v 1))))))), ?_⟩
  rintro c ds Φ hc - ⟨d1, d2, b, rfl, ⟨a, rfl, h⟩, hΦ⟩
  cases c with
  | cons _ _ => cases hc
  | nil =>
  rcases h with ⟨a', rfl, ne, rfl⟩ | ⟨⟨ty, h1, h2⟩, rfl⟩
  · conv => whnf
    refine ⟨.ins T.C_Book, true, rfl, if_pos rfl, ?_⟩
    conv => whnf
    refine ⟨rfl, _, rfl, ?_⟩
    conv => whnf
    refine ⟨rfl, _, rfl, ?_⟩
    conv => whnf
    refine ⟨_, _, _, _, _, _, rfl, rfl, ne, ?_⟩
    conv => whnf
    exact hΦ
  · conv => whnf
    refine ⟨ty, false, (ty_vw h1).trans h1, h2, ?_⟩
    conv => whnf
    exact hΦ
set_option maxHeartbeats 8000000 in
theorem ok__law_shuts (T : Tx K mg) : FnOk P w K mg base CX0 2 T.a__law_shuts T.d__law_shuts ["_law_spring_here", "_law_most_here", "_law_reach", "_law_lean"] (spD K 1 4 S__law_shuts) := by
  refine fnD T.F__law_shuts sc__law_shuts fun cdv A outer s H E hr => ⟨_, (psd_cons (psd_set (i := 4) sc__law_shuts.nd (pd_lstM pds_nil)) (psd_cons (psd_for PassesOwn.never rfl (pid_range1 (pd_add pd_int (pd_callM (ok__law_take T) (hr.mono (by decide)) T.g__law_take T.F__law_take.kp T.b__law_take pass0 (pds_cons (pd_v 0) (pds_cons (pd_v 1) pds_nil)))) T.n_range) (pgd_name (i := 5) sc__law_shuts.nd) (psd_cons (psd_set (i := 6) sc__law_shuts.nd (pd_ix (pd_lst (pds_cons pd_int (pds_cons (pd_sub (pd_callM (ok__law_take T) (hr.mono (by decide)) T.g__law_take T.F__law_take.kp T.b__law_take pass0 (pds_cons (pd_v 0) (pds_cons (pd_add (pd_mul pd_int (pd_v 3)) pd_int) pds_nil))) (pd_v 3)) pds_nil))) (pd_callM (ok__law_take T) (hr.mono (by decide)) T.g__law_take T.F__law_take.kp T.b__law_take pass0 (pds_cons (pd_v 0) (pds_cons pd_int pds_nil))))) (psd_one (psd_expr (pd_append (pd_v 4) (pd_tup (pds_cons (pd_ix pd_str (pd_callM (ok__law_take T) (hr.mono (by decide)) T.g__law_take T.F__law_take.kp T.b__law_take pass0 (pds_cons (pd_v 0) (pds_cons (pd_v 2) pds_nil)))) (pds_cons (pd_v 6) (pds_cons (pd_ix (pd_lst (pds_cons pd_str (pds_cons pd_str pds_nil))) (pd_callM (ok__law_take T) (hr.mono (by decide)) T.g__law_take T.F__law_take.kp T.b__law_take pass0 (pds_cons (pd_v 0) (pds_cons pd_int pds_nil)))) pds_nil))))))))) (psd_one (psd_ret (pd_tuplec (pd_v 4) T.n_tuple))))), ?_⟩
  rintro c ds Φ hc - ⟨a0, b0, k0, r, rfl, rfl, hB0, hr', hΦ⟩
  conv => whnf
  refine ⟨Nat.zero_le _, ?_⟩
  conv => whnf
  refine ⟨rfl, ?_⟩
  refine take_call (lim := 1000) (rest := [.lst []]) hB0 (by omega) (by decide) fun v a' b' k' h1 h2 hB' => ?_
  conv => whnf
  refine ⟨by omega, ?_⟩
  refine forD_inv (fun ds ρ c => ∃ (ss : List Sh) (a b k : Int) (x5 x6 : Option D), ρ = [some (.cell 0), some (.int 12), some (.int r), some (.int 9), some (.cell 1), x5, x6] ∧ c = [spr a b k, .lst (ss.map Sh.d)] ∧ ss.length + ds.length ≤ 12 ∧ (∀ s ∈ ss, s.ok) ∧ (ss ≠ [] ∨ ds ≠ []) ∧ B3 a b k (1049 - 4 * ds.length)) ?_ ?_ _ _ _ ?_
  · rintro ρ c ⟨ss, a, b, k, x5, x6, rfl, rfl, hl, hs, hn, hB⟩
    conv => whnf
    refine ⟨rfl, ?_⟩
    show okDs 1 (ss.map Sh.d) = true ∧ Φ (shsD ss) [spr a b k]
    refine ⟨okDs_up _ (shs_ok ss), hΦ ss a b k ⟨by simpa using hl, hs⟩ (hn.resolve_right fun z => z rfl) ?_⟩
    simpa using hB
  · rintro d ds ρ c F hF ⟨ss, a, b, k, x5, x6, rfl, rfl, hl, hs, hn, hB⟩
    have hl' : ss.length + (ds.length + 1) ≤ 12 := hl
    have hB : B3 a b k (1049 - 4 * ((ds.length : Int) + 1)) := by simpa using hB
    conv => whnf
    refine ⟨.inl (by decide), ?_⟩
    conv => whnf
    refine ⟨rfl, ?_⟩
    refine take_call (rest := [.lst (ss.map Sh.d)]) hB (by omega) (by decide) fun n a1 b1 k1' n1 n2 hB1 => ?_
    conv => whnf
    refine ⟨by show 2 ≤ sizeLine; decide, ?_⟩
    conv => whnf
    refine ⟨rfl, ?_⟩
    refine take_call (rest := [.lst (ss.map Sh.d)]) hB1 (by omega) (by decide) fun w a2 b2 k2' w1 w2 hB2 => ?_
    have leaf : ∀ s : Sh, s.ok → ∀ a b k x5 x6, B3 a b k (1049 - 4 * ds.length) → F [some (.cell 0), some (.int 12), some (.int r), some (.int 9), some (.cell 1), x5, x6] [spr a b k, .lst (ss.map Sh.d ++ [s.d])] := fun s hs1 a b k x5 x6 hB =>
      hF _ _ ⟨ss ++ [s], a, b, k, x5, x6, rfl, by rw [List.map_append]; rfl, by rw [List.length_append]; show ss.length + 1 + ds.length ≤ 12; omega, fun z hz => (List.mem_append.mp hz).elim (hs z) fun h => by rw [List.mem_singleton.mp h]; exact hs1, .inl (by simp), hB⟩
    have hlen : (ss.map Sh.d).length < sizeLine := by
      rw [List.length_map]; exact Nat.lt_of_le_of_lt (show ss.length ≤ 12 by omega) (by decide)
    have hw : w = 0 ∨ w = 1 := by omega
    rcases hw with rfl | rfl
    all_goals
      conv => whnf
      refine ⟨1, rfl, ⟨_, rfl⟩, ?_⟩
      conv => whnf
      refine ⟨rfl, ?_⟩
      refine take_call (rest := [.lst (ss.map Sh.d)]) hB2 (by omega) (by omega) fun u a3 b3 k3' u1 u2 hB3 => ?_
      have hu : u = 0 ∨ u = 1 ∨ u = 2 := by omega
      rcases hu with rfl | rfl | rfl
      all_goals
        conv => whnf
        refine ⟨by show 3 ≤ sizeLine; decide, ?_⟩
        conv => whnf
        refine ⟨by show 2 ≤ sizeLine; decide, ?_⟩
        conv => whnf
        refine ⟨rfl, ?_⟩
        refine take_call (rest := [.lst (ss.map Sh.d)]) hB3 (by omega) (by decide) fun y a4 b4 k4' y1 y2 hB4 => ?_
        have hB5 : B3 a4 b4 k4' (1049 - 4 * ds.length) := ⟨hB4.1, hB4.2.1, hB4.2.2.1, by have := hB4.2.2.2; omega⟩
        have hy : y = 0 ∨ y = 1 := by omega
        rcases hy with rfl | rfl
        all_goals
          conv => whnf
          refine ⟨by show 3 ≤ sizeLine; decide, ?_⟩
          conv => whnf
          refine ⟨_, rfl, hlen, ?_⟩
          conv => whnf
          first
            | exact leaf ⟨120, 0, true⟩ ⟨by decide, by decide, by decide⟩ _ _ _ _ _ hB5
            | exact leaf ⟨121, 0, true⟩ ⟨by decide, by decide, by decide⟩ _ _ _ _ _ hB5
            | exact leaf ⟨122, 0, true⟩ ⟨by decide, by decide, by decide⟩ _ _ _ _ _ hB5
            | exact leaf ⟨120, 0, false⟩ ⟨by decide, by decide, by decide⟩ _ _ _ _ _ hB5
            | exact leaf ⟨121, 0, false⟩ ⟨by decide, by decide, by decide⟩ _ _ _ _ _ hB5
            | exact leaf ⟨122, 0, false⟩ ⟨by decide, by decide, by decide⟩ _ _ _ _ _ hB5
            | exact leaf ⟨120, n - 9, true⟩ ⟨by show _ = _ ∨ _ = _ ∨ _ = _; simp, by show -9 ≤ n - 9; omega, by show n - 9 ≤ 9; omega⟩ _ _ _ _ _ hB5
            | exact leaf ⟨121, n - 9, true⟩ ⟨by show _ = _ ∨ _ = _ ∨ _ = _; simp, by show -9 ≤ n - 9; omega, by show n - 9 ≤ 9; omega⟩ _ _ _ _ _ hB5
            | exact leaf ⟨122, n - 9, true⟩ ⟨by show _ = _ ∨ _ = _ ∨ _ = _; simp, by show -9 ≤ n - 9; omega, by show n - 9 ≤ 9; omega⟩ _ _ _ _ _ hB5
            | exact leaf ⟨120, n - 9, false⟩ ⟨by show _ = _ ∨ _ = _ ∨ _ = _; simp, by show -9 ≤ n - 9; omega, by show n - 9 ≤ 9; omega⟩ _ _ _ _ _ hB5
            | exact leaf ⟨121, n - 9, false⟩ ⟨by show _ = _ ∨ _ = _ ∨ _ = _; simp, by show -9 ≤ n - 9; omega, by show n - 9 ≤ 9; omega⟩ _ _ _ _ _ hB5
            | exact leaf ⟨122, n - 9, false⟩ ⟨by show _ = _ ∨ _ = _ ∨ _ = _; simp, by show -9 ≤ n - 9; omega, by show n - 9 ≤ 9; omega⟩ _ _ _ _ _ hB5
  · refine ⟨[], a', b', k', none, none, rfl, rfl, ?_, (by intro s hs; cases hs), Or.inr ?_, ?_⟩
    · rw [rng_len]; show 0 + _ ≤ 12; omega
    · intro z
      have := congrArg List.length z
      rw [rng_len] at this
      simp at this; omega
    · refine ⟨hB'.1, hB'.2.1, hB'.2.2.1, ?_⟩
      have := hB'.2.2.2
      rw [rng_len]; omega
set_option maxHeartbeats 8000000 in
theorem ok__law_pair (T : Tx K mg) : FnG P w K mg base 5 T.a__law_pair T.d__law_pair ["_law_first", "_law_second", "_law_same"] (spD K 0 3 (S__law_pair K (pA T.C_Borders T.C_Room T.C_Book T.C_Page))) := by
  refine fnGD T.F__law_pair sc__law_pair fun cdv A outer s H E hgu hr => ⟨_, (psd_cons (psd_set (i := 3) sc__law_pair.nd (pd_lst (pds_cons (pd_eqA (k := 2) (hr.mono (by decide)) (TryR.or (TryR.or (tryR_of (P := pB T.C_Borders [T.C_Room, T.C_Book]) (okq_Borders___eq__ T) T.f_Borders___eq__ T.ne_Borders T.mro_Borders T.k_Borders___eq__ T.b_Borders___eq__ pass0 (hr.mono (by decide)) pB_S) (tryR_of (P := pR T.C_Room [T.C_Borders, T.C_Book]) (okq_Room___eq__ T) T.f_Room___eq__ T.ne_Room T.mro_Room T.k_Room___eq__ T.b_Room___eq__ pass0 (hr.mono (by decide)) pR_S)) (tryR_of (P := pK T.C_Book T.C_Page [T.C_Borders, T.C_Room]) (okq_Book___eq__ T) T.f_Book___eq__ T.ne_Book T.mro_Book T.k_Book___eq__ T.b_Book___eq__ pass0 (hr.mono (by decide)) pK_S)) (pd_v 0) (pd_v 1)) (pds_cons (pd_eqA (k := 2) (hr.mono (by decide)) (TryR.or (TryR.or (tryR_of (P := pB T.C_Borders [T.C_Room, T.C_Book]) (okq_Borders___eq__ T) T.f_Borders___eq__ T.ne_Borders T.mro_Borders T.k_Borders___eq__ T.b_Borders___eq__ pass0 (hr.mono (by decide)) pB_S) (tryR_of (P := pR T.C_Room [T.C_Borders, T.C_Book]) (okq_Room___eq__ T) T.f_Room___eq__ T.ne_Room T.mro_Room T.k_Room___eq__ T.b_Room___eq__ pass0 (hr.mono (by decide)) pR_S)) (tryR_of (P := pK T.C_Book T.C_Page [T.C_Borders, T.C_Room]) (okq_Book___eq__ T) T.f_Book___eq__ T.ne_Book T.mro_Book T.k_Book___eq__ T.b_Book___eq__ pass0 (hr.mono (by decide)) pK_S)) (pd_v 1) (pd_v 0)) (pds_cons (pd_neA (k := 2) (hr.mono (by decide)) (TryR.or (TryR.or (tryR_of (P := pB T.C_Borders [T.C_Room, T.C_Book]) (okq_Borders___eq__ T) T.f_Borders___eq__ T.ne_Borders T.mro_Borders T.k_Borders___eq__ T.b_Borders___eq__ pass0 (hr.mono (by decide)) pB_S) (tryR_of (P := pR T.C_Room [T.C_Borders, T.C_Book]) (okq_Room___eq__ T) T.f_Room___eq__ T.ne_Room T.mro_Room T.k_Room___eq__ T.b_Room___eq__ pass0 (hr.mono (by decide)) pR_S)) (tryR_of (P := pK T.C_Book T.C_Page [T.C_Borders, T.C_Room]) (okq_Book___eq__ T) T.f_Book___eq__ T.ne_Book T.mro_Book T.k_Book___eq__ T.b_Book___eq__ pass0 (hr.mono (by decide)) pK_S)) (pd_v 0) (pd_v 1)) (pds_cons (pd_neA (k := 2) (hr.mono (by decide)) (TryR.or (TryR.or (tryR_of (P := pB T.C_Borders [T.C_Room, T.C_Book]) (okq_Borders___eq__ T) T.f_Borders___eq__ T.ne_Borders T.mro_Borders T.k_Borders___eq__ T.b_Borders___eq__ pass0 (hr.mono (by decide)) pB_S) (tryR_of (P := pR T.C_Room [T.C_Borders, T.C_Book]) (okq_Room___eq__ T) T.f_Room___eq__ T.ne_Room T.mro_Room T.k_Room___eq__ T.b_Room___eq__ pass0 (hr.mono (by decide)) pR_S)) (tryR_of (P := pK T.C_Book T.C_Page [T.C_Borders, T.C_Room]) (okq_Book___eq__ T) T.f_Book___eq__ T.ne_Book T.mro_Book T.k_Book___eq__ T.b_Book___eq__ pass0 (hr.mono (by decide)) pK_S)) (pd_v 1) (pd_v 0)) pds_nil)))))) (psd_one (psd_ret (pd_eq hr (pd_repr hgu hr.units (pd_v 3) T.n_repr) (pd_repr hgu hr.units (pd_lst (pds_cons (pd_v 2) (pds_cons (pd_v 2) (pds_cons (pd_not (pd_v 2)) (pds_cons (pd_not (pd_v 2)) pds_nil))))) T.n_repr))))), ?_⟩
  rintro c ds Φ hc - ⟨d1, d2, b, rfl, ok, h1, h2, hΦ⟩
  cases c with
  | cons _ _ => cases hc
  | nil =>
  have ok2 := ok_swap ok
  conv => whnf
  refine ⟨ok, b, h1, ?_⟩
  conv => whnf
  refine ⟨ok2, b, h2, ?_⟩
  conv => whnf
  refine ⟨ok, b, h1, ?_⟩
  conv => whnf
  refine ⟨ok2, b, h2, ?_⟩
  conv => whnf
  refine ⟨by show (4 : Nat) ≤ sizeLine; decide, ?_⟩
  cases b
  all_goals
    conv => whnf
    refine ⟨_, rfl, b4 _ _ _ _, ?_⟩
    conv => whnf
    refine ⟨by show (4 : Nat) ≤ sizeLine; decide, ?_⟩
    conv => whnf
    refine ⟨_, rfl, b4 _ _ _ _, ?_⟩
    conv => whnf
    have e : ∀ x y : Str, x = y → Φ (.bl (if false = true then !decide (x = y) else decide (x = y))) [] := fun x y h => by rw [if_neg (by simp), decide_eq_true h]; exact hΦ
    exact e _ _ rfl
set_option maxHeartbeats 8000000 in
theorem ok__law_right (T : Tx K mg) : FnG P w K mg base 12 T.a__law_right T.d__law_right ["_law_spring_here"] (spD K 1 1 S__law_right) := by
  refine fnGD T.F__law_right sc__law_right fun cdv A outer s H E hgu hr => ⟨_, (psd_cons (psd_par (i := 1) (j := 2) rfl sc__law_right.nd (pd_callM (ok__law_spec T) (hr.mono (by decide)) T.g__law_spec T.F__law_spec.kp T.b__law_spec pass0 (pds_cons (pd_v 0) pds_nil)) (pd_callM (ok__law_shuts T) (hr.mono (by decide)) T.g__law_shuts T.F__law_shuts.kp T.b__law_shuts pass0 (pds_cons (pd_v 0) (pds_cons pd_int (pds_cons pd_int (pds_cons pd_int pds_nil)))))) (psd_cons (psd_par (i := 3) (j := 4) rfl sc__law_right.nd (pd_callP (ok__law_joined T) (hr.mono (by decide)) T.g__law_joined T.F__law_joined.kp T.b__law_joined pass0 (pds_cons (pd_v 1) pds_nil)) (pd_callP (ok__law_plan T) (hr.mono (by decide)) T.g__law_plan T.F__law_plan.kp T.b__law_plan pass0 (pds_cons (pd_v 2) pds_nil))) (psd_cons (psd_set (i := 5) sc__law_right.nd (pd_tup (pds_cons (pd_ix (pd_v 1) pd_int) (pds_cons (pd_add (pd_sl (pd_ix (pd_v 1) pd_int) (po_so pd_int) po_no) (pd_sl (pd_ix (pd_v 1) pd_int) po_no (po_so pd_int))) (pds_cons (pd_add (pd_sl (pd_ix (pd_v 1) pd_int) (po_so pd_int) po_no) (pd_sl (pd_ix (pd_v 1) pd_int) po_no (po_so pd_int))) pds_nil))))) (psd_cons (psd_if (pdt_eq hr (pd_callM (ok__law_take T) (hr.mono (by decide)) T.g__law_take T.F__law_take.kp T.b__law_take pass0 (pds_cons (pd_v 0) (pds_cons pd_int pds_nil))) pd_int) (psd_one (psd_set (i := 5) sc__law_right.nd (pd_tup (pds_cons (pd_ix (pd_v 1) pd_int) (pds_cons (pd_sl (pd_ix (pd_v 1) pd_int) po_no (po_so (pd_neg pd_int))) (pds_cons (pd_ix (pd_v 1) pd_int) pds_nil)))))) psd_nil) (psd_cons (psd_set (i := 6) sc__law_right.nd (pd_add (pd_sl (pd_v 2) (po_so pd_int) po_no) (pd_sl (pd_v 2) po_no (po_so pd_int)))) (psd_cons (psd_if (pdt_eq hr (pd_callM (ok__law_take T) (hr.mono (by decide)) T.g__law_take T.F__law_take.kp T.b__law_take pass0 (pds_cons (pd_v 0) (pds_cons pd_int pds_nil))) pd_int) (psd_cons (psd_asg (pd_ix (pd_v 2) (pd_neg pd_int)) (pgd_tup rfl (pgds_cons (pgd_name (i := 7) sc__law_right.nd) (pgds_cons (pgd_name (i := 8) sc__law_right.nd) (pgds_cons (pgd_name (i := 9) sc__law_right.nd) pgds_nil))))) (psd_one (psd_set (i := 6) sc__law_right.nd (pd_add (pd_sl (pd_v 2) po_no (po_so (pd_neg pd_int))) (pd_tup (pds_cons (pd_tup (pds_cons (pd_v 7) (pds_cons (pd_v 8) (pds_cons (pd_if (pdt_eq hr (pd_v 9) pd_str) pd_str pd_str) pds_nil)))) pds_nil)))))) psd_nil) (psd_cons (psd_asg (pd_tup (pds_cons (pd_make T.mk_Borders (ok_Borders___init__ T) (hr.mono (by decide)) T.g_Borders T.b_Borders___init__ pass0 (pds_cons (pd_v 3) pds_nil)) (pds_cons (pd_make T.mk_Room (ok_Room___init__ T) (hr.mono (by decide)) T.g_Room T.b_Room___init__ pass0 (pds_cons (pd_v 4) pds_nil)) (pds_cons (pd_make0 T.mk_Book (ok_Book___init__ T) (hr.mono (by decide)) T.g_Book T.b_Book___init__ pass0) pds_nil)))) (pgd_tup rfl (pgds_cons (pgd_name (i := 10) sc__law_right.nd) (pgds_cons (pgd_name (i := 11) sc__law_right.nd) (pgds_cons (pgd_name (i := 12) sc__law_right.nd) pgds_nil))))) (psd_cons (psd_set (i := 13) sc__law_right.nd (pd_lst (pds_cons pd_non (pds_cons pd_int (pds_cons pd_int (pds_cons pd_bl (pds_cons pd_str (pds_cons (pd_v 3) (pds_cons (pd_v 4) (pds_cons (pd_tup pds_nil) (pds_cons (pd_tup (pds_cons (pd_v 3) pds_nil)) (pds_cons (pd_lst (pds_cons (pd_v 3) pds_nil)) (pds_cons pd_dict0 (pds_cons (pd_v 1) (pds_cons (pd_v 2) (pds_cons (pd_len (pd_v 2) T.n_len) pds_nil)))))))))))))))) (psd_cons (psd_for PassesOwn.never rfl (pid_range1 pd_int T.n_range) (pgd_name (i := 14) sc__law_right.nd) (psd_cons (psd_if (PDw.pt (pdw_or (pdt_not (pdt_val (pd_callPG (ok__law_pair T) hgu (hr.mono (by decide)) T.g__law_pair T.F__law_pair.kp T.b__law_pair pass0 (pds_cons (pd_v 10) (pds_cons (pd_make T.mk_Borders (ok_Borders___init__ T) (hr.mono (by decide)) T.g_Borders T.b_Borders___init__ pass0 (pds_cons (pd_v 3) pds_nil)) (pds_cons pd_bl pds_nil)))))) (pdw_or1 (pdt_not (pdt_val (pd_callPG (ok__law_pair T) hgu (hr.mono (by decide)) T.g__law_pair T.F__law_pair.kp T.b__law_pair pass0 (pds_cons (pd_v 11) (pds_cons (pd_make T.mk_Room (ok_Room___init__ T) (hr.mono (by decide)) T.g_Room T.b_Room___init__ pass0 (pds_cons (pd_v 4) pds_nil)) (pds_cons pd_bl pds_nil))))))))) (psd_one (psd_ret pd_bl)) psd_nil) (psd_cons (psd_if (pdt_not (pdt_val (pd_callPG (ok__law_pair T) hgu (hr.mono (by decide)) T.g__law_pair T.F__law_pair.kp T.b__law_pair pass0 (pds_cons (pd_v 10) (pds_cons (pd_make T.mk_Borders (ok_Borders___init__ T) (hr.mono (by decide)) T.g_Borders T.b_Borders___init__ pass0 (pds_cons (pd_callP (ok__law_joined T) (hr.mono (by decide)) T.g__law_joined T.F__law_joined.kp T.b__law_joined pass0 (pds_cons (pd_v 5) pds_nil)) pds_nil)) (pds_cons (pd_eq hr (pd_v 3) (pd_callP (ok__law_joined T) (hr.mono (by decide)) T.g__law_joined T.F__law_joined.kp T.b__law_joined pass0 (pds_cons (pd_v 5) pds_nil))) pds_nil)))))) (psd_one (psd_ret pd_bl)) psd_nil) (psd_cons (psd_if (pdt_not (pdt_val (pd_callPG (ok__law_pair T) hgu (hr.mono (by decide)) T.g__law_pair T.F__law_pair.kp T.b__law_pair pass0 (pds_cons (pd_v 11) (pds_cons (pd_make T.mk_Room (ok_Room___init__ T) (hr.mono (by decide)) T.g_Room T.b_Room___init__ pass0 (pds_cons (pd_callP (ok__law_plan T) (hr.mono (by decide)) T.g__law_plan T.F__law_plan.kp T.b__law_plan pass0 (pds_cons (pd_v 6) pds_nil)) pds_nil)) (pds_cons (pd_eq hr (pd_v 4) (pd_callP (ok__law_plan T) (hr.mono (by decide)) T.g__law_plan T.F__law_plan.kp T.b__law_plan pass0 (pds_cons (pd_v 6) pds_nil))) pds_nil)))))) (psd_one (psd_ret pd_bl)) psd_nil) (psd_cons (psd_for PassesOwn.never rfl (pid_list (pd_add (pd_v 13) (pd_lst (pds_cons (pd_v 12) pds_nil)))) (pgd_name (i := 15) sc__law_right.nd) (psd_one (psd_if (PDw.pt (pdw_or (pdt_not (pdt_val (pd_callPG (ok__law_pair T) hgu (hr.mono (by decide)) T.g__law_pair T.F__law_pair.kp T.b__law_pair pass0 (pds_cons (pd_v 10) (pds_cons (pd_v 15) (pds_cons pd_bl pds_nil)))))) (pdw_or1 (pdt_not (pdt_val (pd_callPG (ok__law_pair T) hgu (hr.mono (by decide)) T.g__law_pair T.F__law_pair.kp T.b__law_pair pass0 (pds_cons (pd_v 11) (pds_cons (pd_v 15) (pds_cons pd_bl pds_nil))))))))) (psd_one (psd_ret pd_bl)) psd_nil))) (psd_cons (psd_if (PDw.pt (pdw_or (pdt_not (pdt_val (pd_callPG (ok__law_pair T) hgu (hr.mono (by decide)) T.g__law_pair T.F__law_pair.kp T.b__law_pair pass0 (pds_cons (pd_v 10) (pds_cons (pd_v 11) (pds_cons pd_bl pds_nil)))))) (pdw_or1 (pdt_not (pdt_val (pd_callPG (ok__law_pair T) hgu (hr.mono (by decide)) T.g__law_pair T.F__law_pair.kp T.b__law_pair pass0 (pds_cons (pd_v 12) (pds_cons (pd_apart 12 (pd_make0 T.mk_Book (ok_Book___init__ T) (hr.mono (by decide)) T.g_Book T.b_Book___init__ pass0)) (pds_cons pd_bl pds_nil))))))))) (psd_one (psd_ret pd_bl)) psd_nil) (psd_cons (psd_if (pdt_not (pdt_val (pd_all rfl (pd_lc (i := 15) rfl sc__law_right.nd (pid_list (pd_v 13)) (by kernel_rfl) (fun _ _ _ _ _ => pg_name (i := 15) sc__law_right.nd rfl (Or.inl rfl)) (fun _ _ _ _ _ => ptd_nil) (fun _ _ _ _ _ => (pd_callPG (ok__law_pair T) hgu (hr.mono (by decide)) T.g__law_pair T.F__law_pair.kp T.b__law_pair pass0 (pds_cons (pd_v 12) (pds_cons (pd_v 15) (pds_cons pd_bl pds_nil)))))) T.n_all))) (psd_one (psd_ret pd_bl)) psd_nil) (psd_one (psd_if (pdt_ne hr (pd_repr hgu hr.units (pd_lst (pds_cons (pd_boolP T.bool_Borders T.nolen_Borders (pd_v 10) T.n_bool) (pds_cons (pd_boolO (ok_Room___len__ T) T.bool_Room T.f_Room___len__ T.k_Room___len__ T.b_Room___len__ pass0 (hr.mono (by decide)) (pd_v 11) T.n_bool) (pds_cons (pd_boolB (ok_Book___bool__ T) T.f_Book___bool__ T.k_Book___bool__ T.b_Book___bool__ pass0 (hr.mono (by decide)) (pd_v 12) T.n_bool) (pds_cons (pd_lenO (ok_Book___len__ T) T.f_Book___len__ T.k_Book___len__ T.b_Book___len__ pass0 (hr.mono (by decide)) (pd_v 12) T.n_len) pds_nil))))) T.n_repr) (pd_repr hgu hr.units (pd_lst (pds_cons pd_bl (pds_cons pd_bl (pds_cons pd_bl (pds_cons pd_int pds_nil))))) T.n_repr)) (psd_one (psd_ret pd_bl)) psd_nil))))))))) (psd_one (psd_ret pd_bl))))))))))), ?_⟩
  rintro c ds Φ hc - ⟨a, b, k, rfl, rfl, hB, hΦ⟩
  conv => whnf
  refine ⟨rfl, ?_⟩
  refine spec_call (rest := []) hB (by decide) fun s a1 b1 k1 hs hB1 => ?_
  conv => whnf
  refine ⟨rfl, ?_⟩
  refine shuts_call (rest := []) hB1 (by decide) fun ss a2 b2 k2 hss hsn hB2 => ?_
  conv => whnf
  refine ⟨rfl, sp_ok s, s, rfl, hs, ?_⟩
  conv => whnf
  refine ⟨rfl, shs1 ss, ss, rfl, hss, ?_⟩
  have lp := hs.np
  have lj := hs.nj
  conv => whnf
  refine ⟨cut_short (by rw [List.length_map]; omega), ?_⟩
  conv => whnf
  refine ⟨cut_short (by rw [List.length_map]; omega), ?_⟩
  conv => whnf
  refine ⟨by show (3 : Nat) ≤ sizeLine; decide, ?_⟩
  rw [rot_d s]
  dsimp only
  refine seq_join (fun ρ c => ∃ (t : Sp) (a b k : Int), t.ok ∧ B3 a b k 1050 ∧ ρ = [some (.cell 0), some s.d, some (shsD ss), some (.str s.text), some (.str (planS ss)), some t.d, none, none, none, none, none, none, none, none, none, none] ∧ c = [spr a b k]) ?fin fun R hR => ?h
  case h =>
    conv => whnf
    refine ⟨rfl, ?_⟩
    refine take_call (rest := []) hB2 (by decide) (by decide) fun v a3 b3 k3 v0 v1 hB3 => ?_
    conv => whnf
    split
    · conv => whnf
      refine ⟨by show (3 : Nat) ≤ sizeLine; decide, ?_⟩
      rw [less_d s]
      exact hR _ _ ⟨s.less, a3, b3, k3, Sp.less_ok hs, hB3, rfl, rfl⟩
    · exact hR _ _ ⟨s.rot, a3, b3, k3, Sp.rot_ok hs, hB3, rfl, rfl⟩
  rintro ρ c ⟨t, a3, b3, k3, ht, hB3, rfl, rfl⟩
  conv => whnf
  refine ⟨cut_short (by rw [List.length_map]; exact hss.1), ?_⟩
  rw [cut_rot, ← rot_map]
  dsimp only
  refine seq_join (fun ρ c => ∃ (uu : List Sh) (a b k : Int) (x7 x8 x9 : Option D), oks uu ∧ uu ≠ [] ∧ B3 a b k 1051 ∧ ρ = [some (.cell 0), some s.d, some (shsD ss), some (.str s.text), some (.str (planS ss)), some t.d, some (shsD uu), x7, x8, x9, none, none, none, none, none, none] ∧ c = [spr a b k]) ?fin2 fun R hR => ?h2
  case h2 =>
    conv => whnf
    refine ⟨rfl, ?_⟩
    refine take_call (rest := []) hB3 (by decide) (by decide) fun v a4 b4 k4 v0 v1 hB4 => ?_
    conv => whnf
    split
    · obtain ⟨ini, x, rfl⟩ : ∃ ini x, ss = ini ++ [x] := ⟨ss.dropLast, ss.getLast hsn, (List.dropLast_concat_getLast hsn).symm⟩
      conv => whnf
      rw [atl]
      obtain ⟨xl, xn, xo⟩ := x
      conv => whnf
      refine ⟨rfl, ?_⟩
      conv => whnf
      refine ⟨rfl, ?_⟩
      cases xo
      all_goals
        conv => whnf
        refine ⟨by show (3 : Nat) ≤ sizeLine; decide, ?_⟩
        conv => whnf
        refine ⟨by show (1 : Nat) ≤ sizeLine; decide, ?_⟩
        conv => whnf
        refine ⟨cut_short1 (by rw [List.length_map]; exact hss.1) (Nat.le_refl 1), ?_⟩
        rw [cut_less, List.map_append, show List.map Sh.d [_] = [Sh.d _] from rfl, List.dropLast_concat]
        first
          | exact hR _ _ ⟨ini ++ [⟨xl, xn, true⟩], a4, b4, k4, _, _, _, oks_flip hss, by simp, hB4, by rw [sh_app ini ⟨xl, xn, true⟩]; rfl, rfl⟩
          | exact hR _ _ ⟨ini ++ [⟨xl, xn, false⟩], a4, b4, k4, _, _, _, oks_flip hss, by simp, hB4, by rw [sh_app ini ⟨xl, xn, false⟩]; rfl, rfl⟩
    · exact hR _ _ ⟨rot ss, a4, b4, k4, none, none, none, (oks_rot hss hsn).1, (oks_rot hss hsn).2, hB4, rfl, rfl⟩
  rintro ρ c ⟨uu, a4, b4, k4, x7, x8, x9, hu, hun, hB4, rfl, rfl⟩
  conv => whnf
  refine ⟨rfl, rfl, s, rfl, rfl, hs, fun zs y1 y2 y3 => ⟨rfl, rfl, flds_ok s zs, ?_⟩⟩
  have hz : tits s zs := ⟨y1, y2, y3⟩
  conv => whnf
  refine ⟨rfl, rfl, ss, rfl, rfl, hss, hsn, rfl, rfl, rfld_ok ss _, ?_⟩
  conv => whnf
  refine ⟨rfl, rfl, rfl, rfl, fun bx => ⟨rfl, rfl, rfl, ?_⟩⟩
  conv => whnf
  refine ⟨by show (3 : Nat) ≤ sizeLine; decide, ?_⟩
  conv => whnf
  refine ⟨rfl, ?_⟩
  conv => whnf
  refine ⟨rfl, ?_⟩
  conv => whnf
  refine ⟨Nat.zero_le _, ?_⟩
  conv => whnf
  refine ⟨by show (1 : Nat) ≤ sizeLine; decide, ?_⟩
  conv => whnf
  refine ⟨by show (1 : Nat) ≤ sizeLine; decide, ?_⟩
  conv => whnf
  refine ⟨by show (14 : Nat) ≤ sizeLine; decide, ?_⟩
  conv => whnf
  refine ⟨by omega, ?_⟩
  obtain ⟨SL, hSL, hlen, eSL⟩ : ∃ SL : List D, (∀ d ∈ SL, plainD d ∧ okD 0 d = true) ∧ SL.length = 14 ∧ SL = someL s ss := ⟨_, some_ok s ss, rfl, rfl⟩
  refine forD_inv (fun ds ρ c => ∃ x14 x15 : Option D, ρ = [some (.cell 0), some s.d, some (shsD ss), some (.str s.text), some (.str (planS ss)), some t.d, some (shsD uu), x7, x8, x9, some (bD T.C_Borders s zs), some (roomD T.C_Room (planS ss) (shsD ss) (lettersS ss)), some (bookD T.C_Book T.C_Page bx), some (.lst SL), x14, x15] ∧ c = [spr a4 b4 k4]) ?_ ?_ _ _ _ ⟨none, none, by rw [eSL]; rfl, rfl⟩
  · rintro ρ c ⟨x14, x15, rfl, rfl⟩
    conv => whnf
    exact hΦ _ _ _
  · rintro d ds ρ c F hF ⟨x14, x15, rfl, rfl⟩
    have oB := bD_ok T.C_Borders s zs
    have oR := rD_ok T.C_Room ss (lettersS ss)
    have oK := kD_ok T.C_Book T.C_Page bx
    conv => whnf
    refine ⟨rfl, rfl, s, rfl, rfl, hs, fun zs1 y1 y2 y3 => ⟨rfl, rfl, flds_ok s zs1, ?_⟩⟩
    conv => whnf
    refine ⟨rfl, pair_call oB (bD_ok _ _ _) (two_BBt T s zs zs1) ?_⟩
    conv => whnf
    refine ⟨rfl, rfl, ss, rfl, rfl, hss, hsn, rfl, rfl, rfld_ok ss _, ?_⟩
    conv => whnf
    refine ⟨rfl, pair_call oR (rD_ok _ _ _) (two_RRt T _ _ _ _ _) ?_⟩
    conv => whnf
    refine ⟨rfl, sp_ok t, t, rfl, ht, ?_⟩
    conv => whnf
    refine ⟨rfl, rfl, t, rfl, rfl, ht, fun zt y1 y2 y3 => ⟨rfl, rfl, flds_ok t zt, ?_⟩⟩
    conv => whnf
    refine ⟨rfl, sp_ok t, t, rfl, ht, ?_⟩
    conv => whnf
    refine ⟨rfl, pair_call oB (bD_ok _ _ _) (two_if (two_BB T s t zs zt)) ?_⟩
    conv => whnf
    refine ⟨rfl, shs1 uu, uu, rfl, hu, ?_⟩
    conv => whnf
    refine ⟨rfl, rfl, uu, rfl, rfl, hu, hun, rfl, rfl, rfld_ok uu _, ?_⟩
    conv => whnf
    refine ⟨rfl, shs1 uu, uu, rfl, hu, ?_⟩
    conv => whnf
    refine ⟨rfl, pair_call oR (rD_ok _ _ _) (two_if (two_RR T _ _ _ _ _ _)) ?_⟩
    conv => whnf
    refine ⟨by show (1 : Nat) ≤ sizeLine; decide, ?_⟩
    conv => whnf
    refine ⟨by rw [hlen]; show (15 : Nat) ≤ sizeLine; decide, ?_⟩
    refine forD_inv (fun ds ρ c => ∃ y15 : Option D, (∀ e ∈ ds, (plainD e ∧ okD 0 e = true) ∨ e = bookD T.C_Book T.C_Page bx) ∧ ρ = [some (.cell 0), some s.d, some (shsD ss), some (.str s.text), some (.str (planS ss)), some t.d, some (shsD uu), x7, x8, x9, some (bD T.C_Borders s zs), some (roomD T.C_Room (planS ss) (shsD ss) (lettersS ss)), some (bookD T.C_Book T.C_Page bx), some (.lst SL), some d, y15] ∧ c = [spr a4 b4 k4]) ?_ ?_ _ _ _ ⟨x15, ?_, rfl, rfl⟩
    · rintro ρ c ⟨y15, -, rfl, rfl⟩
      conv => whnf
      refine ⟨rfl, pair_call oB oR (two_BR T s zs _ _ _) ?_⟩
      conv => whnf
      refine ⟨_, _, bx, _, _, _, rfl, plain_spr _ _ _, ?_⟩
      conv => whnf
      refine ⟨rfl, rfl, rfl, rfl, fun b' => ⟨rfl, rfl, rfl, _, _, b', _, _, _, rfl, rfl, fun ne => ?_⟩⟩
      conv => whnf
      refine ⟨rfl, pair_call oK (kD_ok _ _ _) (two_KK T ne) ?_⟩
      conv => whnf
      refine lc_map (c := [spr a4 b4 k4]) (fun _ => .bl true) rfl SL (fun e he => ⟨rfl, fun acc Ψ _ h => ?_⟩) (by rw [hlen]; decide) ?_
      · conv => whnf
        exact ⟨rfl, pair_call oK (hSL e he).2 (two_Kp T bx (hSL e he).1) h⟩
      conv => whnf
      refine ⟨_, bls_all SL, ?_⟩
      conv => whnf
      rw [all_all]
      conv => whnf
      refine ⟨_, _, rfl, ?_⟩
      conv => whnf
      refine ⟨⟨_, _, rfl⟩, okR1 T.C_Room ss _, planS ss, ss.map Sh.d, lettersS ss, rfl, _, rfl, ⟨by omega, by rw [List.length_map]; have := hss.1; omega⟩, ?_⟩
      rw [len_tru hsn]
      conv => whnf
      refine ⟨⟨_, _, rfl⟩, rfl, bx, rfl, true, rfl, ?_⟩
      conv => whnf
      refine ⟨⟨_, _, rfl⟩, rfl, bx, rfl, 0, rfl, ⟨by decide, by decide⟩, ?_⟩
      conv => whnf
      refine ⟨by show (4 : Nat) ≤ sizeLine; decide, ?_⟩
      conv => whnf
      refine ⟨_, rfl, b3i _ _ _, ?_⟩
      conv => whnf
      refine ⟨by show (4 : Nat) ≤ sizeLine; decide, ?_⟩
      conv => whnf
      refine ⟨_, rfl, b3i _ _ _, ?_⟩
      conv => whnf
      exact hF _ _ ⟨some d, y15, rfl, rfl⟩
    · rintro e es ρ c G hG ⟨y15, he, rfl, rfl⟩
      have pe : okD 0 e = true ∧ Two T (bD T.C_Borders s zs) e false ∧ Two T (roomD T.C_Room (planS ss) (shsD ss) (lettersS ss)) e false := by
        rcases he e (.head _) with ⟨h1, h2⟩ | rfl
        · exact ⟨h2, two_Bp T s zs h1, two_Rp T _ _ _ h1⟩
        · exact ⟨oK, two_BK T s zs bx, two_RK T _ _ _ bx⟩
      conv => whnf
      refine ⟨rfl, pair_call oB pe.1 pe.2.1 ?_⟩
      conv => whnf
      refine ⟨rfl, pair_call oR pe.1 pe.2.2 ?_⟩
      exact hG _ _ ⟨some e, fun x hx => he x (.tail _ hx), rfl, rfl⟩
    · intro e he
      rcases List.mem_append.mp he with z | z
      · exact .inl (hSL e z)
      · exact .inr (List.mem_singleton.mp z)

end
end K17

namespace K17
open PySem PySem.Spec PyProof.Rows L2 Cw
theorem inner_more {acc : List D} {y : D} {ex : List Cell} {Q : List Cell → Prop} (ha : okDs 0 acc = true) (hy : okD 1 y = true) (q : Q []) : inner 0 acc y (.lst acc :: ex) Q := by
  refine ⟨rfl, ?_⟩
  cases ex with
  | nil => exact q
  | cons e r =>
    refine ⟨?_, hy, q⟩
    show (okDs 1 acc && true) = true
    rw [show okDs 1 acc = true from okDs_up _ ha]; rfl
theorem lc_fresh {i : Nat} {te : TD} {ρ : Cw.Env} {Φ : List D → List Cell → Prop} (f : D → D) : ∀ (ds acc : List D),
    (∀ d ∈ ds, okD 0 (f d) = true ∧ ∀ acc (Ψ : D → List Cell → Prop), (∀ ex, Ψ (f d) (.lst acc :: ex)) → te (ρ.set i (some d)) [.lst acc] Ψ) →
    okDs 0 acc = true → acc.length + ds.length ≤ sizeLine → Φ (acc ++ ds.map f) [] → lcD i dYes te ds acc ρ [] Φ
  | [], acc, _, h, _, q => ⟨rfl, h, by simpa using q⟩
  | d :: ds, acc, he, h, hl, q => by
    have hl' : acc.length + (ds.length + 1) ≤ sizeLine := hl
    obtain ⟨hk, ht⟩ := he d List.mem_cons_self
    show te _ _ _
    refine ht acc _ fun ex => ⟨by omega, inner_more h (okD_up _ hk) ?_⟩
    refine lc_fresh f ds _ (fun x hx => he x (List.mem_cons_of_mem _ hx)) (okDs_app h (okDs_one hk)) (by rw [List.length_append]; show acc.length + 1 + ds.length ≤ _; omega) ?_
    simpa using q
theorem oki : ∀ ns : List Int, okDs 0 (ns.map D.int) = true
  | [] => rfl
  | n :: ns => by
    show (true && okDs 0 (ns.map D.int)) = true
    rw [oki ns]; rfl
theorem bls_true : ∀ ds : List D, Cw.bls (ds.map fun _ => D.bl true) = some (ds.map fun _ => true)
  | [] => rfl
  | d :: ds => by
    have ih := bls_true ds
    show (Cw.bls (D.bl true :: ds.map fun _ => D.bl true)) = _
    simp only [Cw.bls, ih]
    rfl
theorem all_true (ds : List D) : (ds.map fun _ => true).all id = true := by simp
def S_law : Pm := fun c ds Φ => ∃ ns, ds = [intsD ns] ∧ ns.length ≤ 63 ∧ Φ (.bl true) c
section
variable {P : Program} {w : World} {K : PySem.W.Frag} {mg : Str → Option Value} {base : Heap}
set_option maxHeartbeats 8000000 in
theorem ok_law (T : Tx K mg) : FnG P w K mg base 13 T.a_law T.d_law ["_law_cells"] (spD K 0 1 S_law) := by
  refine fnGD T.F_law sc_law fun cdv A outer s H E hgu hr => ⟨_, (psd_one (psd_ret (pd_all rfl (pd_lc (i := 1) rfl sc_law.nd (pid_range1 (pd_max rfl pd_int (pd_min rfl (pd_len (pd_v 0) T.n_len) pd_int T.n_min) T.n_max) T.n_range) (by kernel_rfl) (fun _ _ _ _ _ => pg_name (i := 1) sc_law.nd rfl (Or.inl rfl)) (fun _ _ _ _ _ => ptd_nil) (fun _ _ _ _ _ => (pd_callMG (ok__law_right T) hgu (hr.mono (by decide)) T.g__law_right T.F__law_right.kp T.b__law_right pass0 (pds_cons (pd_callN (ok__law_spring T) (hr.mono (by decide)) T.g__law_spring T.F__law_spring.kp T.b__law_spring pass0 (pds_cons (pd_v 0) (pds_cons (pd_v 1) pds_nil))) pds_nil)))) T.n_all))), ?_⟩
  rintro c ds Φ hc - ⟨ns, rfl, hl, hΦ⟩
  cases c with
  | cons _ _ => cases hc
  | nil =>
  conv => whnf
  have hnl : ((ns.map D.int).length : Int) ≤ 63 := by rw [List.length_map]; omega
  generalize hM : (if (if 5 < ((ns.map D.int).length : Int) then 5 else ((ns.map D.int).length : Int)) > 2 then (if 5 < ((ns.map D.int).length : Int) then 5 else ((ns.map D.int).length : Int)) else 2) = M
  have hM' : 0 ≤ M ∧ M ≤ 5 := by
    subst hM
    split <;> split <;> omega
  refine ⟨by omega, ?_⟩
  refine lc_fresh (fun _ => .bl true) _ [] ?_ rfl ?_ ?_
  · intro d hd
    obtain ⟨j, hj, rfl⟩ := List.mem_map.mp hd
    have hj := List.mem_range.mp hj
    refine ⟨rfl, fun acc Ψ h => ?_⟩
    conv => whnf
    refine ⟨rfl, ?_, ns, _, rfl, ⟨by omega, by omega⟩, hl, fun a b ha hb => ?_⟩
    · show (okDs 0 (ns.map D.int) && (true && true)) = true
      rw [oki]; rfl
    · conv => whnf
      exact ⟨rfl, spr a b 0, rfl, rfl, rfl, a, b, 0, rfl, rfl, ⟨ha, hb, by decide, by decide⟩, fun a' b' k' => ⟨rfl, rfl, h [spr a' b' k']⟩⟩
  · show 0 + (rng 0 M.toNat).length ≤ _
    rw [rng_len]; exact short (by omega)
  · conv => whnf
    refine ⟨_, bls_true _, ?_⟩
    rw [all_true]
    exact hΦ

end
end K17

namespace K17
open PySem PySem.Spec PyProof.Rows L2 Cw
theorem tabs_nil (h : lamFns = []) (K : PySem.W.Frag) : tabsK K = [] := by
  unfold tabsK
  refine List.filterMap_eq_nil_iff.mpr fun p _ => ?_
  unfold tabOfCode
  split
  · split
    · rw [if_neg (by rw [h]; simp)]
    · rfl
  · rfl
theorem law_in {K : PySem.W.Frag} {H : Hp} {a : Addr} {ns : List Int} (hl : ns.length ≤ 63) (h : SqL K H a (ns.map V.int)) : spD K 0 1 S_law [.ref a] H (fun v _ => v = .bl true) fun _ _ _ => False := by
  have e : hid ⟨[], []⟩ H = H := by funext b; unfold hid; simp
  have ri : ∀ ns : List Int, RL K [] H (ns.map D.int) (ns.map V.int) := fun ns => by
    induction ns with
    | nil => rfl
    | cons n ns ih => exact ⟨_, _, rfl, rfl, ih⟩
  refine ⟨⟨[], []⟩, [], [intsD ns], fun d _ => d = .bl true, rfl, rfl, ⟨rfl, List.nodup_nil, fun k ce e => by simp at e, fun b hb => absurd (show b ∈ ([] : List Addr) from hb) (by simp), fun b hb => absurd (show b ∈ ([] : List Addr) from hb) (by simp), fun p hp => by rw [tabs_nil rfl K] at hp; cases hp⟩, ?_, ⟨ns, rfl, hl, rfl⟩, fun d c' w H' hd _ r _ => ?_⟩
  · show RL K [] (hid ⟨[], []⟩ H) [intsD ns] [.ref a]
    rw [e]
    exact ⟨.ref a, [], rfl, ⟨a, _, rfl, h, ri ns⟩, rfl⟩
  · subst hd
    exact r
theorem fin {l : PySem.W.OpenLaw} {w : World} {K : PySem.W.Frag} {mg : Str → Option Value} {fa : Addr} (T : Tx K mg) (hb : ∀ (s : Shared) (v : Value), BindsTo s T.d_law ⟨[v], []⟩ [("_law_cells", v)]) (hfa : mg "law" = some (.ref fa)) :
    ∃ fd : FuncData, (∀ (s : Shared) (v : Value), BindsTo s fd ⟨[v], []⟩ [("_law_cells", v)]) ∧ ∀ base : Heap, K.In base → base.Ns mainGlobals mg → FnG l.prog w K mg base 13 fa fd ["_law_cells"] (spD K 0 1 S_law) := by
  have e := hfa.symm.trans T.g_law
  have e : fa = T.a_law := by injection e with e; injection e
  subst e
  exact ⟨T.d_law, hb, fun base _ _ => ok_law T⟩
theorem walkL {l : PySem.W.OpenLaw} {q : Program} {loose : List Str} {XP : (Str → Option Value) → Heap → Prop} {YP : World → Heap → Prop} {d : DefRec} {K : Params → PySem.W.Frag} (hn : l.most = some 63) (hdf : d.params.defaults = [])
    (hY : ∀ (w : World) (h : Heap), YP w h → (K w.params).In h)
    (F : ∀ (w : World) (mg : Str → Option Value) (fa : Addr) (h : Heap), (K w.params).In h → h.Ns mainGlobals mg → mg d.name = some (.ref fa) →
      ∃ fd : FuncData, (∀ (s : Shared) (u : Value), BindsTo s fd ⟨[u], []⟩ [("_law_cells", u)]) ∧ ∀ base : Heap, (K w.params).In base → base.Ns mainGlobals mg → FnG l.prog w (K w.params) mg base 13 fa fd ["_law_cells"] (spD (K w.params) 0 1 S_law)) :
    PySem.W.WalkO q loose XP YP l.row.toRowW d [] (fun f vs => PySem.call f vs) :=
  walkG (n := 63) (k := 13) (x := "_law_cells") (sp := fun w => spD (K w.params) 0 1 S_law) hn (by decide) hdf ⟨rfl, by decide, by decide⟩ hY F fun _ _ _ _ _ hl _ _ hS => law_in hl hS
end K17
open PySem PySem.W PyProof.Rows
local macro_rules | `(tactic| o_head $h:term) => `(tactic| refine K17.head_kk (r := K17.rowR) (q := K17.qvR) (M := 30000) (loose := K17.namesR) (kwd := []) (h := $h) rfl (by kernel_rfl) (fun s => by kernel_rfl) K17.runT (by rfl) (by rfl) (by rfl) (by rfl) (by first | assumption | decide +kernel) (by decide +kernel) ⟨rfl, rfl, rfl, rfl, rfl, by decide +kernel⟩ ?hw ?hc)
set_option maxRecDepth 100000 in
set_option maxHeartbeats 0 in
theorem PySem.Challenge.cw_cornerways_k17_equal_and_unlike_values_holds : PySem.Challenge.rw_cornerways_k17_equal_and_unlike_values.Holds := by
  w_on; o_law; k_head; (case hw => w_witness2)
  k_fill
  refine K17.walkL (l := PySem.Challenge.rw_cornerways_k17_equal_and_unlike_values) rfl rfl (fun w h Y => PySem.W.kIn_of Y) ?F
  case F =>
    intro w mg fa h KX G hmg
    refine' K17.fin (K17.mkTx KX G ?z_all ?z_len ?z_isinstance ?z_str ?z_int ?z_tuple ?z_range ?z_sorted ?z_set ?z_abs ?z_divmod ?z_repr ?z_bool ?z_max ?z_min ?s_LETTERS ?s_DIGITS ?s_LONGEST_WORD ?s_MOST_CLAIMED ?s_MOST_SIGNS ?s_MOST_PIECES ?s_MOST_CORNERS ?s_MOST_NAMES ?s_MOST_LONG ?s_MOST_COST ?s_MOST_SIDES ?s_MOST_PLUS ?s_MOST_SIZE ?s_MOST_TABLE ?s_NO_COST ?s_TURNS ?l_TURNS ?s_SIDE_LETTERS ?l_SIDE_LETTERS ?ag_is_letters ?l_is_letters ?c_is_letters ?k_is_letters ?ag_is_word ?l_is_word ?c_is_word ?k_is_word ?ag_number_of ?l_number_of ?c_number_of ?k_number_of ?ag_signs_of ?l_signs_of ?c_signs_of ?k_signs_of ?ag_states_of ?l_states_of ?c_states_of ?k_states_of ?ag_piece_of ?l_piece_of ?c_piece_of ?k_piece_of ?ag_corner_of ?l_corner_of ?c_corner_of ?k_corner_of ?ag_names_of ?l_names_of ?c_names_of ?k_names_of ?ag_pieces_fit ?l_pieces_fit ?c_pieces_fit ?k_pieces_fit ?ag_corners_fit ?l_corners_fit ?c_corners_fit ?k_corners_fit ?ag_parts_of ?l_parts_of ?c_parts_of ?k_parts_of ?ag_plus_of ?l_plus_of ?c_plus_of ?k_plus_of ?ag_side_of ?l_side_of ?c_side_of ?k_side_of ?ag_sides_of ?l_sides_of ?c_sides_of ?k_sides_of ?ag__law_spring ?l__law_spring ?c__law_spring ?k__law_spring ?ag__law_take ?l__law_take ?c__law_take ?k__law_take ?ag__law_word ?l__law_word ?c__law_word ?k__law_word ?ag__law_words ?l__law_words ?c__law_words ?k__law_words ?ag__law_state ?l__law_state ?c__law_state ?k__law_state ?ag__law_piece ?l__law_piece ?c__law_piece ?k__law_piece ?ag__law_joint ?l__law_joint ?c__law_joint ?k__law_joint ?ag__law_spec ?l__law_spec ?c__law_spec ?k__law_spec ?ag__law_piece_row ?l__law_piece_row ?c__law_piece_row ?k__law_piece_row ?ag__law_joint_row ?l__law_joint_row ?c__law_joint_row ?k__law_joint_row ?ag__law_rows ?l__law_rows ?c__law_rows ?k__law_rows ?ag__law_joined ?l__law_joined ?c__law_joined ?k__law_joined ?ag__law_shuts ?l__law_shuts ?c__law_shuts ?k__law_shuts ?ag__law_shut_row ?l__law_shut_row ?c__law_shut_row ?k__law_shut_row ?ag__law_plan ?l__law_plan ?c__law_plan ?k__law_plan ?ag__law_pair ?l__law_pair ?c__law_pair ?k__law_pair ?ag__law_right ?l__law_right ?c__law_right ?k__law_right ?ag_law ?l_law ?c_law ?k_law ?aC_Borders ?pg_Borders ?hd_Borders ?po_Borders ?sa_Borders ?mk_Borders ?kc_Borders ?ne_Borders ?mro_Borders ?bool_Borders ?hcl_Borders ?hsp_Borders ?htk_Borders ?kwNoneType_Borders ?kwbool_Borders ?kwint_Borders ?kwstr_Borders ?kwtuple_Borders ?kwlist_Borders ?kwdict_Borders ?na_whole_Borders ?na_all_states_Borders ?na_corner_names_Borders ?na_motif_Borders ?na_piece_rows_Borders ?na_corner_rows_Borders ?nolen_Borders ?l_Borders___init__ ?c_Borders___init__ ?k_Borders___init__ ?e_Borders___init__ ?i_Borders___init__ ?l_Borders_text ?c_Borders_text ?k_Borders_text ?e_Borders_text ?g_Borders_text ?tk_Borders_text ?r_Borders_text ?l_Borders___eq__ ?c_Borders___eq__ ?k_Borders___eq__ ?e_Borders___eq__ ?i_Borders___eq__ ?aC_Room ?pg_Room ?hd_Room ?po_Room ?sa_Room ?mk_Room ?kc_Room ?ne_Room ?mro_Room ?bool_Room ?hcl_Room ?hsp_Room ?htk_Room ?kwNoneType_Room ?kwbool_Room ?kwint_Room ?kwstr_Room ?kwtuple_Room ?kwlist_Room ?kwdict_Room ?na_whole_Room ?na_rows_Room ?na_alphabet_Room ?l_Room___init__ ?c_Room___init__ ?k_Room___init__ ?e_Room___init__ ?i_Room___init__ ?l_Room_text ?c_Room_text ?k_Room_text ?e_Room_text ?g_Room_text ?tk_Room_text ?r_Room_text ?l_Room___eq__ ?c_Room___eq__ ?k_Room___eq__ ?e_Room___eq__ ?i_Room___eq__ ?l_Room___len__ ?c_Room___len__ ?k_Room___len__ ?e_Room___len__ ?i_Room___len__ ?aC_Page ?pg_Page ?hd_Page ?po_Page ?sa_Page ?mk_Page ?kc_Page ?ne_Page ?mro_Page ?bool_Page ?hcl_Page ?hsp_Page ?htk_Page ?kwNoneType_Page ?kwbool_Page ?kwint_Page ?kwstr_Page ?kwtuple_Page ?kwlist_Page ?kwdict_Page ?na_shelf_Page ?na_row_Page ?na_behind_Page ?na_many_Page ?nolen_Page ?l_Page___init__ ?c_Page___init__ ?k_Page___init__ ?e_Page___init__ ?i_Page___init__ ?aC_Book ?pg_Book ?hd_Book ?po_Book ?sa_Book ?mk_Book ?kc_Book ?ne_Book ?mro_Book ?hcl_Book ?hsp_Book ?htk_Book ?kwNoneType_Book ?kwbool_Book ?kwint_Book ?kwstr_Book ?kwtuple_Book ?kwlist_Book ?kwdict_Book ?na_page_Book ?l_Book___init__ ?c_Book___init__ ?k_Book___init__ ?e_Book___init__ ?i_Book___init__ ?l_Book___len__ ?c_Book___len__ ?k_Book___len__ ?e_Book___len__ ?i_Book___len__ ?l_Book___bool__ ?c_Book___bool__ ?k_Book___bool__ ?e_Book___bool__ ?i_Book___bool__ ?l_Book___eq__ ?c_Book___eq__ ?k_Book___eq__ ?e_Book___eq__ ?i_Book___eq__ ?kx_Borders_Room ?sx_Borders_Room ?kx_Borders_Book ?sx_Borders_Book ?st_Borders_NoneType ?su_Borders_NoneType ?st_Borders_bool ?su_Borders_bool ?st_Borders_int ?su_Borders_int ?st_Borders_str ?su_Borders_str ?st_Borders_tuple ?su_Borders_tuple ?st_Borders_list ?su_Borders_list ?st_Borders_dict ?su_Borders_dict ?kx_Room_Borders ?sx_Room_Borders ?kx_Room_Book ?sx_Room_Book ?st_Room_NoneType ?su_Room_NoneType ?st_Room_bool ?su_Room_bool ?st_Room_int ?su_Room_int ?st_Room_str ?su_Room_str ?st_Room_tuple ?su_Room_tuple ?st_Room_list ?su_Room_list ?st_Room_dict ?su_Room_dict ?kx_Book_Borders ?sx_Book_Borders ?kx_Book_Room ?sx_Book_Room ?st_Book_NoneType ?su_Book_NoneType ?st_Book_bool ?su_Book_bool ?st_Book_int ?su_Book_int ?st_Book_str ?su_Book_str ?st_Book_tuple ?su_Book_tuple ?st_Book_list ?su_Book_list ?st_Book_dict ?su_Book_dict ?eq_Page) ?hbb hmg
    (case aC_Borders => k_is)
    (case aC_Room => k_is)
    (case aC_Page => k_is)
    (case aC_Book => k_is)
    (case e_Borders___init__ => k_is)
    (case e_Borders_text => k_is)
    (case e_Borders___eq__ => k_is)
    (case e_Room___init__ => k_is)
    (case e_Room_text => k_is)
    (case e_Room___eq__ => k_is)
    (case e_Room___len__ => k_is)
    (case e_Page___init__ => k_is)
    (case e_Book___init__ => k_is)
    (case e_Book___len__ => k_is)
    (case e_Book___bool__ => k_is)
    (case e_Book___eq__ => k_is)
    (case r_Borders_text => k_is)
    (case r_Room_text => k_is)
    (case z_all => k_is)
    (case z_len => k_is)
    (case z_isinstance => k_is)
    (case z_str => k_is)
    (case z_int => k_is)
    (case z_tuple => k_is)
    (case z_range => k_is)
    (case z_sorted => k_is)
    (case z_set => k_is)
    (case z_abs => k_is)
    (case z_divmod => k_is)
    (case z_repr => k_is)
    (case z_bool => k_is)
    (case z_max => k_is)
    (case z_min => k_is)
    (case s_LETTERS => k_is)
    (case s_DIGITS => k_is)
    (case s_LONGEST_WORD => k_is)
    (case s_MOST_CLAIMED => k_is)
    (case s_MOST_SIGNS => k_is)
    (case s_MOST_PIECES => k_is)
    (case s_MOST_CORNERS => k_is)
    (case s_MOST_NAMES => k_is)
    (case s_MOST_LONG => k_is)
    (case s_MOST_COST => k_is)
    (case s_MOST_SIDES => k_is)
    (case s_MOST_PLUS => k_is)
    (case s_MOST_SIZE => k_is)
    (case s_MOST_TABLE => k_is)
    (case s_NO_COST => k_is)
    (case s_TURNS => k_is)
    (case l_TURNS => k_is)
    (case s_SIDE_LETTERS => k_is)
    (case l_SIDE_LETTERS => k_is)
    (case ag_is_letters => k_is)
    (case l_is_letters => k_is)
    (case c_is_letters => k_is)
    (case k_is_letters => k_is)
    (case ag_is_word => k_is)
    (case l_is_word => k_is)
    (case c_is_word => k_is)
    (case k_is_word => k_is)
    (case ag_number_of => k_is)
    (case l_number_of => k_is)
    (case c_number_of => k_is)
    (case k_number_of => k_is)
    (case ag_signs_of => k_is)
    (case l_signs_of => k_is)
    (case c_signs_of => k_is)
    (case k_signs_of => k_is)
    (case ag_states_of => k_is)
    (case l_states_of => k_is)
    (case c_states_of => k_is)
    (case k_states_of => k_is)
    (case ag_piece_of => k_is)
    (case l_piece_of => k_is)
    (case c_piece_of => k_is)
    (case k_piece_of => k_is)
    (case ag_corner_of => k_is)
    (case l_corner_of => k_is)
    (case c_corner_of => k_is)
    (case k_corner_of => k_is)
    (case ag_names_of => k_is)
    (case l_names_of => k_is)
    (case c_names_of => k_is)
    (case k_names_of => k_is)
    (case ag_pieces_fit => k_is)
    (case l_pieces_fit => k_is)
    (case c_pieces_fit => k_is)
    (case k_pieces_fit => k_is)
    (case ag_corners_fit => k_is)
    (case l_corners_fit => k_is)
    (case c_corners_fit => k_is)
    (case k_corners_fit => k_is)
    (case ag_parts_of => k_is)
    (case l_parts_of => k_is)
    (case c_parts_of => k_is)
    (case k_parts_of => k_is)
    (case ag_plus_of => k_is)
    (case l_plus_of => k_is)
    (case c_plus_of => k_is)
    (case k_plus_of => k_is)
    (case ag_side_of => k_is)
    (case l_side_of => k_is)
    (case c_side_of => k_is)
    (case k_side_of => k_is)
    (case ag_sides_of => k_is)
    (case l_sides_of => k_is)
    (case c_sides_of => k_is)
    (case k_sides_of => k_is)
    (case ag__law_spring => k_is)
    (case l__law_spring => k_is)
    (case c__law_spring => k_is)
    (case k__law_spring => k_is)
    (case ag__law_take => k_is)
    (case l__law_take => k_is)
    (case c__law_take => k_is)
    (case k__law_take => k_is)
    (case ag__law_word => k_is)
    (case l__law_word => k_is)
    (case c__law_word => k_is)
    (case k__law_word => k_is)
    (case ag__law_words => k_is)
    (case l__law_words => k_is)
    (case c__law_words => k_is)
    (case k__law_words => k_is)
    (case ag__law_state => k_is)
    (case l__law_state => k_is)
    (case c__law_state => k_is)
    (case k__law_state => k_is)
    (case ag__law_piece => k_is)
    (case l__law_piece => k_is)
    (case c__law_piece => k_is)
    (case k__law_piece => k_is)
    (case ag__law_joint => k_is)
    (case l__law_joint => k_is)
    (case c__law_joint => k_is)
    (case k__law_joint => k_is)
    (case ag__law_spec => k_is)
    (case l__law_spec => k_is)
    (case c__law_spec => k_is)
    (case k__law_spec => k_is)
    (case ag__law_piece_row => k_is)
    (case l__law_piece_row => k_is)
    (case c__law_piece_row => k_is)
    (case k__law_piece_row => k_is)
    (case ag__law_joint_row => k_is)
    (case l__law_joint_row => k_is)
    (case c__law_joint_row => k_is)
    (case k__law_joint_row => k_is)
    (case ag__law_rows => k_is)
    (case l__law_rows => k_is)
    (case c__law_rows => k_is)
    (case k__law_rows => k_is)
    (case ag__law_joined => k_is)
    (case l__law_joined => k_is)
    (case c__law_joined => k_is)
    (case k__law_joined => k_is)
    (case ag__law_shuts => k_is)
    (case l__law_shuts => k_is)
    (case c__law_shuts => k_is)
    (case k__law_shuts => k_is)
    (case ag__law_shut_row => k_is)
    (case l__law_shut_row => k_is)
    (case c__law_shut_row => k_is)
    (case k__law_shut_row => k_is)
    (case ag__law_plan => k_is)
    (case l__law_plan => k_is)
    (case c__law_plan => k_is)
    (case k__law_plan => k_is)
    (case ag__law_pair => k_is)
    (case l__law_pair => k_is)
    (case c__law_pair => k_is)
    (case k__law_pair => k_is)
    (case ag__law_right => k_is)
    (case l__law_right => k_is)
    (case c__law_right => k_is)
    (case k__law_right => k_is)
    (case ag_law => k_is)
    (case l_law => k_is)
    (case c_law => k_is)
    (case k_law => k_is)
    (case pg_Borders => k_is)
    (case hd_Borders => k_is)
    (case po_Borders => k_is)
    (case sa_Borders => k_is)
    (case mk_Borders => k_is)
    (case kc_Borders => k_is)
    (case ne_Borders => k_is)
    (case mro_Borders => k_is)
    (case bool_Borders => k_is)
    (case hcl_Borders => k_is)
    (case hsp_Borders => k_is)
    (case htk_Borders => k_is)
    (case kwNoneType_Borders => kernel_rfl)
    (case kwbool_Borders => kernel_rfl)
    (case kwint_Borders => kernel_rfl)
    (case kwstr_Borders => kernel_rfl)
    (case kwtuple_Borders => kernel_rfl)
    (case kwlist_Borders => kernel_rfl)
    (case kwdict_Borders => kernel_rfl)
    (case na_whole_Borders => k_is)
    (case na_all_states_Borders => k_is)
    (case na_corner_names_Borders => k_is)
    (case na_motif_Borders => k_is)
    (case na_piece_rows_Borders => k_is)
    (case na_corner_rows_Borders => k_is)
    (case nolen_Borders => k_is)
    (case l_Borders___init__ => k_is)
    (case c_Borders___init__ => k_is)
    (case k_Borders___init__ => k_is)
    (case i_Borders___init__ => k_is)
    (case l_Borders_text => k_is)
    (case c_Borders_text => k_is)
    (case k_Borders_text => k_is)
    (case g_Borders_text => k_is)
    (case tk_Borders_text => k_is)
    (case l_Borders___eq__ => k_is)
    (case c_Borders___eq__ => k_is)
    (case k_Borders___eq__ => k_is)
    (case i_Borders___eq__ => k_is)
    (case pg_Room => k_is)
    (case hd_Room => k_is)
    (case po_Room => k_is)
    (case sa_Room => k_is)
    (case mk_Room => k_is)
    (case kc_Room => k_is)
    (case ne_Room => k_is)
    (case mro_Room => k_is)
    (case bool_Room => k_is)
    (case hcl_Room => k_is)
    (case hsp_Room => k_is)
    (case htk_Room => k_is)
    (case kwNoneType_Room => kernel_rfl)
    (case kwbool_Room => kernel_rfl)
    (case kwint_Room => kernel_rfl)
    (case kwstr_Room => kernel_rfl)
    (case kwtuple_Room => kernel_rfl)
    (case kwlist_Room => kernel_rfl)
    (case kwdict_Room => kernel_rfl)
    (case na_whole_Room => k_is)
    (case na_rows_Room => k_is)
    (case na_alphabet_Room => k_is)
    (case l_Room___init__ => k_is)
    (case c_Room___init__ => k_is)
    (case k_Room___init__ => k_is)
    (case i_Room___init__ => k_is)
    (case l_Room_text => k_is)
    (case c_Room_text => k_is)
    (case k_Room_text => k_is)
    (case g_Room_text => k_is)
    (case tk_Room_text => k_is)
    (case l_Room___eq__ => k_is)
    (case c_Room___eq__ => k_is)
    (case k_Room___eq__ => k_is)
    (case i_Room___eq__ => k_is)
    (case l_Room___len__ => k_is)
    (case c_Room___len__ => k_is)
    (case k_Room___len__ => k_is)
    (case i_Room___len__ => k_is)
    (case pg_Page => k_is)
    (case hd_Page => k_is)
    (case po_Page => k_is)
    (case sa_Page => k_is)
    (case mk_Page => k_is)
    (case kc_Page => k_is)
    (case ne_Page => k_is)
    (case mro_Page => k_is)
    (case bool_Page => k_is)
    (case hcl_Page => k_is)
    (case hsp_Page => k_is)
    (case htk_Page => k_is)
    (case kwNoneType_Page => kernel_rfl)
    (case kwbool_Page => kernel_rfl)
    (case kwint_Page => kernel_rfl)
    (case kwstr_Page => kernel_rfl)
    (case kwtuple_Page => kernel_rfl)
    (case kwlist_Page => kernel_rfl)
    (case kwdict_Page => kernel_rfl)
    (case na_shelf_Page => k_is)
    (case na_row_Page => k_is)
    (case na_behind_Page => k_is)
    (case na_many_Page => k_is)
    (case nolen_Page => k_is)
    (case l_Page___init__ => k_is)
    (case c_Page___init__ => k_is)
    (case k_Page___init__ => k_is)
    (case i_Page___init__ => k_is)
    (case pg_Book => k_is)
    (case hd_Book => k_is)
    (case po_Book => k_is)
    (case sa_Book => k_is)
    (case mk_Book => k_is)
    (case kc_Book => k_is)
    (case ne_Book => k_is)
    (case mro_Book => k_is)
    (case hcl_Book => k_is)
    (case hsp_Book => k_is)
    (case htk_Book => k_is)
    (case kwNoneType_Book => kernel_rfl)
    (case kwbool_Book => kernel_rfl)
    (case kwint_Book => kernel_rfl)
    (case kwstr_Book => kernel_rfl)
    (case kwtuple_Book => kernel_rfl)
    (case kwlist_Book => kernel_rfl)
    (case kwdict_Book => kernel_rfl)
    (case na_page_Book => k_is)
    (case l_Book___init__ => k_is)
    (case c_Book___init__ => k_is)
    (case k_Book___init__ => k_is)
    (case i_Book___init__ => k_is)
    (case l_Book___len__ => k_is)
    (case c_Book___len__ => k_is)
    (case k_Book___len__ => k_is)
    (case i_Book___len__ => k_is)
    (case l_Book___bool__ => k_is)
    (case c_Book___bool__ => k_is)
    (case k_Book___bool__ => k_is)
    (case i_Book___bool__ => k_is)
    (case l_Book___eq__ => k_is)
    (case c_Book___eq__ => k_is)
    (case k_Book___eq__ => k_is)
    (case i_Book___eq__ => k_is)
    (case kx_Borders_Room => kernel_rfl)
    (case sx_Borders_Room => kernel_rfl)
    (case kx_Borders_Book => kernel_rfl)
    (case sx_Borders_Book => kernel_rfl)
    (case st_Borders_NoneType => kernel_rfl)
    (case su_Borders_NoneType => kernel_rfl)
    (case st_Borders_bool => kernel_rfl)
    (case su_Borders_bool => kernel_rfl)
    (case st_Borders_int => kernel_rfl)
    (case su_Borders_int => kernel_rfl)
    (case st_Borders_str => kernel_rfl)
    (case su_Borders_str => kernel_rfl)
    (case st_Borders_tuple => kernel_rfl)
    (case su_Borders_tuple => kernel_rfl)
    (case st_Borders_list => kernel_rfl)
    (case su_Borders_list => kernel_rfl)
    (case st_Borders_dict => kernel_rfl)
    (case su_Borders_dict => kernel_rfl)
    (case kx_Room_Borders => kernel_rfl)
    (case sx_Room_Borders => kernel_rfl)
    (case kx_Room_Book => kernel_rfl)
    (case sx_Room_Book => kernel_rfl)
    (case st_Room_NoneType => kernel_rfl)
    (case su_Room_NoneType => kernel_rfl)
    (case st_Room_bool => kernel_rfl)
    (case su_Room_bool => kernel_rfl)
    (case st_Room_int => kernel_rfl)
    (case su_Room_int => kernel_rfl)
    (case st_Room_str => kernel_rfl)
    (case su_Room_str => kernel_rfl)
    (case st_Room_tuple => kernel_rfl)
    (case su_Room_tuple => kernel_rfl)
    (case st_Room_list => kernel_rfl)
    (case su_Room_list => kernel_rfl)
    (case st_Room_dict => kernel_rfl)
    (case su_Room_dict => kernel_rfl)
    (case kx_Book_Borders => kernel_rfl)
    (case sx_Book_Borders => kernel_rfl)
    (case kx_Book_Room => kernel_rfl)
    (case sx_Book_Room => kernel_rfl)
    (case st_Book_NoneType => kernel_rfl)
    (case su_Book_NoneType => kernel_rfl)
    (case st_Book_bool => kernel_rfl)
    (case su_Book_bool => kernel_rfl)
    (case st_Book_int => kernel_rfl)
    (case su_Book_int => kernel_rfl)
    (case st_Book_str => kernel_rfl)
    (case su_Book_str => kernel_rfl)
    (case st_Book_tuple => kernel_rfl)
    (case su_Book_tuple => kernel_rfl)
    (case st_Book_list => kernel_rfl)
    (case su_Book_list => kernel_rfl)
    (case st_Book_dict => kernel_rfl)
    (case su_Book_dict => kernel_rfl)
    (case eq_Page => k_is)
    case hbb => exact fun s v => .of_eq rfl
