import PyProof.Rows.All
import Wide.All
import OpenK.AllK
import Wide.FinOn
import HandS.ForMost
import HandS.Lambda
import HandS.TupAny
import HandS.Property
import HandS.RaiseMore
import HandS.IsInst
import HandS.MakeKw
import HandS.Deep
import HandS.OwnEq
import HandS.NamedTupSort
import HandS.Small
import KE.KFmtOwn
import KE.KCallOwn
import KE.KFromBytes
import PyProof.ReprRoads
import HandS.MakeKwOnly
import HandS.Style
import HandS.SetTxt0
import HandS.SetBool
import HandS.TupSets
import HandS.Strs
import HandS.TryOnly
import HandS.FStr
import HandS.Defaults
import HandS.Text
import PyProof.StrBlock2
import PyProof.Rows.StrMul
import HandS.Zip
import HandS.DictComp
import HandS.TupMul
import HandS.Iter
import HandS.WideBits
import PyProof.NoPylong
import KE.KEqDict
import HandS.Conv
import HandS.WordsExc
import HandS.ExcInit
import HandS.HotCalls
import HandS.ExcIs
import HandS.ExcField
import KE.KExcIs
import KE.KTryMore
import HandS.NestedK
import HandS.EndTab
import KE.KNestM
import HandS.ClsMeth
import KE.KxField
import KE.KDictZip
import KE.GoesMore
import KE.DataMinMax
import PySem.Challenge.RW_cornerways_k03_texts_of_border_books
import KE.KStateDown
import HandS.Head0
import HandS.Head1
import HandS.Head2
set_option Elab.async false
set_option linter.all false
set_option maxRecDepth 100000
set_option maxHeartbeats 1000000
namespace K03
open PySem PySem.Spec PyProof.Rows L2
/-! ### the head: the top by one run -/
abbrev rowR : PySem.W.OpenRow := PySem.W.OpenLaw.row PySem.Challenge.rw_cornerways_k03_texts_of_border_books
abbrev qvR : Program := PySem.W.view rowR.prog [80]
def namesR0 : List Str := ["_wall", "BadValue", "InvalidText", "InvalidLine", "InvalidState", "InvalidNumber", "InvalidName", "InvalidIndex", "InvalidWish", "InvalidClaim", "NotBorders", "NotARoom", "InvalidSizes", "InvalidFilling", "InvalidNames", "InvalidLines", "BadName", "UnknownName", "InUse", "NoAnswer", "OtherLetters", "TooMany", "NothingToUndo", "NotAsked"]
def namesR1 : List Str := ["Broken", "LETTERS", "DIGITS", "LONGEST_WORD", "TURNS", "is_letters", "is_word", "number_of", "MOST_SIGNS", "MOST_PIECES", "MOST_CORNERS", "MOST_NAMES", "MOST_LONG", "MOST_COST", "signs_of", "states_of", "piece_of", "corner_of", "names_of", "pieces_fit", "corners_fit", "parts_of", "Borders", "_law_spring"]
def namesR2 : List Str := ["_law_take", "_law_word", "_law_words", "_law_state", "_law_piece", "_law_joint", "_law_spec", "_law_piece_row", "_law_joint_row", "_law_rows", "_law_joined", "_law_states", "_law_due", "_law_seen", "_law_sort", "_law_told", "_law_caught", "_law_is_word", "_law_digit", "_law_is_state", "_law_read_row", "_law_read", "_law_bent", "_law_sorts"]
def namesR3 : List Str := ["_law_other_kind", "_law_over", "_law_right", "_law_all_right"]
def namesR : List Str := namesR0 ++ (namesR1 ++ (namesR2 ++ (namesR3)))
theorem head_km {r : PySem.W.OpenRow} {q : Program} {M : Nat} {loose : List Str} {d : DefRec} {kwd : List (Str × PySem.Expr)} {K : Params → PySem.W.Frag} {as ts : List Addr} {e : ∀ P, as = (K P).map (·.1)} {h : PySem.W.Hook} (_ : h = PySem.W.kmHook K as e ts)
    (e1 : PySem.W.opening r.prog = PySem.W.plainProg r.prog.main.scope.names) (f : ∀ s, fenceModules? r.prog s = some s) (run : ∀ w, HandSHeadRun.RunEq r q (PySem.W.kmHook K as e ts) (fun s => (as.map (HandSHeadRun.getT s), ts.map (HandSHeadRun.getT s))) M loose w)
    (hdef : PySem.W.defOf q r.name = some (d, kwd)) (hp : r.prog.theDef r.name = some (d.params, d.body, d.scope)) (hk : PySem.W.kwWritten? d.params.kwonlyargs d.params.kw_defaults = some kwd)
    (hwr : (!r.writes || r.records.isEmpty) = true) (k1 : r.wellSaid = true) (ok : (PySem.W.chainsOk q && PySem.W.opensWell r.prog && (PySem.W.frees r.toRowW && r.within.isEmpty)) = true) (hb : r.prog.bare) (hw : r.toRowW.promised)
    (call : PySem.W.WalkO q loose (PySem.W.XL q []) (PySem.W.kmHook K as e ts).says r.toRowW d kwd fun f vs => PySem.call f vs) : r.Holds :=
  HandSHeadRun.head_any (fun s => by
    show (as.map (HandSHeadRun.getT s), ts.map (HandSHeadRun.getT s)) = (as.map s.abs.heap.get?, ts.map s.abs.heap.get?)
    rw [show HandSHeadRun.getT s = s.abs.heap.get? from funext (HandSHeadRun.getT_eq s)]) e1 f run hdef hp hk hwr k1 ok hb hw call
end K03
section
open PySem PySem.W PyProof.Rows
local macro_rules | `(tactic| o_head $h:term) => `(tactic| (exfalso; assumption))
set_option maxRecDepth 100000 in
set_option maxHeartbeats 0 in
theorem K03.pre (F : False) : PySem.Challenge.rw_cornerways_k03_texts_of_border_books.Holds := by
  w_on; o_law; k_head
end
set_option maxRecDepth 100000 in
set_option maxHeartbeats 0 in
theorem K03.runT : ∀ w, HandSHeadRun.RunEq K03.rowR K03.qvR (PySem.W.kmHook K03.pre.heap_39 [2, 3, 15, 17, 18, 20, 21, 22, 29, 30, 31, 32, 35, 42, 44, 45, 47, 48, 49, 50, 51, 54, 61, 63, 64, 66, 67, 68, 69, 70, 73, 80, 82, 83, 85, 86, 87, 88, 89, 92, 99, 101, 102, 104, 105, 106, 107, 108, 111, 118, 120, 121, 123, 124, 125, 126, 127, 130, 137, 139, 140, 142, 143, 144, 145, 146, 149, 156, 158, 159, 161, 162, 163, 164, 165, 168, 175, 177, 178, 180, 181, 182, 183, 184, 187, 194, 196, 197, 199, 200, 201, 202, 203, 206, 213, 215, 216, 218, 219, 220, 221, 222, 225, 232, 234, 235, 237, 238, 239, 240, 241, 244, 251, 253, 254, 256, 257, 258, 259, 260, 263, 270, 272, 273, 275, 276, 277, 278, 279, 282, 289, 291, 292, 294, 295, 296, 297, 298, 301, 308, 309, 310, 311, 314, 321, 323, 324, 326, 327, 328, 329, 330, 333, 340, 342, 343, 345, 346, 347, 348, 349, 352, 359, 360, 361, 362, 365, 372, 373, 374, 377, 384, 386, 387, 389, 390, 391, 392, 393, 396, 403, 404, 405, 408, 415, 417, 418, 420, 421, 422, 423, 424, 427, 434, 436, 437, 439, 440, 441, 442, 443, 446, 447, 450, 451, 452, 454, 455, 457, 458, 459, 461, 462, 464, 465, 466, 468, 469, 471, 472, 473, 476, 477, 478, 480, 481, 483, 484, 485, 487, 488, 490, 491, 492, 495, 496, 497, 499, 500, 502, 503, 504, 506, 507, 509, 510, 511, 514, 515, 523, 525, 526, 528, 529, 530, 532, 533, 535, 536, 537, 538, 540, 541, 543, 544, 545, 546, 548, 549, 551, 552, 553, 554, 556, 557, 559, 560, 561, 562, 564, 565, 567, 568, 569, 570, 572, 573, 575, 576, 577, 578, 580, 581, 583, 584, 585, 587, 588, 590, 591, 592, 594, 595, 597, 598, 599, 601, 602, 604, 605, 606, 607, 608, 609, 610, 613, 615, 616, 618, 619, 620, 622, 623, 625, 626, 627, 630, 631, 632, 634, 635, 637, 638, 639, 641, 642, 644, 645, 646, 648, 649, 651, 652, 653, 655, 656, 658, 659, 660, 663, 664, 665, 667, 668, 670, 671, 672, 674, 675, 677, 678, 679, 682, 683, 684, 686, 687, 689, 690, 691, 693, 694, 696, 697, 698, 701, 702, 703, 705, 706, 708, 709, 710, 712, 713, 715, 716, 717, 719, 720, 722, 723, 724, 726, 727, 729, 730, 731, 734, 735, 736, 738, 739, 741, 742, 743, 745, 746, 748, 749, 750, 752, 753, 755, 756, 757, 760, 761, 762, 764, 765, 767, 768, 769, 771, 772, 774, 775, 776, 778, 779, 781, 782, 783, 785, 786, 788, 789, 790, 792, 793, 795, 796, 797, 800, 801, 802, 805, 806] (fun _ => by kernel_rfl) [791]) (fun s => (([2, 3, 15, 17, 18, 20, 21, 22, 29, 30, 31, 32, 35, 42, 44, 45, 47, 48, 49, 50, 51, 54, 61, 63, 64, 66, 67, 68, 69, 70, 73, 80, 82, 83, 85, 86, 87, 88, 89, 92, 99, 101, 102, 104, 105, 106, 107, 108, 111, 118, 120, 121, 123, 124, 125, 126, 127, 130, 137, 139, 140, 142, 143, 144, 145, 146, 149, 156, 158, 159, 161, 162, 163, 164, 165, 168, 175, 177, 178, 180, 181, 182, 183, 184, 187, 194, 196, 197, 199, 200, 201, 202, 203, 206, 213, 215, 216, 218, 219, 220, 221, 222, 225, 232, 234, 235, 237, 238, 239, 240, 241, 244, 251, 253, 254, 256, 257, 258, 259, 260, 263, 270, 272, 273, 275, 276, 277, 278, 279, 282, 289, 291, 292, 294, 295, 296, 297, 298, 301, 308, 309, 310, 311, 314, 321, 323, 324, 326, 327, 328, 329, 330, 333, 340, 342, 343, 345, 346, 347, 348, 349, 352, 359, 360, 361, 362, 365, 372, 373, 374, 377, 384, 386, 387, 389, 390, 391, 392, 393, 396, 403, 404, 405, 408, 415, 417, 418, 420, 421, 422, 423, 424, 427, 434, 436, 437, 439, 440, 441, 442, 443, 446, 447, 450, 451, 452, 454, 455, 457, 458, 459, 461, 462, 464, 465, 466, 468, 469, 471, 472, 473, 476, 477, 478, 480, 481, 483, 484, 485, 487, 488, 490, 491, 492, 495, 496, 497, 499, 500, 502, 503, 504, 506, 507, 509, 510, 511, 514, 515, 523, 525, 526, 528, 529, 530, 532, 533, 535, 536, 537, 538, 540, 541, 543, 544, 545, 546, 548, 549, 551, 552, 553, 554, 556, 557, 559, 560, 561, 562, 564, 565, 567, 568, 569, 570, 572, 573, 575, 576, 577, 578, 580, 581, 583, 584, 585, 587, 588, 590, 591, 592, 594, 595, 597, 598, 599, 601, 602, 604, 605, 606, 607, 608, 609, 610, 613, 615, 616, 618, 619, 620, 622, 623, 625, 626, 627, 630, 631, 632, 634, 635, 637, 638, 639, 641, 642, 644, 645, 646, 648, 649, 651, 652, 653, 655, 656, 658, 659, 660, 663, 664, 665, 667, 668, 670, 671, 672, 674, 675, 677, 678, 679, 682, 683, 684, 686, 687, 689, 690, 691, 693, 694, 696, 697, 698, 701, 702, 703, 705, 706, 708, 709, 710, 712, 713, 715, 716, 717, 719, 720, 722, 723, 724, 726, 727, 729, 730, 731, 734, 735, 736, 738, 739, 741, 742, 743, 745, 746, 748, 749, 750, 752, 753, 755, 756, 757, 760, 761, 762, 764, 765, 767, 768, 769, 771, 772, 774, 775, 776, 778, 779, 781, 782, 783, 785, 786, 788, 789, 790, 792, 793, 795, 796, 797, 800, 801, 802, 805, 806] : List PySem.Addr).map (HandSHeadRun.getT s), ([791] : List PySem.Addr).map (HandSHeadRun.getT s))) 9000 K03.namesR w := fun w os => by kernel_rfl
/-! # Values as plain data, mutable objects as numbered cells: readings over data alone -/
namespace Cw
open PySem PySem.Spec PyProof.Rows L2

/-- plain data; `cell k` is the k-th mutable object at hand -/
inductive D where
  | non | bl (b : Bool) | int (i : Int) | str (x : Str)
  | tup (ds : List D) | lst (ds : List D) | fl (ds : List D) | cell (k : Nat)
  | ins (C : Addr) (ns : List Str) (ds : List D)
  | dct (ks : List Key) (ds : List D)
  | dcT (ks : List (List Key)) (ds : List D)
  | exc (a dd C : Addr) (ns : List Str) (ds : List D)
  | raw (v : V)

/-- a mutable object's content -/
inductive Cell where
  | lst (ds : List D)
  | obj (C : Addr) (ns : List Str) (ds : List D)
  | dct (ks : List Key) (ds : List D)
  | dcT (ks : List (List Key)) (ds : List D)

/-- where the cells stand; what the callers hide -/
structure Ad where
  ix : List Addr
  hd : List Addr
/-- the heap without the mutable objects -/
def hid (m : Ad) (H : Hp) : Hp := fun b => if b ∈ m.ix ∨ b ∈ m.hd then none else H b
theorem hid_some {m : Ad} {H : Hp} {b : Addr} {o : HO} (h : hid m H b = some o) : (b ∉ m.ix ∧ b ∉ m.hd) ∧ H b = some o := by
  unfold hid at h
  by_cases hb : b ∈ m.ix ∨ b ∈ m.hd
  · rw [if_pos hb] at h; cases h
  · rw [if_neg hb] at h; exact ⟨⟨fun z => hb (.inl z), fun z => hb (.inr z)⟩, h⟩
theorem hid_of {m : Ad} {H : Hp} {b : Addr} (h : b ∉ m.ix ∧ b ∉ m.hd) : hid m H b = H b := by
  unfold hid; rw [if_neg (fun z => z.elim h.1 h.2)]

def Ex (H H' : Hp) : Prop := ∀ a o, H a = some o → H' a = some o
theorem Ex.refl (H : Hp) : Ex H H := fun _ _ h => h
theorem Ex.trans {H H1 H2 : Hp} (a : Ex H H1) (b : Ex H1 H2) : Ex H H2 := fun x o h => b x o (a x o h)
theorem Ex.new {H : Hp} {p : Addr} {o : HO} (h : H p = none) : Ex H (upd H p o) := fun a u e => by
  rw [upd_ne (ne_of_none e h)]; exact e
theorem ex_rd {H H' : Hp} {a : Addr} {u : HO} (e : Ex H H') (h : Rd H a u) : Rd H' a u := by
  rcases h with h | ⟨o, h⟩
  · exact .inl (e a _ h)
  · exact .inr ⟨o, e a _ h⟩
theorem ex_l {K : PySem.W.Frag} {H H' : Hp} {a : Addr} {xs : List V} (e : Ex H H') (h : SqL K H a xs) : SqL K H' a xs := by
  rcases h with h | h
  · exact .inl (ex_rd e h)
  · exact .inr h
theorem ex_t {K : PySem.W.Frag} {H H' : Hp} {a : Addr} {xs : List V} (e : Ex H H') (h : SqT K H a xs) : SqT K H' a xs := by
  rcases h with h | h
  · exact .inl (ex_rd e h)
  · exact .inr h
theorem ex_hid (m : Ad) (H : Hp) : Ex (hid m H) H := fun _ _ h => (hid_some h).2

/-! ### which value is which data -/
section
variable (K : PySem.W.Frag) (m : List Addr) (H : Hp)
mutual
def R : D → V → Prop
  | .non, v => v = .non
  | .bl b, v => v = .bl b
  | .int i, v => v = .int i
  | .str x, v => v = .str x
  | .tup ds, v => ∃ a xs, v = .ref a ∧ SqT K H a xs ∧ RL ds xs
  | .lst ds, v => ∃ a xs, v = .ref a ∧ H a = some (.lst xs) ∧ RL ds xs
  | .fl ds, v => ∃ a xs, v = .ref a ∧ SqL K H a xs ∧ RL ds xs
  | .cell k, v => ∃ a, m[k]? = some a ∧ v = .ref a
  | .ins C ns ds, v => ∃ a dx fs, v = .ref a ∧ H a = some (.ins C dx fs) ∧ fs.map (·.1) = ns ∧ RL ds (fs.map (·.2))
  | .dct ks ds, v => ∃ a kvs, v = .ref a ∧ Rd H a (.dK kvs) ∧ kvs.map (·.1) = ks ∧ RL ds (kvs.map (·.2))
  | .dcT ks ds, v => ∃ a kvs, v = .ref a ∧ H a = some (.dT kvs) ∧ kvs.map (·.1) = ks ∧ RL ds (kvs.map (·.2))
  | .exc a dd _ ns ds, v => ∃ fs, v = .ref a ∧ H dd = some (.xd fs) ∧ fs.map (·.1) = ns ∧ RL ds (fs.map (·.2))
  | .raw w, v => v = w
def RL : List D → List V → Prop
  | [], xs => xs = []
  | d :: ds, xs => ∃ x r, xs = x :: r ∧ R d x ∧ RL ds r
end
end
section
variable {K : PySem.W.Frag} {m m' : List Addr} {H H' : Hp}
mutual
theorem R.mono (e : Ex H H') (p : ∀ (k : Nat) a, m[k]? = some a → m'[k]? = some a) : ∀ (d : D) (v : V), R K m H d v → R K m' H' d v
  | .non, _, h => h
  | .bl _, _, h => h
  | .int _, _, h => h
  | .str _, _, h => h
  | .tup ds, _, ⟨a, xs, e1, h1, h2⟩ => ⟨a, xs, e1, ex_t e h1, RL.mono e p ds xs h2⟩
  | .lst ds, _, ⟨a, xs, e1, h1, h2⟩ => ⟨a, xs, e1, e a _ h1, RL.mono e p ds xs h2⟩
  | .fl ds, _, ⟨a, xs, e1, h1, h2⟩ => ⟨a, xs, e1, ex_l e h1, RL.mono e p ds xs h2⟩
  | .cell k, _, ⟨a, h1, h2⟩ => ⟨a, p k a h1, h2⟩
  | .ins _ _ ds, _, ⟨a, dx, fs, e1, h1, h2, h3⟩ => ⟨a, dx, fs, e1, e a _ h1, h2, RL.mono e p ds _ h3⟩
  | .dct _ ds, _, ⟨a, kvs, e1, h1, h2, h3⟩ => ⟨a, kvs, e1, ex_rd e h1, h2, RL.mono e p ds _ h3⟩
  | .dcT _ ds, _, ⟨a, kvs, e1, h1, h2, h3⟩ => ⟨a, kvs, e1, e a _ h1, h2, RL.mono e p ds _ h3⟩
  | .exc _ dd _ _ ds, _, ⟨fs, e1, h1, h5, h6⟩ => ⟨fs, e1, e dd _ h1, h5, RL.mono e p ds _ h6⟩
  | .raw _, _, h => h
theorem RL.mono (e : Ex H H') (p : ∀ (k : Nat) a, m[k]? = some a → m'[k]? = some a) : ∀ (ds : List D) (xs : List V), RL K m H ds xs → RL K m' H' ds xs
  | [], _, h => h
  | d :: ds, _, ⟨x, r, e1, h1, h2⟩ => ⟨x, r, e1, R.mono e p d x h1, RL.mono e p ds r h2⟩
end
theorem RL.length : ∀ {ds : List D} {xs : List V}, RL K m H ds xs → ds.length = xs.length
  | [], _, h => by cases (show _ = [] from h); rfl
  | d :: ds, _, ⟨x, r, e1, h1, h2⟩ => by subst e1; simp [RL.length h2]
theorem RL.get : ∀ {ds : List D} {xs : List V} {i : Nat} {d : D}, RL K m H ds xs → ds[i]? = some d → ∃ x, xs[i]? = some x ∧ R K m H d x
  | [], _, _, _, _, e => by simp at e
  | d :: ds, _, 0, _, ⟨x, r, e1, h1, h2⟩, e => by subst e1; simp at e; subst e; exact ⟨x, rfl, h1⟩
  | d :: ds, _, i + 1, _, ⟨x, r, e1, h1, h2⟩, e => by
    subst e1
    obtain ⟨y, h3, h4⟩ := RL.get (i := i) h2 (by simpa using e)
    exact ⟨y, by simpa using h3, h4⟩
theorem RL.append : ∀ {ds es : List D} {xs ys : List V}, RL K m H ds xs → RL K m H es ys → RL K m H (ds ++ es) (xs ++ ys)
  | [], _, _, _, h, h' => by cases (show _ = [] from h); exact h'
  | d :: ds, _, _, _, ⟨x, r, e1, h1, h2⟩, h' => by subst e1; exact ⟨x, r ++ _, rfl, h1, RL.append h2 h'⟩
theorem RL.take : ∀ {ds : List D} {xs : List V} (n : Nat), RL K m H ds xs → RL K m H (ds.take n) (xs.take n)
  | [], _, n, h => by cases (show _ = [] from h); simp; exact rfl
  | d :: ds, _, 0, ⟨x, r, e1, h1, h2⟩ => by subst e1; exact rfl
  | d :: ds, _, n + 1, ⟨x, r, e1, h1, h2⟩ => by subst e1; exact ⟨x, r.take n, rfl, h1, RL.take n h2⟩
theorem RL.drop : ∀ {ds : List D} {xs : List V} (n : Nat), RL K m H ds xs → RL K m H (ds.drop n) (xs.drop n)
  | [], _, n, h => by cases (show _ = [] from h); simp; exact rfl
  | d :: ds, _, 0, h => h
  | d :: ds, _, n + 1, ⟨x, r, e1, h1, h2⟩ => by subst e1; exact RL.drop n h2
theorem RL.set {d : D} {x : V} (hx : R K m H d x) : ∀ {ds : List D} {xs : List V} (n : Nat), RL K m H ds xs → RL K m H (ds.set n d) (xs.set n x)
  | [], _, n, h => by cases (show _ = [] from h); exact rfl
  | d :: ds, _, 0, ⟨y, r, e1, h1, h2⟩ => by subst e1; exact ⟨x, r, rfl, hx, h2⟩
  | d :: ds, _, n + 1, ⟨y, r, e1, h1, h2⟩ => by subst e1; exact ⟨y, r.set n x, rfl, h1, RL.set hx n h2⟩
end

/-! ### the mutable objects and the slots -/
abbrev RR (K : PySem.W.Frag) (H : Hp) (m : Ad) (d : D) (v : V) : Prop := R K m.ix (hid m H) d v
abbrev RRL (K : PySem.W.Frag) (H : Hp) (m : Ad) (ds : List D) (vs : List V) : Prop := RL K m.ix (hid m H) ds vs
def CellAt (K : PySem.W.Frag) (m : Ad) (H : Hp) (a : Addr) : Cell → Prop
  | .lst ds => ∃ xs, H a = some (.lst xs) ∧ RRL K H m ds xs
  | .obj C ns ds => ∃ dx fs, H a = some (.ins C dx fs) ∧ fs.map (·.1) = ns ∧ RRL K H m ds (fs.map (·.2))
  | .dct ks ds => ∃ kvs, H a = some (.dK kvs) ∧ kvs.map (·.1) = ks ∧ RRL K H m ds (kvs.map (·.2))
  | .dcT ks ds => ∃ kvs, H a = some (.dT kvs) ∧ kvs.map (·.1) = ks ∧ RRL K H m ds (kvs.map (·.2))
/-- no tuple -/
def Mu (o : HO) : Prop := ∀ xs, o ≠ .tup xs
/-! ### tables of code objects -/
/-- the defs that make lambdas -/
def lamFns : List Str := ["_law_right"]
/-- what all lambdas are called -/
def lamQ : Str := "_law_right" ++ ".<locals>." ++ "<lambda>"
abbrev LQ := { q : Str // q = lamQ }
def tabOfCode (o : Obj) : Option (Addr × LQ) := match o.data with
  | .fields vs => match (vs[1]? : Option Value), (vs[11]? : Option Value) with
    | some (.str n _), some (.ref P) => if lamFns.contains n then some (P, ⟨lamQ, rfl⟩) else none
    | _, _ => none
  | _ => none
def tabsK (K : PySem.W.Frag) : List (Addr × LQ) := K.filterMap fun p => tabOfCode p.2
/-- the table at P: each code object that it tells bears the name q -/
def TabK (m : Ad) (H : Hp) (P : Addr) (q : Str) : Prop := ∃ ps : Array Value, H P = some (.tbl ps) ∧ TriplesOk ps.toList ∧ ∀ (pos : Pos) (cv : Value), codeAmong pos ps.toList = some cv → ∃ c, cv = .ref c ∧ hid m H c = some (LamX.CodeO c q)
theorem TabK.keep {m m' : Ad} {H H' : Hp} {P : Addr} {q : Str} (t : TabK m H P q) (e : H' P = H P) (x : Ex (hid m H) (hid m' H')) : TabK m' H' P q := by
  obtain ⟨ps, h1, h2, h3⟩ := t
  exact ⟨ps, e.trans h1, h2, fun pos cv hc => let ⟨c, e1, e2⟩ := h3 pos cv hc; ⟨c, e1, x c _ e2⟩⟩
theorem TabK.keep2 {m m' : Ad} {H H' : Hp} {P : Addr} {q : Str} (t : TabK m H P q) (e : ∀ o, H P = some o → H' P = some o) (x : Ex (hid m H) (hid m' H')) : TabK m' H' P q := by
  obtain ⟨ps, h1, h2, h3⟩ := t
  exact ⟨ps, e _ h1, h2, fun pos cv hc => let ⟨c, e1, e2⟩ := h3 pos cv hc; ⟨c, e1, x c _ e2⟩⟩
/-- a table has grown -/
def TabG (m : Ad) (H : Hp) (m' : Ad) (H' : Hp) (b : Addr) : Prop := (∃ ps ps', H b = some (.tbl ps) ∧ H' b = some (.tbl ps')) ∧ ∀ q : LQ, TabK m H b q.1 → TabK m' H' b q.1
structure CR (K : PySem.W.Frag) (H : Hp) (m : Ad) (c : List Cell) : Prop where
  len : m.ix.length = c.length
  nd : m.ix.Nodup
  at_ : ∀ (k : Nat) ce, c[k]? = some ce → ∃ a, m.ix[k]? = some a ∧ CellAt K m H a ce
  hs : ∀ b ∈ m.hd, ∃ o, H b = some o ∧ Mu o
  dj : ∀ a ∈ m.ix, a ∉ m.hd
  tk : ∀ p ∈ tabsK K, p.1 ∈ m.hd ∧ TabK m H p.1 p.2.1
/-- the slots: none says nothing -/
abbrev Env := List (Option D)
structure SR (K : PySem.W.Frag) (σ : L2.St) (H : Hp) (m : Ad) (ρ : Env) (c : List Cell) : Prop where
  cr : CR K H m c
  len : ρ.length = σ.length
  sl : ∀ (i : Nat) d, ρ[i]? = some (some d) → ∃ v, σ[i]? = some (some v) ∧ RR K H m d v
/-- what is kept -/
structure Le (m : Ad) (H : Hp) (m' : Ad) (H' : Hp) : Prop where
  pre : ∀ (k : Nat) a, m.ix[k]? = some a → m'.ix[k]? = some a
  ex : Ex (hid m H) (hid m' H')
  hd : m'.hd = m.hd
  hk : ∀ b ∈ m.hd, H' b = H b ∨ TabG m H m' H' b
  fr : ∀ a ∈ m'.ix, a ∈ m.ix ∨ H a = none
  al : ∀ a, H' a = none → H a = none
theorem upd_none {H : Hp} {p a : Addr} {o : HO} (h : upd H p o a = none) : H a = none := by
  by_cases e : a = p
  · subst e; rw [upd_same] at h; cases h
  · rw [upd_ne e] at h; exact h
section
variable {K : PySem.W.Frag} {m m' m2 : Ad} {H H' H2 : Hp} {σ : L2.St} {ρ : Env} {c c' : List Cell}
theorem Le.refl (m : Ad) (H : Hp) : Le m H m H := ⟨fun _ _ h => h, Ex.refl _, rfl, fun _ _ => .inl rfl, fun _ h => .inl h, fun _ h => h⟩
theorem hk_trans {x : Addr} (ea : Ex (hid m H) (hid m' H')) (eb : Ex (hid m' H') (hid m2 H2)) (a : H' x = H x ∨ TabG m H m' H' x) (b : H2 x = H' x ∨ TabG m' H' m2 H2 x) : H2 x = H x ∨ TabG m H m2 H2 x := by
  rcases a with a | ⟨⟨ps, ps', a1, a2⟩, a3⟩
  · rcases b with b | ⟨⟨ps, ps', b1, b2⟩, b3⟩
    · exact .inl (b.trans a)
    · exact .inr ⟨⟨ps, ps', a.symm.trans b1, b2⟩, fun q z => b3 q (z.keep a ea)⟩
  · rcases b with b | ⟨⟨qs, qs', b1, b2⟩, b3⟩
    · exact .inr ⟨⟨ps, ps', a1, b.trans a2⟩, fun q z => (a3 q z).keep b eb⟩
    · exact .inr ⟨⟨ps, qs', a1, b2⟩, fun q z => b3 q (a3 q z)⟩
theorem Le.trans (a : Le m H m' H') (b : Le m' H' m2 H2) : Le m H m2 H2 := ⟨fun k x h => b.pre k x (a.pre k x h), a.ex.trans b.ex, b.hd.trans a.hd, fun x hx => hk_trans a.ex b.ex (a.hk x hx) (b.hk x (by rw [a.hd]; exact hx)), fun x hx => (b.fr x hx).elim (a.fr x) fun z => .inr (a.al x z), fun x h => a.al x (b.al x h)⟩
theorem Le.tab {b : Addr} {q : LQ} (l : Le m H m' H') (hb : b ∈ m.hd) (t : TabK m H b q.1) : TabK m' H' b q.1 := (l.hk b hb).elim (fun e => t.keep e l.ex) fun z => z.2 q t
theorem Le.hs {b : Addr} (l : Le m H m' H') (hb : b ∈ m.hd) (h : ∃ o, H b = some o ∧ Mu o) : ∃ o, H' b = some o ∧ Mu o := by
  obtain ⟨o, e, u⟩ := h
  rcases l.hk b hb with z | ⟨⟨ps, ps', _, z⟩, _⟩
  · exact ⟨o, z.trans e, u⟩
  · exact ⟨_, z, fun _ y => nomatch y⟩
theorem Le.kc {b : Addr} {o : HO} (l : Le m H m' H') (hb : b ∈ m.hd) (h : H b = some o) (n : ∀ ps, o ≠ .tbl ps) : H' b = some o := by
  rcases l.hk b hb with z | ⟨⟨ps, ps', y, _⟩, _⟩
  · exact z.trans h
  · rw [h] at y; exact absurd (Option.some.inj y) (n ps)
theorem Le.hk' {m3 : Ad} (l : Le m H m' H') (x : Ex (hid m' H') (hid m3 H')) : ∀ b ∈ m.hd, H' b = H b ∨ TabG m H m3 H' b := fun b hb => (l.hk b hb).imp id fun z => ⟨z.1, fun q t => (z.2 q t).keep rfl x⟩
theorem CR.tk' (C : CR K H m c) (l : Le m H m' H') : ∀ p ∈ tabsK K, p.1 ∈ m'.hd ∧ TabK m' H' p.1 p.2.1 := fun p hp => ⟨by rw [l.hd]; exact (C.tk p hp).1, l.tab (C.tk p hp).1 (C.tk p hp).2⟩
theorem Le.r {d : D} {v : V} (a : Le m H m' H') (h : RR K H m d v) : RR K H' m' d v := R.mono a.ex a.pre d v h
theorem Le.rl {ds : List D} {vs : List V} (a : Le m H m' H') (h : RRL K H m ds vs) : RRL K H' m' ds vs := RL.mono a.ex a.pre ds vs h
theorem SR.step (s : SR K σ H m ρ c) (a : Le m H m' H') (h : CR K H' m' c') : SR K σ H' m' ρ c' :=
  ⟨h, s.len, fun i d e => let ⟨v, h1, h2⟩ := s.sl i d e; ⟨v, h1, a.r h2⟩⟩
theorem CR.some_at {k : Nat} {a : Addr} (C : CR K H m c) (h : m.ix[k]? = some a) : ∃ ce, c[k]? = some ce ∧ CellAt K m H a ce := by
  have hk : k < c.length := by rw [← C.len]; exact (List.getElem?_eq_some_iff.mp h).1
  obtain ⟨b, h1, h2⟩ := C.at_ k c[k] (List.getElem?_eq_getElem hk)
  rw [h] at h1; cases h1
  exact ⟨_, List.getElem?_eq_getElem hk, h2⟩
theorem CellAt.obj {a : Addr} {ce : Cell} (h : CellAt K m H a ce) : ∃ o, H a = some o := by
  cases ce with
  | lst ds => obtain ⟨xs, h, _⟩ := h; exact ⟨_, h⟩
  | obj C ns ds => obtain ⟨dx, fs, h, _⟩ := h; exact ⟨_, h⟩
  | dct ks ds => obtain ⟨kvs, h, _⟩ := h; exact ⟨_, h⟩
  | dcT ks ds => obtain ⟨kvs, h, _⟩ := h; exact ⟨_, h⟩
theorem CellAt.nt {a : Addr} {ce : Cell} (h : CellAt K m H a ce) : ∃ o, H a = some o ∧ ∀ ps, o ≠ .tbl ps := by
  cases ce with
  | lst ds => obtain ⟨xs, h, _⟩ := h; exact ⟨_, h, fun _ z => nomatch z⟩
  | obj C ns ds => obtain ⟨dx, fs, h, _⟩ := h; exact ⟨_, h, fun _ z => nomatch z⟩
  | dct ks ds => obtain ⟨kvs, h, _⟩ := h; exact ⟨_, h, fun _ z => nomatch z⟩
  | dcT ks ds => obtain ⟨kvs, h, _⟩ := h; exact ⟨_, h, fun _ z => nomatch z⟩
/-- a cell that a callee hid -/
theorem Le.kcell {b : Addr} {ce : Cell} {m0 m1 : Ad} (l : Le m0 H m1 H') (hb : b ∈ m0.hd) (h : CellAt K m H b ce) {o : HO} (e : H b = some o) : H' b = some o := by
  obtain ⟨u, e1, n⟩ := h.nt
  rw [e] at e1; cases e1
  exact l.kc hb e n
theorem CellAt.mu {a : Addr} {ce : Cell} (h : CellAt K m H a ce) : ∃ o, H a = some o ∧ Mu o := by
  cases ce with
  | lst ds => obtain ⟨xs, h, _⟩ := h; exact ⟨_, h, fun _ z => nomatch z⟩
  | obj C ns ds => obtain ⟨dx, fs, h, _⟩ := h; exact ⟨_, h, fun _ z => nomatch z⟩
  | dct ks ds => obtain ⟨kvs, h, _⟩ := h; exact ⟨_, h, fun _ z => nomatch z⟩
  | dcT ks ds => obtain ⟨kvs, h, _⟩ := h; exact ⟨_, h, fun _ z => nomatch z⟩
/-- a new object, not mutable -/
theorem hid_new {p : Addr} (h : H p = none) (c1 : CR K H m c) : p ∉ m.ix ∧ p ∉ m.hd := by
  refine ⟨fun hp => ?_, fun hp => ?_⟩
  · obtain ⟨k, e⟩ := List.mem_iff_getElem?.mp hp
    obtain ⟨ce, _, h2⟩ := c1.some_at e
    obtain ⟨o, h3⟩ := h2.obj
    rw [h] at h3; cases h3
  · obtain ⟨o, h3, _⟩ := c1.hs p hp
    rw [h] at h3; cases h3
theorem hid_upd {p : Addr} {o : HO} (hp : p ∉ m.ix ∧ p ∉ m.hd) : hid m (upd H p o) = upd (hid m H) p o := by
  funext b
  unfold hid upd
  by_cases hb : b = p
  · subst hb; simp [hp.1, hp.2]
  · simp [hb]
theorem hid_mut {p : Addr} {o : HO} (hp : p ∈ m.ix) : hid m (upd H p o) = hid m H := by
  funext b
  unfold hid upd
  by_cases hb : b = p
  · subst hb; simp [hp]
  · simp [hb]
theorem CellAt.step {a : Addr} {ce : Cell} (l : Le m H m' H') (k : ∀ o, H a = some o → H' a = some o) (h : CellAt K m H a ce) : CellAt K m' H' a ce := by
  cases ce with
  | lst ds => obtain ⟨xs, h1, h2⟩ := h; exact ⟨xs, k _ h1, l.rl h2⟩
  | obj C ns ds => obtain ⟨dx, fs, h1, h2, h3⟩ := h; exact ⟨dx, fs, k _ h1, h2, l.rl h3⟩
  | dct ks ds => obtain ⟨kvs, h1, h2, h3⟩ := h; exact ⟨kvs, k _ h1, h2, l.rl h3⟩
  | dcT ks ds => obtain ⟨kvs, h1, h2, h3⟩ := h; exact ⟨kvs, k _ h1, h2, l.rl h3⟩
theorem Le.new {p : Addr} {o : HO} (h : H p = none) (c1 : CR K H m c) : Le m H m (upd H p o) := by
  have hp := hid_new h c1
  refine ⟨fun _ _ e => e, ?_, rfl, fun b hb => .inl (upd_ne fun e => hp.2 (by rw [← e]; exact hb)), fun _ h => .inl h, fun _ h => upd_none h⟩
  rw [hid_upd hp]
  exact Ex.new (by rw [hid_of hp]; exact h)
theorem CR.new {p : Addr} {o : HO} (h : H p = none) (c1 : CR K H m c) : CR K (upd H p o) m c :=
  ⟨c1.len, c1.nd, fun k ce e => let ⟨a, h1, h2⟩ := c1.at_ k ce e; ⟨a, h1, h2.step (Le.new h c1) fun o' e' => by rw [upd_ne (ne_of_none e' h)]; exact e'⟩,
    fun b hb => let ⟨o', h3, h4⟩ := c1.hs b hb; ⟨o', by rw [upd_ne (ne_of_none h3 h)]; exact h3, h4⟩, c1.dj, c1.tk' (Le.new h c1)⟩
theorem new_at {p : Addr} {o : HO} (h : H p = none) (c1 : CR K H m c) : hid m (upd H p o) p = some o := by
  rw [hid_of (hid_new h c1), upd_same]
end

/-! ### readings over data -/
/-- an expression: which data and which cells come out -/
abbrev TD := Env → List Cell → (D → List Cell → Prop) → Prop
abbrev TDs := Env → List Cell → (List D → List Cell → Prop) → Prop
abbrev TDt := Env → List Cell → (Bool → List Cell → Prop) → Prop
def lift (K : PySem.W.Frag) (t : TD) : TE := fun σ H Q => ∃ (m : Ad) (ρ : Env) (c : List Cell) (Φ : D → List Cell → Prop), SR K σ H m ρ c ∧ t ρ c Φ ∧
  ∀ d c' v H' m', Φ d c' → CR K H' m' c' → RR K H' m' d v → Le m H m' H' → Q v H'
def liftA (K : PySem.W.Frag) (t : TDs) : TA := fun σ H Q => ∃ (m : Ad) (ρ : Env) (c : List Cell) (Φ : List D → List Cell → Prop), SR K σ H m ρ c ∧ t ρ c Φ ∧
  ∀ ds c' vs H' m', Φ ds c' → CR K H' m' c' → RRL K H' m' ds vs → Le m H m' H' → Q vs H'
def liftT (K : PySem.W.Frag) (t : TDt) : TT := fun σ H Q => ∃ (m : Ad) (ρ : Env) (c : List Cell) (Φ : Bool → List Cell → Prop), SR K σ H m ρ c ∧ t ρ c Φ ∧
  ∀ b c' H' m', Φ b c' → CR K H' m' c' → Le m H m' H' → Q b H'
abbrev PD (X : Cx) (e : Expr) (t : TD) : Prop := PE X e (lift X.K t)
abbrev PDs (X : Cx) (es : List Expr) (t : TDs) : Prop := PA X es (liftA X.K t)
abbrev PDt (X : Cx) (e : Expr) (t : TDt) : Prop := PT X e (liftT X.K t)
theorem PE.imp {X : Cx} {e : Expr} {t t' : TE} (h : PE X e t) (i : ∀ σ H Q, t' σ H Q → t σ H Q) : PE X e t' := ⟨fun pins s σ H Q I w => h.run pins s σ H Q I (i σ H Q w)⟩
theorem PT.imp {X : Cx} {e : Expr} {t t' : TT} (h : PT X e t) (i : ∀ σ H Q, t' σ H Q → t σ H Q) : PT X e t' := ⟨fun pins s σ H Q I w => h.run pins s σ H Q I (i σ H Q w)⟩
theorem PW.imp {X : Cx} {e : Expr} {t t' : TT} (h : PW X e t) (i : ∀ σ H Q, t' σ H Q → t σ H Q) : PW X e t' := ⟨fun wh pins s σ H Q I w => h.run wh pins s σ H Q I (i σ H Q w)⟩
theorem PA.imp {X : Cx} {es : List Expr} {t t' : TA} (h : PA X es t) (i : ∀ σ H Q, t' σ H Q → t σ H Q) : PA X es t' := ⟨fun pos pins s σ H Q I w => h.run pos pins s σ H Q I (i σ H Q w)⟩
theorem PS.imp {X : Cx} {st : Stmt} {t t' : TS} (h : PS X st t) (i : ∀ D σ H, t' D σ H → t D σ H) : PS X st t' := ⟨fun pins s σ H D I w => h.run pins s σ H D I (i D σ H w)⟩
theorem PSs.imp {X : Cx} {st : List Stmt} {t t' : TS} (h : PSs X st t) (i : ∀ D σ H, t' D σ H → t D σ H) : PSs X st t' := ⟨fun pins s σ H D I w => h.run pins s σ H D I (i D σ H w)⟩
end Cw

namespace Cw
open PySem PySem.Spec PyProof.Rows L2

/-! ### a mutable object as what it holds now -/
def vw (c : List Cell) : D → D
  | .cell k => match c[k]? with
    | some (.lst ds) => .lst ds
    | some (.obj C ns ds) => .ins C ns ds
    | some (.dct ks ds) => .dct ks ds
    | some (.dcT ks ds) => .dcT ks ds
    | none => .cell k
  | d => d
def W (K : PySem.W.Frag) (H : Hp) (m : Ad) : D → V → Prop
  | .lst ds, v => ∃ a xs, v = .ref a ∧ H a = some (.lst xs) ∧ RRL K H m ds xs
  | .ins C ns ds, v => ∃ a dx fs, v = .ref a ∧ H a = some (.ins C dx fs) ∧ fs.map (·.1) = ns ∧ RRL K H m ds (fs.map (·.2))
  | .dct ks ds, v => ∃ a kvs, v = .ref a ∧ Rd H a (.dK kvs) ∧ kvs.map (·.1) = ks ∧ RRL K H m ds (kvs.map (·.2))
  | .dcT ks ds, v => ∃ a kvs, v = .ref a ∧ H a = some (.dT kvs) ∧ kvs.map (·.1) = ks ∧ RRL K H m ds (kvs.map (·.2))
  | d, v => RR K H m d v
section
variable {K : PySem.W.Frag} {m : Ad} {H : Hp} {c : List Cell}
theorem W.of : ∀ {d : D} {v : V}, RR K H m d v → W K H m d v
  | .non, _, h => h
  | .bl _, _, h => h
  | .int _, _, h => h
  | .str _, _, h => h
  | .tup _, _, h => h
  | .lst _, _, ⟨a, xs, e1, h1, h2⟩ => ⟨a, xs, e1, ex_hid m H a _ h1, h2⟩
  | .fl _, _, h => h
  | .cell _, _, h => h
  | .ins _ _ _, _, ⟨a, dx, fs, e1, h1, h2, h3⟩ => ⟨a, dx, fs, e1, ex_hid m H a _ h1, h2, h3⟩
  | .dct _ _, _, ⟨a, kvs, e1, h1, h2, h3⟩ => ⟨a, kvs, e1, ex_rd (ex_hid m H) h1, h2, h3⟩
  | .dcT _ _, _, ⟨a, kvs, e1, h1, h2, h3⟩ => ⟨a, kvs, e1, ex_hid m H a _ h1, h2, h3⟩
  | .exc _ _ _ _ _, _, h => h
  | .raw _, _, h => h
theorem W.vw (C : CR K H m c) {d : D} {v : V} (h : RR K H m d v) : W K H m (vw c d) v := by
  cases d with
  | cell k =>
    obtain ⟨a, h1, h2⟩ := h
    cases e : c[k]? with
    | none =>
      have z : Cw.vw c (.cell k) = .cell k := by simp [Cw.vw, e]
      rw [z]; exact ⟨a, h1, h2⟩
    | some ce =>
      obtain ⟨b, h3, h4⟩ := C.at_ k ce e
      rw [h1] at h3; cases h3
      cases ce with
      | lst ds =>
        have z : Cw.vw c (.cell k) = .lst ds := by simp [Cw.vw, e]
        rw [z]
        obtain ⟨xs, h5, h6⟩ := h4; exact ⟨a, xs, h2, h5, h6⟩
      | obj C ns ds =>
        have z : Cw.vw c (.cell k) = .ins C ns ds := by simp [Cw.vw, e]
        rw [z]
        obtain ⟨dx, fs, h5, h6, h7⟩ := h4; exact ⟨a, dx, fs, h2, h5, h6, h7⟩
      | dct ks ds =>
        have z : Cw.vw c (.cell k) = .dct ks ds := by simp [Cw.vw, e]
        rw [z]
        obtain ⟨kvs, h5, h6, h7⟩ := h4; exact ⟨a, kvs, h2, .inl h5, h6, h7⟩
      | dcT ks ds =>
        have z : Cw.vw c (.cell k) = .dcT ks ds := by simp [Cw.vw, e]
        rw [z]
        obtain ⟨kvs, h5, h6, h7⟩ := h4; exact ⟨a, kvs, h2, h5, h6, h7⟩
  | _ => exact W.of h
end

/-! ### operators -/
abbrev F2 := D → D → List Cell → (D → List Cell → Prop) → Prop
abbrev F1 := D → List Cell → (D → List Cell → Prop) → Prop
abbrev Fs := List D → List Cell → (D → List Cell → Prop) → Prop
abbrev KQ (K : PySem.W.Frag) (H : Hp) (m : Ad) (Φ : D → List Cell → Prop) (Q : VK) : Prop :=
  ∀ d c' w H' m', Φ d c' → CR K H' m' c' → RR K H' m' d w → Le m H m' H' → Q w H'
/-- r does on values what f does on data -/
def L2f (K : PySem.W.Frag) (f : F2) (r : R2) : Prop := ∀ x y c Φ, f x y c Φ → ∀ H m u v, CR K H m c → W K H m x u → W K H m y v → ∀ Q, KQ K H m Φ Q → r u v H Q
def L1f (K : PySem.W.Frag) (f : F1) (r : V → Hp → VK → Prop) : Prop := ∀ x c Φ, f x c Φ → ∀ H m u, CR K H m c → W K H m x u → ∀ Q, KQ K H m Φ Q → r u H Q
def Lsf (K : PySem.W.Frag) (f : Fs) (r : List V → Hp → VK → Prop) : Prop := ∀ xs c Φ, f xs c Φ → ∀ H m us, CR K H m c → Paired (W K H m) xs us → ∀ Q, KQ K H m Φ Q → r us H Q
def dBin (f : F2) (ta tb : TD) : TD := fun ρ c Φ => ta ρ c fun x c1 => tb ρ c1 fun y c2 => f (vw c2 x) (vw c2 y) c2 Φ
def dCB (f : Fs) (ta : TDs) : TD := fun ρ c Φ => ta ρ c fun xs c1 => f (xs.map (vw c1)) c1 Φ
section
variable {K : PySem.W.Frag} {f : F2} {f1 : F1} {fs : Fs} {r : R2} {ta tb : TD} {tas : TDs} {σ : L2.St} {H : Hp} {Q : VK}
theorem lift_bin (l : L2f K f r) (h : lift K (dBin f ta tb) σ H Q) : tOp r (lift K ta) (lift K tb) σ H Q := by
  obtain ⟨m, ρ, c, Φ, S, h, q⟩ := h
  exact ⟨m, ρ, c, _, S, h, fun x c1 u H1 m1 hx C1 R1 L1 => ⟨m1, ρ, c1, _, S.step L1 C1, hx, fun y c2 v H2 m2 hy C2 R2 L2 =>
    l _ _ c2 Φ hy H2 m2 u v C2 (W.vw C2 (L2.r R1)) (W.vw C2 R2) Q fun d c' w H' m' hd C' R' L' => q d c' w H' m' hd C' R' (L1.trans (L2.trans L'))⟩⟩
theorem paired_vw {m : Ad} {c : List Cell} (C : CR K H m c) : ∀ {ds : List D} {vs : List V}, RRL K H m ds vs → Paired (W K H m) (ds.map (vw c)) vs
  | [], _, h => by cases (show _ = [] from h); exact .nil
  | d :: ds, _, ⟨x, r, e1, h1, h2⟩ => by subst e1; exact .cons (W.vw C h1) (paired_vw C h2)
theorem lift_cb {r : List V → Hp → VK → Prop} (l : Lsf K fs r) (h : lift K (dCB fs tas) σ H Q) : tCB r (liftA K tas) σ H Q := by
  obtain ⟨m, ρ, c, Φ, S, h, q⟩ := h
  exact ⟨m, ρ, c, _, S, h, fun x c1 u H1 m1 hx C1 R1 L1 => l _ c1 Φ hx H1 m1 u C1 (paired_vw C1 R1) Q fun d c' w H' m' hd C' R' L' => q d c' w H' m' hd C' R' (L1.trans L')⟩
end

/-! ### names, constants -/
def dVar (i : Nat) : TD := fun ρ c Φ => match ρ[i]? with
  | some (some d) => Φ d c
  | _ => False
def dC (d : D) : TD := fun _ c Φ => Φ d c
section
variable {X : Cx} {e a b : Expr} {es : List Expr} {ta tb : TD} {tas : TDs} {pos : Pos}
theorem pd_pv {i : Nat} (h : PE X e (tVar i)) : PD X e (dVar i) := PE.imp h fun σ H Q ⟨m, ρ, c, Φ, S, h, q⟩ => by
  unfold dVar at h
  cases e1 : ρ[i]? with
  | none => rw [e1] at h; exact h.elim
  | some o =>
    cases o with
    | none => rw [e1] at h; exact h.elim
    | some d =>
      rw [e1] at h
      obtain ⟨v, h1, h2⟩ := S.sl i d e1
      exact ⟨v, h1, q d c v H m h S.cr h2 (Le.refl _ _)⟩
theorem pd_c {v : V} {d : D} (h : PE X e (tC v)) (r : ∀ m H, R X.K m H d v) : PD X e (dC d) := PE.imp h fun σ H Q ⟨m, ρ, c, Φ, S, h, q⟩ => q d c v H m h S.cr (r _ _) (Le.refl _ _)
theorem pd_v (i : Nat) {x : Str} (hN : X.N[i]? = some x := by rfl) (hv : Vis X.env.scope x := by first | exact Or.inl rfl | exact Or.inr (Or.inl rfl) | exact Or.inr (Or.inr rfl)) (hd : (x == ("__debug__" : Str)) = false := by decide)
    (hcd : (x == ("__classdict__" : Str)) = false := by decide) : PD X (.Name x pos) (dVar i) := pd_pv (pe_var hN hv hd hcd)
theorem pd_int {i j} : PD X (.Constant (.int i) j pos) (dC (.int i)) := pd_c pe_int fun _ _ => rfl
theorem pd_bl {b j} : PD X (.Constant (.bool b) j pos) (dC (.bl b)) := pd_c pe_bl fun _ _ => rfl
theorem pd_non {j} : PD X (.Constant .none j pos) (dC .non) := pd_c pe_non fun _ _ => rfl
theorem pd_str {x j} : PD X (.Constant (.str x) j pos) (dC (.str x)) := pd_c pe_str fun _ _ => rfl

/-! ### arguments, displays -/
def dNil : TDs := fun _ c Φ => Φ [] c
def dCons (ta : TD) (tr : TDs) : TDs := fun ρ c Φ => ta ρ c fun x c1 => tr ρ c1 fun xs c2 => Φ (x :: xs) c2
theorem pds_nil : PDs X [] dNil := PA.imp pa_nil fun σ H Q ⟨m, ρ, c, Φ, S, h, q⟩ => q [] c [] H m h S.cr rfl (Le.refl _ _)
theorem pds_cons (h1 : PD X e ta) (h2 : PDs X es tas) (hs : starEach (e :: es) X.env = (false, eval e X.env) :: starEach es X.env := by rfl) : PDs X (e :: es) (dCons ta tas) :=
  PA.imp (pa_cons h1 h2 hs) fun σ H Q ⟨m, ρ, c, Φ, S, h, q⟩ => ⟨m, ρ, c, _, S, h, fun x c1 u H1 m1 hx C1 R1 L1 => ⟨m1, ρ, c1, _, S.step L1 C1, hx, fun xs c2 us H2 m2 hy C2 R2 L2 =>
    q (x :: xs) c2 (u :: us) H2 m2 hy C2 ⟨u, us, rfl, L2.r R1, R2⟩ (L1.trans L2)⟩⟩
def dTup (t : TDs) : TD := fun ρ c Φ => t ρ c fun xs c1 => xs.length ≤ sizeLine ∧ Φ (.tup xs) c1
def dLst (t : TDs) : TD := fun ρ c Φ => t ρ c fun xs c1 => xs.length ≤ sizeLine ∧ Φ (.lst xs) c1
theorem RR.newT {m : Ad} {H : Hp} {c : List Cell} {p : Addr} {xs : List D} {us : List V} (C1 : CR X.K H m c) (hp : H p = none) (r : RRL X.K H m xs us) : RR X.K (upd H p (.tup us)) m (.tup xs) (.ref p) :=
  ⟨p, us, rfl, .inl (.inl (new_at hp C1)), (Le.new hp C1).rl r⟩
theorem RR.newL {m : Ad} {H : Hp} {c : List Cell} {p : Addr} {xs : List D} {us : List V} (C1 : CR X.K H m c) (hp : H p = none) (r : RRL X.K H m xs us) : RR X.K (upd H p (.lst us)) m (.lst xs) (.ref p) :=
  ⟨p, us, rfl, new_at hp C1, (Le.new hp C1).rl r⟩
theorem pd_tup {x1} (h : PDs X es tas) : PD X (.Tuple es x1 pos) (dTup tas) := PE.imp (pe_tup h) fun σ H Q ⟨m, ρ, c, Φ, S, h, q⟩ =>
  ⟨m, ρ, c, _, S, h, fun xs c1 us H1 m1 ⟨hl, hx⟩ C1 R1 L1 => ⟨by rw [← RL.length R1]; exact hl, fun p hp => q _ c1 _ _ m1 hx (C1.new hp) (RR.newT C1 hp R1) (L1.trans (Le.new hp C1))⟩⟩
theorem pd_lst (h : PDs X es tas) : PD X (.List es pos) (dLst tas) := PE.imp (pe_lst h) fun σ H Q ⟨m, ρ, c, Φ, S, h, q⟩ =>
  ⟨m, ρ, c, _, S, h, fun xs c1 us H1 m1 ⟨hl, hx⟩ C1 R1 L1 => ⟨by rw [← RL.length R1]; exact hl, fun p hp => q _ c1 _ _ m1 hx (C1.new hp) (RR.newL C1 hp R1) (L1.trans (Le.new hp C1))⟩⟩
/-- a list that will be changed: a new cell -/
def dLstM (t : TDs) : TD := fun ρ c Φ => t ρ c fun xs c1 => xs.length ≤ sizeLine ∧ Φ (.cell c1.length) (c1 ++ [.lst xs])
def Ad.push (m : Ad) (p : Addr) : Ad := ⟨m.ix ++ [p], m.hd⟩
theorem TabK.push {m : Ad} {H : Hp} {P p : Addr} {q : Str} {o : HO} (t : TabK m H P q) (hp : H p = some o) (ho : ∀ f, o ≠ .ext f) : TabK (m.push p) H P q := by
  obtain ⟨ps, h1, h2, h3⟩ := t
  refine ⟨ps, h1, h2, fun pos cv hc => ?_⟩
  obtain ⟨c, e1, e2⟩ := h3 pos cv hc
  refine ⟨c, e1, ?_⟩
  obtain ⟨⟨a, b⟩, e⟩ := hid_some e2
  rw [hid_of]
  · exact e
  · refine ⟨fun z => ?_, b⟩
    rcases List.mem_append.mp (show c ∈ m.ix ++ [p] from z) with z | z
    · exact a z
    · have : c = p := by simpa using z
      subst this
      rw [hp] at e
      exact ho _ (Option.some.inj e)
theorem push_pre {m : Ad} {p : Addr} (k : Nat) (a : Addr) (e : m.ix[k]? = some a) : (m.push p).ix[k]? = some a := by
  show (m.ix ++ [p])[k]? = some a
  rw [List.getElem?_append_left (List.getElem?_eq_some_iff.mp e).1]; exact e
theorem hid_app {m : Ad} {H : Hp} {p : Addr} {o : HO} (hp : H p = none) : hid (m.push p) (upd H p o) = hid m H := by
  funext b
  unfold hid upd Ad.push
  by_cases hb : b = p
  · subst hb; simp [hp]
  · simp [hb]
theorem cell_new {K : PySem.W.Frag} {m : Ad} {H : Hp} {c : List Cell} {p : Addr} {o : HO} {ce : Cell} (C1 : CR K H m c) (hp : H p = none)
    (hc : CellAt K (m.push p) (upd H p o) p ce) : CR K (upd H p o) (m.push p) (c ++ [ce]) ∧ Le m H (m.push p) (upd H p o) ∧ RR K (upd H p o) (m.push p) (.cell c.length) (.ref p) := by
  have hn := hid_new hp C1
  have l : Le m H (m.push p) (upd H p o) := ⟨push_pre, by rw [hid_app hp]; exact Ex.refl _, rfl, fun b hb => .inl (upd_ne fun e => hn.2 (by rw [← e]; exact hb)), fun a ha => (List.mem_append.mp (show a ∈ m.ix ++ [p] from ha)).elim .inl fun z => .inr (by
    have : a = p := by simpa using z
    subst this; exact hp), fun _ h => upd_none h⟩
  have last : (m.push p).ix[c.length]? = some p := by
    show (m.ix ++ [p])[c.length]? = some p
    rw [← C1.len]; simp
  refine ⟨⟨by simp [Ad.push, C1.len], ?_, fun k ce' e => ?_, fun b hb => ?_, fun a ha => ?_, C1.tk' l⟩, l, p, last, rfl⟩
  · show (m.ix ++ [p]).Nodup
    rw [List.nodup_append]
    refine ⟨C1.nd, by simp, fun a ha b hb e => ?_⟩
    have : b = p := by simpa using hb
    subst this; subst e
    exact hn.1 ha
  · by_cases hk : k < c.length
    · rw [List.getElem?_append_left hk] at e
      obtain ⟨a, h1, h2⟩ := C1.at_ k ce' e
      refine ⟨a, push_pre k a h1, h2.step l fun o' e' => ?_⟩
      rw [upd_ne (ne_of_none e' hp)]; exact e'
    · have hk' : k = c.length := by
        have := (List.getElem?_eq_some_iff.mp e).1
        simp at this; omega
      subst hk'
      simp at e; subst e
      exact ⟨p, last, hc⟩
  · obtain ⟨o', h3, h4⟩ := C1.hs b hb
    exact ⟨o', by rw [upd_ne (ne_of_none h3 hp)]; exact h3, h4⟩
  · rcases List.mem_append.mp (show a ∈ m.ix ++ [p] from ha) with z | z
    · exact C1.dj a z
    · have : a = p := by simpa using z
      subst this
      exact hn.2
theorem pd_lstM (h : PDs X es tas) : PD X (.List es pos) (dLstM tas) := PE.imp (pe_lst h) fun σ H Q ⟨m, ρ, c, Φ, S, h, q⟩ =>
  ⟨m, ρ, c, _, S, h, fun xs c1 us H1 m1 ⟨hl, hx⟩ C1 R1 L1 => ⟨by rw [← RL.length R1]; exact hl, fun p hp => by
    have z := cell_new (ce := .lst xs) (o := .lst us) C1 hp ⟨us, upd_same, by
      show RL _ _ (hid (m1.push p) _) _ _
      rw [hid_app hp]; exact RL.mono (Ex.refl _) push_pre _ _ R1⟩
    exact q _ _ _ _ _ hx z.1 z.2.2 (L1.trans z.2.1)⟩⟩
end
end Cw

namespace Cw
open PySem PySem.Spec PyProof.Rows L2

/-! ### data to the library's plain data -/
mutual
def D.py : D → Option PyData
  | .non => some .none
  | .bl b => some (.bool b)
  | .int i => some (.int i)
  | .str x => some (.str x)
  | .tup ds => (D.pys ds).map .tuple
  | .lst ds => (D.pys ds).map .list
  | .fl ds => (D.pys ds).map .list
  | .cell _ => none
  | .ins _ _ _ => none
  | .dct _ _ => none
  | .dcT _ _ => none
  | .exc _ _ _ _ _ => none
  | .raw _ => none
def D.pys : List D → Option (List PyData)
  | [] => some []
  | d :: ds => match D.py d, D.pys ds with
    | some p, some ps => some (p :: ps)
    | _, _ => none
end
section
variable {K : PySem.W.Frag} {m : List Addr} {H : Hp}
mutual
theorem R.dp : ∀ (d : D) (v : V) (p : PyData), R K m H d v → D.py d = some p → Dp K H v p
  | .non, _, _, h, e => by cases e; cases (show _ = V.non from h); exact .non
  | .bl b, _, _, h, e => by cases e; cases (show _ = V.bl b from h); exact .bl b
  | .int i, _, _, h, e => by cases e; cases (show _ = V.int i from h); exact .int i
  | .str x, _, _, h, e => by cases e; cases (show _ = V.str x from h); exact .str x
  | .tup ds, _, p, ⟨a, xs, e1, h1, h2⟩, e => by
    subst e1
    rw [show D.py (.tup ds) = (D.pys ds).map .tuple by rw [D.py]] at e
    cases e2 : D.pys ds with
    | none => rw [e2] at e; cases e
    | some ps => rw [e2] at e; cases e; exact .tup h1 (RL.dp ds xs ps h2 e2)
  | .lst ds, _, p, ⟨a, xs, e1, h1, h2⟩, e => by
    subst e1
    rw [show D.py (.lst ds) = (D.pys ds).map .list by rw [D.py]] at e
    cases e2 : D.pys ds with
    | none => rw [e2] at e; cases e
    | some ps => rw [e2] at e; cases e; exact .lst (SqL.of h1) (RL.dp ds xs ps h2 e2)
  | .fl ds, _, p, ⟨a, xs, e1, h1, h2⟩, e => by
    subst e1
    rw [show D.py (.fl ds) = (D.pys ds).map .list by rw [D.py]] at e
    cases e2 : D.pys ds with
    | none => rw [e2] at e; cases e
    | some ps => rw [e2] at e; cases e; exact .lst h1 (RL.dp ds xs ps h2 e2)
  | .cell _, _, _, _, e => by rw [D.py] at e; cases e
  | .ins _ _ _, _, _, _, e => by rw [D.py] at e; cases e
  | .dct _ _, _, _, _, e => by rw [D.py] at e; cases e
  | .dcT _ _, _, _, _, e => by rw [D.py] at e; cases e
  | .exc _ _ _ _ _, _, _, _, e => by rw [D.py] at e; cases e
  | .raw _, _, _, _, e => by rw [D.py] at e; cases e
theorem RL.dp : ∀ (ds : List D) (vs : List V) (ps : List PyData), RL K m H ds vs → D.pys ds = some ps → DpAll K H vs ps
  | [], _, _, h, e => by cases (show _ = [] from h); rw [D.pys] at e; cases e; exact .nil
  | d :: ds, _, ps, ⟨x, r, e1, h1, h2⟩, e => by
    subst e1
    rw [D.pys] at e
    cases e2 : D.py d with
    | none => rw [e2] at e; cases e
    | some p =>
      cases e3 : D.pys ds with
      | none => rw [e2, e3] at e; cases e
      | some qs => rw [e2, e3] at e; cases e; exact .cons (R.dp d x p h1 e2) (RL.dp ds r qs h2 e3)
end
theorem DpAll.mono' {H H' : Hp} (e : Ex H H') : ∀ {v : V} {d : PyData}, Dp K H v d → Dp K H' v d := by
  intro v d h
  refine Dp.rec (motive_1 := fun v d _ => Dp K H' v d) (motive_2 := fun vs ds _ => DpAll K H' vs ds) .non .bl .int .str (fun h1 _ i => .lst (ex_l e h1) i) (fun h1 _ i => .tup (ex_t e h1) i) .nil (fun _ _ i1 i2 => .cons i1 i2) h
theorem DpAll.mono2 {H H' : Hp} (e : Ex H H') : ∀ {vs : List V} {ds : List PyData}, DpAll K H vs ds → DpAll K H' vs ds
  | _, _, .nil => .nil
  | _, _, .cons h1 h2 => .cons (DpAll.mono' e h1) (DpAll.mono2 e h2)
end
section
variable {K : PySem.W.Frag} {m : Ad} {H : Hp}
theorem W.dp : ∀ {d : D} {v : V} {p : PyData}, W K H m d v → D.py d = some p → Dp K H v p
  | .non, _, _, h, e => DpAll.mono' (ex_hid m H) (R.dp (m := m.ix) .non _ _ h e)
  | .bl b, _, _, h, e => DpAll.mono' (ex_hid m H) (R.dp (m := m.ix) (.bl b) _ _ h e)
  | .int i, _, _, h, e => DpAll.mono' (ex_hid m H) (R.dp (m := m.ix) (.int i) _ _ h e)
  | .str x, _, _, h, e => DpAll.mono' (ex_hid m H) (R.dp (m := m.ix) (.str x) _ _ h e)
  | .tup ds, _, _, h, e => DpAll.mono' (ex_hid m H) (R.dp (m := m.ix) (.tup ds) _ _ h e)
  | .fl ds, _, _, h, e => DpAll.mono' (ex_hid m H) (R.dp (m := m.ix) (.fl ds) _ _ h e)
  | .lst ds, _, p, ⟨a, xs, e1, h1, h2⟩, e => by
    subst e1
    rw [show D.py (.lst ds) = (D.pys ds).map .list by rw [D.py]] at e
    cases e2 : D.pys ds with
    | none => rw [e2] at e; cases e
    | some ps => rw [e2] at e; cases e; exact .lst (SqL.of h1) (DpAll.mono2 (ex_hid m H) (RL.dp ds xs ps h2 e2))
  | .cell _, _, _, _, e => by rw [D.py] at e; cases e
  | .ins _ _ _, _, _, _, e => by rw [D.py] at e; cases e
  | .dct _ _, _, _, _, e => by rw [D.py] at e; cases e
  | .dcT _ _, _, _, _, e => by rw [D.py] at e; cases e
  | .exc _ _ _ _ _, _, _, _, e => by rw [D.py] at e; cases e
  | .raw _, _, _, _, e => by rw [D.py] at e; cases e
end

/-- the same data, the same heap -/
theorem KQ.pure {K : PySem.W.Frag} {H : Hp} {m : Ad} {c : List Cell} {Φ : D → List Cell → Prop} {Q : VK} {d : D} {w : V} (k : KQ K H m Φ Q) (C : CR K H m c) (h : Φ d c) (r : RR K H m d w) : Q w H := k d c w H m h C r (Le.refl _ _)
theorem KQ.newT {X : Cx} {H : Hp} {m : Ad} {c : List Cell} {Φ : D → List Cell → Prop} {Q : VK} {ds : List D} {ws : List V} (k : KQ X.K H m Φ Q) (C : CR X.K H m c) (h : Φ (.tup ds) c) (r : RRL X.K H m ds ws) {p : Addr} (hp : H p = none) : Q (.ref p) (upd H p (.tup ws)) :=
  k _ c _ _ m h (C.new hp) (RR.newT (X := X) C hp r) (Le.new hp C)
theorem KQ.newL {X : Cx} {H : Hp} {m : Ad} {c : List Cell} {Φ : D → List Cell → Prop} {Q : VK} {ds : List D} {ws : List V} (k : KQ X.K H m Φ Q) (C : CR X.K H m c) (h : Φ (.lst ds) c) (r : RRL X.K H m ds ws) {p : Addr} (hp : H p = none) : Q (.ref p) (upd H p (.lst ws)) :=
  k _ c _ _ m h (C.new hp) (RR.newL (X := X) C hp r) (Le.new hp C)

/-! ### + - * // % -/
def fAdd : F2
  | .int i, .int j, c, Φ => Φ (.int (i + j)) c
  | .str x, .str y, c, Φ => x.length + y.length ≤ sizeLine ∧ Φ (.str (x ++ y)) c
  | .lst xs, .lst ys, c, Φ => xs.length + ys.length ≤ sizeLine ∧ Φ (.lst (xs ++ ys)) c
  | .tup xs, .tup ys, c, Φ => xs.length + ys.length ≤ sizeLine ∧ Φ (.tup (xs ++ ys)) c
  | _, _, _, _ => False
def fSub : F2
  | .int i, .int j, c, Φ => Φ (.int (i - j)) c
  | _, _, _, _ => False
def fMul : F2
  | .int i, .int j, c, Φ => ((-(2 ^ 64) < i ∧ i < 2 ^ 64) ∨ (-(2 ^ 64) < j ∧ j < 2 ^ 64)) ∧ Φ (.int (i * j)) c
  | _, _, _, _ => False
def fDiv : F2
  | .int i, .int j, c, Φ => (0 < j ∧ j < 1073741824) ∧ Φ (.int (i / j)) c
  | _, _, _, _ => False
def fMod : F2
  | .int i, .int j, c, Φ => 0 < j ∧ Φ (.int (i % j)) c
  | _, _, _, _ => False
def fPow : F2
  | .int i, .int j, c, Φ => (0 ≤ j ∧ j ≤ 1000000 ∧ i.natAbs < 2 ^ 64) ∧ Φ (.int (i ^ j.toNat)) c
  | _, _, _, _ => False
section
variable {X : Cx} {a b : Expr} {ta tb : TD} {pos : Pos}
theorem pd_sub (ha : PD X a ta) (hb : PD X b tb) : PD X (.BinOp a .Sub b pos) (dBin fSub ta tb) := PE.imp (pe_op op_sub ha hb) fun σ H Q h => lift_bin (by
  intro x y c Φ h H m u v Cc r1 r2 Q k
  cases x <;> cases y <;> first | exact h.elim | skip
  cases r1; cases r2
  exact ⟨_, _, rfl, rfl, k.pure Cc h rfl⟩) h
theorem pd_mul (ha : PD X a ta) (hb : PD X b tb) : PD X (.BinOp a .Mult b pos) (dBin fMul ta tb) := PE.imp (pe_op op_mul ha hb) fun σ H Q h => lift_bin (by
  intro x y c Φ h H m u v Cc r1 r2 Q k
  cases x <;> cases y <;> first | exact h.elim | skip
  cases r1; cases r2
  exact ⟨_, _, rfl, rfl, h.1, k.pure Cc h.2 rfl⟩) h
theorem pd_div (ha : PD X a ta) (hb : PD X b tb) : PD X (.BinOp a .FloorDiv b pos) (dBin fDiv ta tb) := PE.imp (pe_op op_fdiv ha hb) fun σ H Q h => lift_bin (by
  intro x y c Φ h H m u v Cc r1 r2 Q k
  cases x <;> cases y <;> first | exact h.elim | skip
  cases r1; cases r2
  exact ⟨_, _, rfl, rfl, h.1, k.pure Cc h.2 rfl⟩) h
theorem pd_mod (ha : PD X a ta) (hb : PD X b tb) : PD X (.BinOp a .Mod b pos) (dBin fMod ta tb) := PE.imp (pe_op op_mod ha hb) fun σ H Q h => lift_bin (by
  intro x y c Φ h H m u v Cc r1 r2 Q k
  cases x <;> cases y <;> first | exact h.elim | skip
  cases r1; cases r2
  exact ⟨_, _, rfl, rfl, h.1, k.pure Cc h.2 rfl⟩) h
theorem pd_pow (ha : PD X a ta) (hb : PD X b tb) : PD X (.BinOp a .Pow b pos) (dBin fPow ta tb) := PE.imp (pe_op op_pow ha hb) fun σ H Q h => lift_bin (by
  intro x y c Φ h H m u v Cc r1 r2 Q k
  cases x <;> cases y <;> first | exact h.elim | skip
  cases r1; cases r2
  exact ⟨_, _, rfl, rfl, h.1, k.pure Cc h.2 rfl⟩) h
theorem rlen {K : PySem.W.Frag} {m : List Addr} {H : Hp} {ds : List D} {xs : List V} (h : RL K m H ds xs) : xs.length = ds.length := (RL.length h).symm
theorem pd_add (ha : PD X a ta) (hb : PD X b tb) : PD X (.BinOp a .Add b pos) (dBin fAdd ta tb) :=
  PE.imp (pe_op (op_add.or (op_add_str.or (op_cat.or op_catA))) ha hb) fun σ H Q h => lift_bin (by
  intro x y c Φ h H m u v Cc r1 r2 Q k
  cases x <;> cases y <;> first | exact h.elim | skip
  · cases r1; cases r2
    exact .inl ⟨_, _, rfl, rfl, k.pure Cc h rfl⟩
  · cases r1; cases r2
    exact .inr (.inl ⟨_, _, rfl, rfl, h.1, k.pure Cc h.2 rfl⟩)
  · rename_i xs ys
    obtain ⟨p, us, rfl, hp, ru⟩ := r1
    obtain ⟨q, ws, rfl, hq, rw'⟩ := r2
    refine .inr (.inr (.inr ⟨p, q, us, ws, rfl, rfl, ex_t (ex_hid m H) hp, ex_t (ex_hid m H) hq, by rw [rlen ru, rlen rw']; exact h.1, fun e => ?_, fun _ e => ?_, fun _ _ t ht => ?_⟩))
    · subst e
      have : xs = [] := by cases xs with | nil => rfl | cons d ds => obtain ⟨_, _, z, _⟩ := ru; cases z
      subst this
      exact k.pure Cc h.2 ⟨q, ws, rfl, hq, rw'⟩
    · subst e
      have : ys = [] := by cases ys with | nil => rfl | cons d ds => obtain ⟨_, _, z, _⟩ := rw'; cases z
      subst this
      have h3 := h.2
      rw [List.append_nil] at h3
      exact k.pure Cc h3 ⟨p, us, rfl, hp, ru⟩
    · exact KQ.newT (X := X) k Cc h.2 (RL.append ru rw') ht
  · obtain ⟨p, us, rfl, hp, ru⟩ := r1
    obtain ⟨q, ws, rfl, hq, rw'⟩ := r2
    exact .inr (.inr (.inl ⟨p, q, us, ws, rfl, rfl, hp, hq, by rw [rlen ru, rlen rw']; exact h.1, fun t ht => KQ.newL (X := X) k Cc h.2 (RL.append ru rw') ht⟩))) h
end
end Cw

namespace Cw
open PySem PySem.Spec PyProof.Rows L2

/-! ### == != < <= > >= in is -/
def fEq (neg : Bool) : F2
  | .int i, .int j, c, Φ => Φ (.bl (if neg then !decide (i = j) else decide (i = j))) c
  | .str x, .str y, c, Φ => Φ (.bl (if neg then !decide (x = y) else decide (x = y))) c
  | .bl x, .bl y, c, Φ => Φ (.bl (if neg then !decide (x = y) else decide (x = y))) c
  | x, y, c, Φ => ∃ p q, D.py x = some p ∧ D.py y = some q ∧ SeqAt.shaped p = true ∧ SeqAt.shaped q = true ∧ Φ (.bl (if neg then !PyData.eqv p q else PyData.eqv p q)) c
def fCmp (g : Int → Int → Bool) : F2
  | .int i, .int j, c, Φ => Φ (.bl (g i j)) c
  | _, _, _, _ => False
/-- one text in another -/
def inS (x y : Str) : Bool := match x.cps.toList with
  | [k] => decide (k ∈ y.cps.toList)
  | _ => !(Builtin.Str.occurrences y x 0 y.length 1).isEmpty
theorem inS_eq (x y : Str) : inS x y = !(Builtin.Str.occurrences y x 0 y.length 1).isEmpty := by
  unfold inS
  split
  · rename_i k e
    have hx : x = ⟨#[k]⟩ := by
      cases x with | mk cps => cases cps with | mk l => cases (show l = [k] from e); rfl
    subst hx
    exact (PySem.StrLaws.found_one y k).symm
  · rfl
def seqOf : D → Option (List D)
  | .lst ds => some ds
  | .fl ds => some ds
  | .tup ds => some ds
  | _ => none
def flatD : D → Bool
  | .non => true
  | .bl _ => true
  | .int _ => true
  | .str _ => true
  | _ => false
def flatV' : D → V
  | .bl b => .bl b
  | .int i => .int i
  | .str x => .str x
  | _ => .non
def inF (x : D) (ds : List D) : Bool := inV (flatV' x) (ds.map flatV')
def fIn (neg : Bool) : F2
  | .str x, .str y, c, Φ => Φ (.bl (if neg then !inS x y else inS x y)) c
  | x, y, c, Φ => (∃ ds, seqOf y = some ds ∧ flatD x = true ∧ ds.all flatD = true ∧ Φ (.bl (if neg then !inF x ds else inF x ds)) c) ∨ ∃ p ds ps, D.py x = some p ∧ seqOf y = some ds ∧ D.pys ds = some ps ∧ SeqAt.shaped p = true ∧ SeqAt.shaped (.list ps) = true ∧ Φ (.bl (if neg then !ps.any fun z => PyData.eqv z p else ps.any fun z => PyData.eqv z p)) c
def fIsN (neg : Bool) : F2
  | .non, .non, c, Φ => Φ (.bl (!neg)) c
  | .cell _, .non, c, Φ => Φ (.bl neg) c
  | .raw _, _, _, _ => False
  | _, .non, c, Φ => Φ (.bl neg) c
  | _, _, _, _ => False
def rInT (K : PySem.W.Frag) : R2 := fun x y H Q => ∃ d ds, Dp K H x d ∧ Dp K H y (.tuple ds) ∧ SeqAt.shaped d = true ∧ SeqAt.shaped (.list ds) = true ∧ Q (.bl (ds.any fun z => PyData.eqv z d)) H
def rNinT (K : PySem.W.Frag) : R2 := fun x y H Q => ∃ d ds, Dp K H x d ∧ Dp K H y (.tuple ds) ∧ SeqAt.shaped d = true ∧ SeqAt.shaped (.list ds) = true ∧ Q (.bl (!ds.any fun z => PyData.eqv z d)) H
theorem op_inT {X : Cx} (hu : X.A.units + 65 < cLine) : OpR X (compareOp .In) (rInT X.K) := by
  intro pins s σ H x y v u Q I rx ry ⟨d, ds, hd, he, sd, se, q⟩
  obtain ⟨as, w1⟩ := Dp.reads I d x v hd rx
  obtain ⟨bs, w2⟩ := Dp.reads I (.tuple ds) y u he ry
  exact SeqAt.in_tuple_reads w2 w1 (SeqAt.canLay_of_shaped se) (SeqAt.canLay_of_shaped sd) (room_in_shaped sd hu) ⟨.bl _, H, I, rfl, q⟩
theorem op_ninT {X : Cx} (hu : X.A.units + 65 < cLine) : OpR X (compareOp .NotIn) (rNinT X.K) := by
  intro pins s σ H x y v u Q I rx ry ⟨d, ds, hd, he, sd, se, q⟩
  obtain ⟨as, w1⟩ := Dp.reads I d x v hd rx
  obtain ⟨bs, w2⟩ := Dp.reads I (.tuple ds) y u he ry
  exact SeqAt.notIn_tuple_reads w2 w1 (SeqAt.canLay_of_shaped se) (SeqAt.canLay_of_shaped sd) (room_in_shaped sd hu) ⟨.bl _, H, I, rfl, q⟩

section
variable {X : Cx} {a b e : Expr} {ta tb tc : TD} {pos : Pos} {k : Nat}
theorem pyeq_lift {K : PySem.W.Frag} {neg : Bool} {x y : D} {c : List Cell} {Φ : D → List Cell → Prop} {H : Hp} {m : Ad} {u v : V} {Q : VK} (Cc : CR K H m c) (r1 : W K H m x u) (r2 : W K H m y v) (q : KQ K H m Φ Q)
    (h : ∃ p q, D.py x = some p ∧ D.py y = some q ∧ SeqAt.shaped p = true ∧ SeqAt.shaped q = true ∧ Φ (.bl (if neg then !PyData.eqv p q else PyData.eqv p q)) c) :
    ∃ d e, Dp K H u d ∧ Dp K H v e ∧ SeqAt.shaped d = true ∧ SeqAt.shaped e = true ∧ Q (.bl (if neg then !PyData.eqv d e else PyData.eqv d e)) H := by
  obtain ⟨p, q', e1, e2, s1, s2, h⟩ := h
  exact ⟨p, q', W.dp r1 e1, W.dp r2 e2, s1, s2, q.pure Cc h rfl⟩
theorem l2_eq {K : PySem.W.Frag} : L2f K (fEq false) (fun x y H Q => rEq x y H Q ∨ rEqD K x y H Q) := by
  intro x y c Φ h H m u v Cc r1 r2 Q q
  cases x <;> cases y <;> first
    | (cases r1; cases r2; exact .inl ⟨rfl, by simpa using q.pure Cc h rfl⟩)
    | exact .inr (pyeq_lift (neg := false) Cc r1 r2 q h)
theorem l2_ne {K : PySem.W.Frag} : L2f K (fEq true) (fun x y H Q => rNe x y H Q ∨ rNeD K x y H Q) := by
  intro x y c Φ h H m u v Cc r1 r2 Q q
  cases x <;> cases y <;> first
    | (cases r1; cases r2; exact .inl ⟨rfl, by simpa using q.pure Cc h rfl⟩)
    | exact .inr (pyeq_lift (neg := true) Cc r1 r2 q h)
theorem pd_eq (hr : Room k X.A) (ha : PD X a ta) (hb : PD X b tb) : PD X (.Compare a [.Eq] [b] pos) (dBin (fEq false) ta tb) := PE.imp (pe_cmpR (op_eq.or (op_eqD hr.units)) ha hb (nomark _)) fun σ H Q h => lift_bin l2_eq h
theorem l2_cmp {K : PySem.W.Frag} {g : Int → Int → Bool} : L2f K (fCmp g) (rI0 fun i j => .bl (g i j)) := by
  intro x y c Φ h H m u v Cc r1 r2 Q q
  cases x <;> cases y <;> first | exact h.elim | skip
  cases r1; cases r2
  exact ⟨_, _, rfl, rfl, q.pure Cc h rfl⟩
abbrev fLt := fCmp fun i j => decide (i < j)
abbrev fLe := fCmp fun i j => decide (i ≤ j)
abbrev fGt := fCmp fun i j => decide (j < i)
abbrev fGe := fCmp fun i j => decide (j ≤ i)
theorem pd_lt (ha : PD X a ta) (hb : PD X b tb) : PD X (.Compare a [.Lt] [b] pos) (dBin fLt ta tb) := PE.imp (pe_cmpR op_lt ha hb (nomark _)) fun σ H Q h => lift_bin l2_cmp h
theorem pd_le (ha : PD X a ta) (hb : PD X b tb) : PD X (.Compare a [.LtE] [b] pos) (dBin fLe ta tb) := PE.imp (pe_cmpR op_le ha hb (nomark _)) fun σ H Q h => lift_bin l2_cmp h
theorem pd_gt (ha : PD X a ta) (hb : PD X b tb) : PD X (.Compare a [.Gt] [b] pos) (dBin fGt ta tb) := PE.imp (pe_cmpR op_gt ha hb (nomark _)) fun σ H Q h => lift_bin l2_cmp h
theorem seq_dp {K : PySem.W.Frag} {H : Hp} {m : Ad} {y : D} {v : V} {ds : List D} {ps : List PyData} (r : W K H m y v) (e1 : seqOf y = some ds) (e2 : D.pys ds = some ps) : Dp K H v (.list ps) ∨ Dp K H v (.tuple ps) := by
  cases y <;> first | (cases e1; done) | skip
  · cases e1; exact .inr (W.dp r (by rw [D.py, e2]; rfl))
  · cases e1; exact .inl (W.dp r (by rw [D.py, e2]; rfl))
  · cases e1; exact .inl (W.dp r (by rw [D.py, e2]; rfl))
theorem seq_in {K : PySem.W.Frag} {m : Ad} {H : Hp} {x : D} {u : V} {ds : List D} (r : W K H m x u) (e : seqOf x = some ds) : ∃ p xs, u = .ref p ∧ (SqL K H p xs ∨ SqT K H p xs) ∧ RRL K H m ds xs := by
  cases x <;> first | (cases e; done) | skip
  · cases e; obtain ⟨p, xs, e1, h1, h2⟩ := r; exact ⟨p, xs, e1, .inr (ex_t (ex_hid m H) h1), h2⟩
  · cases e; obtain ⟨p, xs, e1, h1, h2⟩ := r; exact ⟨p, xs, e1, .inl (SqL.of h1), h2⟩
  · cases e; obtain ⟨p, xs, e1, h1, h2⟩ := r; exact ⟨p, xs, e1, .inl (ex_l (ex_hid m H) h1), h2⟩
theorem flat_v {K : PySem.W.Frag} {m : Ad} {H : Hp} {x : D} {u : V} (r : W K H m x u) (f : flatD x = true) : u = flatV' x ∧ flatV u = true := by
  cases x <;> first | (cases f; done) | (cases (show u = _ from r); exact ⟨rfl, rfl⟩)
theorem flat_vs {K : PySem.W.Frag} {m : List Addr} {H : Hp} : ∀ {ds : List D} {xs : List V}, RL K m H ds xs → ds.all flatD = true → xs = ds.map flatV' ∧ xs.all flatV = true
  | [], _, h, _ => by cases (show _ = [] from h); exact ⟨rfl, rfl⟩
  | d :: ds, _, ⟨x, r, e1, h1, h2⟩, f => by
    subst e1
    rw [List.all_cons, Bool.and_eq_true] at f
    obtain ⟨e2, f2⟩ := flat_vs h2 f.2
    have e3 : x = flatV' d ∧ flatV x = true := by
      cases d <;> first | (cases f.1; done) | (cases (show x = _ from h1); exact ⟨rfl, rfl⟩)
    exact ⟨by rw [e2, e3.1]; rfl, by rw [List.all_cons, e3.2, f2]; rfl⟩
def rInA (K : PySem.W.Frag) : R2 := fun x y H Q => (∃ i j, x = .str i ∧ y = .str j ∧ Q (.bl (!(Builtin.Str.occurrences j i 0 j.length 1).isEmpty)) H) ∨ (rIn K false x y H Q ∨ (rInD K x y H Q ∨ rInT K x y H Q))
def rNinA (K : PySem.W.Frag) : R2 := fun x y H Q => (∃ i j, x = .str i ∧ y = .str j ∧ Q (.bl (!(!(Builtin.Str.occurrences j i 0 j.length 1).isEmpty))) H) ∨ (rIn K true x y H Q ∨ (rNotInD K x y H Q ∨ rNinT K x y H Q))
theorem l2_in {K : PySem.W.Frag} : L2f K (fIn false) (rInA K) := by
  intro x y c Φ h H m u v Cc r1 r2 Q q
  have gen : (∃ ds, seqOf y = some ds ∧ flatD x = true ∧ ds.all flatD = true ∧ Φ (.bl (if false then !inF x ds else inF x ds)) c) ∨ (∃ p ds ps, D.py x = some p ∧ seqOf y = some ds ∧ D.pys ds = some ps ∧ SeqAt.shaped p = true ∧ SeqAt.shaped (.list ps) = true ∧ Φ (.bl (if false then !ps.any fun z => PyData.eqv z p else ps.any fun z => PyData.eqv z p)) c) → rInA K u v H Q := by
    rintro (⟨ds, e2, f1, f2, h⟩ | ⟨p, ds, ps, e1, e2, e3, s1, s2, h⟩)
    · obtain ⟨a, xs, rfl, sq, rl⟩ := seq_in r2 e2
      obtain ⟨ex, fx⟩ := flat_v r1 f1
      obtain ⟨exs, fxs⟩ := flat_vs rl f2
      refine .inr (.inl ⟨a, xs, rfl, sq, fx, fxs, ?_⟩)
      rw [ex, exs]
      exact q.pure Cc h rfl
    rcases seq_dp r2 e2 e3 with d | d
    · exact .inr (.inr (.inl ⟨p, ps, W.dp r1 e1, d, s1, s2, q.pure Cc h rfl⟩))
    · exact .inr (.inr (.inr ⟨p, ps, W.dp r1 e1, d, s1, s2, q.pure Cc h rfl⟩))
  cases x <;> cases y <;> first
    | exact gen h
    | (cases r1; cases r2; exact .inl ⟨_, _, rfl, rfl, by rw [← inS_eq]; exact q.pure Cc h rfl⟩)
theorem l2_nin {K : PySem.W.Frag} : L2f K (fIn true) (rNinA K) := by
  intro x y c Φ h H m u v Cc r1 r2 Q q
  have gen : (∃ ds, seqOf y = some ds ∧ flatD x = true ∧ ds.all flatD = true ∧ Φ (.bl (if true then !inF x ds else inF x ds)) c) ∨ (∃ p ds ps, D.py x = some p ∧ seqOf y = some ds ∧ D.pys ds = some ps ∧ SeqAt.shaped p = true ∧ SeqAt.shaped (.list ps) = true ∧ Φ (.bl (if true then !ps.any fun z => PyData.eqv z p else ps.any fun z => PyData.eqv z p)) c) → rNinA K u v H Q := by
    rintro (⟨ds, e2, f1, f2, h⟩ | ⟨p, ds, ps, e1, e2, e3, s1, s2, h⟩)
    · obtain ⟨a, xs, rfl, sq, rl⟩ := seq_in r2 e2
      obtain ⟨ex, fx⟩ := flat_v r1 f1
      obtain ⟨exs, fxs⟩ := flat_vs rl f2
      refine .inr (.inl ⟨a, xs, rfl, sq, fx, fxs, ?_⟩)
      rw [ex, exs]
      exact q.pure Cc h rfl
    rcases seq_dp r2 e2 e3 with d | d
    · exact .inr (.inr (.inl ⟨p, ps, W.dp r1 e1, d, s1, s2, q.pure Cc h rfl⟩))
    · exact .inr (.inr (.inr ⟨p, ps, W.dp r1 e1, d, s1, s2, q.pure Cc h rfl⟩))
  cases x <;> cases y <;> first
    | exact gen h
    | (cases r1; cases r2; exact .inl ⟨_, _, rfl, rfl, by rw [← inS_eq]; exact q.pure Cc h rfl⟩)
theorem pd_in (hr : Room k X.A) (ha : PD X a ta) (hb : PD X b tb) (hm : behindInMarks .In b = false := by rfl) : PD X (.Compare a [.In] [b] pos) (dBin (fIn false) ta tb) :=
  PE.imp (pe_cmpR (op_in_str.or (op_in_seq.or ((op_inD (by have := hr.un; omega)).or (op_inT (by have := hr.un; omega))))) ha hb hm) fun σ H Q h => lift_bin l2_in h
theorem l2_isn {K : PySem.W.Frag} : L2f K (fIsN false) (fun x y H Q => y = .non ∧ Q (.bl (decide (x = .non))) H) := by
  intro x y c Φ h H m u v Cc r1 r2 Q q
  have key : y = .non → ∀ b, decide (u = V.non) = b → Φ (.bl b) c → v = .non ∧ Q (.bl (decide (u = .non))) H := fun e b e2 h' => by
    subst e
    exact ⟨r2, by rw [e2]; exact q.pure Cc h' rfl⟩
  cases y <;> first | (cases x <;> exact h.elim) | skip
  refine key rfl _ ?_ (show Φ (.bl (match x with | .non => true | _ => false)) c by cases x <;> first | exact h | exact h.elim)
  cases x <;> first
    | (cases (show u = _ from r1); rfl)
    | (obtain ⟨_, _, rfl, _⟩ := r1; rfl)
    | (obtain ⟨_, _, rfl⟩ := r1; rfl)
    | (obtain ⟨_, _, _, rfl, _⟩ := r1; rfl)
    | (obtain ⟨_, rfl, _⟩ := r1; rfl)
    | exact h.elim
theorem l2_isnn {K : PySem.W.Frag} : L2f K (fIsN true) (fun x y H Q => y = .non ∧ Q (.bl (!decide (x = .non))) H) := by
  intro x y c Φ h H m u v Cc r1 r2 Q q
  have key : y = .non → ∀ b, (!decide (u = V.non)) = b → Φ (.bl b) c → v = .non ∧ Q (.bl (!decide (u = .non))) H := fun e b e2 h' => by
    subst e
    exact ⟨r2, by rw [e2]; exact q.pure Cc h' rfl⟩
  cases y <;> first | (cases x <;> exact h.elim) | skip
  refine key rfl _ ?_ (show Φ (.bl (match x with | .non => false | _ => true)) c by cases x <;> first | exact h | exact h.elim)
  cases x <;> first
    | (cases (show u = _ from r1); rfl)
    | (obtain ⟨_, _, rfl, _⟩ := r1; rfl)
    | (obtain ⟨_, _, rfl⟩ := r1; rfl)
    | (obtain ⟨_, _, _, rfl, _⟩ := r1; rfl)
    | (obtain ⟨_, rfl, _⟩ := r1; rfl)
    | exact h.elim
theorem pd_isnn (ha : PD X a ta) (hb : PD X b tb) : PD X (.Compare a [.IsNot] [b] pos) (dBin (fIsN true) ta tb) := PE.imp (pe_cmpR op_notN ha hb (nomark _)) fun σ H Q h => lift_bin l2_isnn h
/-- a <= b <= c and its like -/
def dChain (f g : F2) (ta tb tc : TD) : TD := fun ρ c Φ => ta ρ c fun x c1 => tb ρ c1 fun y c2 => f (vw c2 x) (vw c2 y) c2 fun z c3 => match z with
  | .bl true => tc ρ c3 fun w c4 => g (vw c4 y) (vw c4 w) c4 Φ
  | .bl false => Φ (.bl false) c3
  | _ => False
theorem lift_chain {K : PySem.W.Frag} {f g : F2} {r r' : R2} {σ : L2.St} {H : Hp} {Q : VK} (lf : L2f K f r) (lg : L2f K g r') (h : lift K (dChain f g ta tb tc) σ H Q) : tChain r r' (lift K ta) (lift K tb) (lift K tc) σ H Q := by
  obtain ⟨m, ρ, c, Φ, S, h, q⟩ := h
  refine ⟨m, ρ, c, _, S, h, fun x c1 u H1 m1 hx C1 R1 L1 => ⟨m1, ρ, c1, _, S.step L1 C1, hx, fun y c2 v H2 m2 hy C2 R2 L2 => ?_⟩⟩
  refine lf _ _ c2 _ hy H2 m2 u v C2 (W.vw C2 (L2.r R1)) (W.vw C2 R2) _ fun d c3 w H3 m3 hd C3 R3 L3 => ?_
  cases d with
  | bl bo =>
    cases bo with
    | true =>
      refine ⟨true, R3, ?_⟩
      rw [if_pos rfl]
      exact ⟨m3, ρ, c3, _, S.step (L1.trans (L2.trans L3)) C3, hd, fun z c4 w4 H4 m4 hz C4 R4 L4 =>
        lg _ _ c4 Φ hz H4 m4 v w4 C4 (W.vw C4 ((L3.trans L4).r R2)) (W.vw C4 R4) Q fun d' c' w' H' m' h' C' R' L' => q d' c' w' H' m' h' C' R' (L1.trans (L2.trans (L3.trans (L4.trans L'))))⟩
    | false =>
      refine ⟨false, R3, ?_⟩
      rw [if_neg (by decide)]
      exact q (.bl false) c3 (.bl false) H3 m3 hd C3 rfl (L1.trans (L2.trans L3))
  | _ => exact hd.elim
variable {cE : Expr}
theorem pd_lele (ha : PD X a ta) (hb : PD X b tb) (hc : PD X cE tc) (hm : lastMarks [.LtE, .LtE] [b, cE] = false := by with_unfolding_all rfl) : PD X (.Compare a [.LtE, .LtE] [b, cE] pos) (dChain fLe fLe ta tb tc) :=
  PE.imp (pe_chain op_le op_le ha hb hc hm) fun σ H Q h => lift_chain l2_cmp l2_cmp h

/-! ### tests -/
def asB (Φ : Bool → List Cell → Prop) : D → List Cell → Prop
  | .bl b, c => Φ b c
  | _, _ => False
def dT (t : TD) : TDt := fun ρ c Φ => t ρ c (asB Φ)
theorem lift_T {K : PySem.W.Frag} {t : TD} {σ : L2.St} {H : Hp} {Q : Bool → Hp → Prop} (h : liftT K (dT t) σ H Q) : lift K t σ H fun x H' => ∃ k, x = .bl k ∧ Q k H' := by
  obtain ⟨m, ρ, c, Φ, S, h, q⟩ := h
  refine ⟨m, ρ, c, asB Φ, S, h, fun d c' v H' m' hd C R L => ?_⟩
  cases d with
  | bl b => cases (show v = .bl b from R); exact ⟨b, rfl, q b c' H' m' hd C L⟩
  | _ => exact hd.elim
/-- an expression that gives a truth value, as a test -/
theorem pdt_val (h : PD X e ta) (he : ∀ whole, isTrue e X.env whole = (do let v ← whole; standAt e.pos; holding [v] (truthy v)) := by intro _; rfl) : PDt X e (dT ta) :=
  PT.imp (pt_val h he) fun σ H Q h => lift_T h
theorem pdt_cmp {op : CmpOp} {f : F2} {r : R2} (ho : OpR X (compareOp op) r) (l : L2f X.K f r) (ha : PD X a ta) (hb : PD X b tb) (hm : behindInMarks op b = false) : PDt X (.Compare a [op] [b] pos) (dT (dBin f ta tb)) :=
  PT.imp (pt_cmpR ho ha hb hm) fun σ H Q h => lift_bin l (lift_T h)
theorem pdt_eq (hr : Room k X.A) (ha : PD X a ta) (hb : PD X b tb) : PDt X (.Compare a [.Eq] [b] pos) (dT (dBin (fEq false) ta tb)) := pdt_cmp (op_eq.or (op_eqD hr.units)) l2_eq ha hb (nomark _)
theorem pdt_ne (hr : Room k X.A) (ha : PD X a ta) (hb : PD X b tb) : PDt X (.Compare a [.NotEq] [b] pos) (dT (dBin (fEq true) ta tb)) := pdt_cmp (op_ne.or (op_neD hr.units)) l2_ne ha hb (nomark _)
theorem pdt_lt (ha : PD X a ta) (hb : PD X b tb) : PDt X (.Compare a [.Lt] [b] pos) (dT (dBin fLt ta tb)) := pdt_cmp op_lt l2_cmp ha hb (nomark _)
theorem pdt_gt (ha : PD X a ta) (hb : PD X b tb) : PDt X (.Compare a [.Gt] [b] pos) (dT (dBin fGt ta tb)) := pdt_cmp op_gt l2_cmp ha hb (nomark _)
theorem pdt_ge (ha : PD X a ta) (hb : PD X b tb) : PDt X (.Compare a [.GtE] [b] pos) (dT (dBin fGe ta tb)) := pdt_cmp op_ge l2_cmp ha hb (nomark _)
theorem pdt_isn (ha : PD X a ta) (hb : PD X b tb) : PDt X (.Compare a [.Is] [b] pos) (dT (dBin (fIsN false) ta tb)) := pdt_cmp op_isN l2_isn ha hb (nomark _)
theorem pdt_in (hr : Room k X.A) (ha : PD X a ta) (hb : PD X b tb) (hm : behindInMarks .In b = false := by rfl) : PDt X (.Compare a [.In] [b] pos) (dT (dBin (fIn false) ta tb)) :=
  pdt_cmp (op_in_str.or (op_in_seq.or ((op_inD (by have := hr.un; omega)).or (op_inT (by have := hr.un; omega))))) l2_in ha hb hm
theorem pdt_nin (hr : Room k X.A) (ha : PD X a ta) (hb : PD X b tb) (hm : behindInMarks .NotIn b = false := by rfl) : PDt X (.Compare a [.NotIn] [b] pos) (dT (dBin (fIn true) ta tb)) :=
  pdt_cmp (op_notin_str.or (op_notIn_seq.or ((op_notInD (by have := hr.un; omega)).or (op_ninT (by have := hr.un; omega))))) l2_nin ha hb hm
theorem pdt_lele (ha : PD X a ta) (hb : PD X b tb) (hc : PD X cE tc) (hm : lastMarks [.LtE, .LtE] [b, cE] = false := by with_unfolding_all rfl) : PDt X (.Compare a [.LtE, .LtE] [b, cE] pos) (dT (dChain fLe fLe ta tb tc)) :=
  PT.imp (pt_chain op_le op_le ha hb hc hm) fun σ H Q h => lift_chain l2_cmp l2_cmp (lift_T h)
/- and, or, not, as tests -/
variable {tA tB : TDt} {rest : List Expr}
def dOr (t u : TDt) : TDt := fun ρ c Φ => t ρ c fun b c1 => match b with | true => Φ true c1 | false => u ρ c1 Φ
def dAnd (t u : TDt) : TDt := fun ρ c Φ => t ρ c fun b c1 => match b with | true => u ρ c1 Φ | false => Φ false c1
def dNot (t : TDt) : TDt := fun ρ c Φ => t ρ c fun b c1 => Φ (!b) c1
abbrev PDw (X : Cx) (e : Expr) (t : TDt) : Prop := PW X e (liftT X.K t)
theorem PDw.pt (h : PDw X e tA) : PDt X e tA := PW.pt h
theorem pdw_or1 (ha : PDt X a tA) : PDw X (.BoolOp .Or [a] pos) tA := pw_or1 ha
theorem pdw_and1 (ha : PDt X a tA) : PDw X (.BoolOp .And [a] pos) tA := pw_and1 ha
theorem pdw_or (ha : PDt X a tA) (hb : PDw X (.BoolOp .Or (b :: rest) pos) tB) : PDw X (.BoolOp .Or (a :: b :: rest) pos) (dOr tA tB) := PW.imp (pw_or ha hb) fun σ H Q ⟨m, ρ, c, Φ, S, h, q⟩ =>
  ⟨m, ρ, c, _, S, h, fun b c1 H1 m1 hx C1 L1 => by
    cases b with
    | true => exact q true c1 H1 m1 hx C1 L1
    | false => exact ⟨m1, ρ, c1, Φ, S.step L1 C1, hx, fun b' c' H' m' h' C' L' => q b' c' H' m' h' C' (L1.trans L')⟩⟩
theorem pdw_and (ha : PDt X a tA) (hb : PDw X (.BoolOp .And (b :: rest) pos) tB) : PDw X (.BoolOp .And (a :: b :: rest) pos) (dAnd tA tB) := PW.imp (pw_and ha hb) fun σ H Q ⟨m, ρ, c, Φ, S, h, q⟩ =>
  ⟨m, ρ, c, _, S, h, fun b c1 H1 m1 hx C1 L1 => by
    cases b with
    | false => exact q false c1 H1 m1 hx C1 L1
    | true => exact ⟨m1, ρ, c1, Φ, S.step L1 C1, hx, fun b' c' H' m' h' C' L' => q b' c' H' m' h' C' (L1.trans L')⟩⟩
theorem pdt_not (ha : PDt X a tA) : PDt X (.UnaryOp .Not a pos) (dNot tA) := PT.imp (pt_not ha) fun σ H Q ⟨m, ρ, c, Φ, S, h, q⟩ =>
  ⟨m, ρ, c, _, S, h, fun b c1 H1 m1 hx C1 L1 => q (!b) c1 H1 m1 hx C1 L1⟩
/-- .. as values -/
def dAndV (t u : TD) : TD := fun ρ c Φ => t ρ c fun d c1 => match d with | .bl true => u ρ c1 Φ | .bl false => Φ (.bl false) c1 | _ => False
theorem pd_one {op} (h : PD X a ta) : PD X (.BoolOp op [a] pos) ta := pe_one h
theorem pd_and (ha : PD X a ta) (hb : PD X (.BoolOp .And (b :: rest) pos) tb) : PD X (.BoolOp .And (a :: b :: rest) pos) (dAndV ta tb) := PE.imp (pe_and ha hb) fun σ H Q ⟨m, ρ, c, Φ, S, h, q⟩ =>
  ⟨m, ρ, c, _, S, h, fun d c1 v H1 m1 hx C1 R1 L1 => by
    cases d with
    | bl bo =>
      refine ⟨bo, R1, ?_⟩
      cases bo with
      | true => rw [if_pos rfl]; exact ⟨m1, ρ, c1, Φ, S.step L1 C1, hx, fun d' c' v' H' m' h' C' R' L' => q d' c' v' H' m' h' C' R' (L1.trans L')⟩
      | false => rw [if_neg (by decide)]; exact q _ c1 _ H1 m1 hx C1 rfl L1
    | _ => exact hx.elim⟩
def dNeg (t : TD) : TD := fun ρ c Φ => t ρ c fun d c1 => match d with | .int i => Φ (.int (-i)) c1 | _ => False
theorem pd_neg (ha : PD X a ta) : PD X (.UnaryOp .USub a pos) (dNeg ta) := PE.imp (pe_un un_neg ha) fun σ H Q ⟨m, ρ, c, Φ, S, h, q⟩ =>
  ⟨m, ρ, c, _, S, h, fun d c1 v H1 m1 hx C1 R1 L1 => by
    cases d with
    | int i => exact ⟨i, R1, q _ c1 _ H1 m1 hx C1 rfl L1⟩
    | _ => exact hx.elim⟩
/-- a if t else b -/
def dIf (t : TDt) (ta tb : TD) : TD := fun ρ c Φ => t ρ c fun b c1 => match b with | true => ta ρ c1 Φ | false => tb ρ c1 Φ
theorem pd_if {cE : Expr} (hc : PDt X cE tA) (ha : PD X a ta) (hb : PD X b tb) : PD X (.IfExp cE a b pos) (dIf tA ta tb) := PE.imp (pe_ifExp hc ha hb) fun σ H Q ⟨m, ρ, c, Φ, S, h, q⟩ =>
  ⟨m, ρ, c, _, S, h, fun b c1 H1 m1 hx C1 L1 => by
    cases b with
    | true => rw [if_pos rfl]; exact ⟨m1, ρ, c1, Φ, S.step L1 C1, hx, fun d' c' v' H' m' h' C' R' L' => q d' c' v' H' m' h' C' R' (L1.trans L')⟩
    | false => rw [if_neg (by decide)]; exact ⟨m1, ρ, c1, Φ, S.step L1 C1, hx, fun d' c' v' H' m' h' C' R' L' => q d' c' v' H' m' h' C' R' (L1.trans L')⟩⟩
end
end Cw

namespace Cw
open PySem PySem.Spec PyProof.Rows L2

/-! ### a[i], a[i:j] -/
def fIx : F2
  | .str z, .int i, c, Φ => z.length ≤ sizeLine ∧ match atI z.cps.toList i with
    | some k => Φ (.str ⟨#[k]⟩) c
    | none => False
  | x, .int i, c, Φ => match seqOf x with
    | some ds => (match atI ds i with
      | some d => Φ d c
      | none => False)
    | none => False
  | _, _, _, _ => False
def cutD {α : Type} (xs : List α) (lo hi : Option Int) : List α := (xs.drop (HT.sIx xs.length 0 lo)).take (HT.sIx xs.length xs.length hi - HT.sIx xs.length 0 lo)
def fSl (x : D) (lo hi : Option Int) (c : List Cell) (Φ : D → List Cell → Prop) : Prop := match x with
  | .str z => z.length ≤ sizeLine ∧ Φ (.str (cutS z lo hi)) c
  | .tup ds => Φ (.tup (cutD ds lo hi)) c
  | .lst ds => Φ (.lst (cutD ds lo hi)) c
  | .fl ds => Φ (.lst (cutD ds lo hi)) c
  | _ => False
abbrev TDo := Env → List Cell → (Option Int → List Cell → Prop) → Prop
def liftO (K : PySem.W.Frag) (t : TDo) : TO := fun σ H Q => ∃ (m : Ad) (ρ : Env) (c : List Cell) (Φ : Option Int → List Cell → Prop), SR K σ H m ρ c ∧ t ρ c Φ ∧
  ∀ b c' H' m', Φ b c' → CR K H' m' c' → Le m H m' H' → Q b H'
def dNoPart : TDo := fun _ c Φ => Φ none c
def dPart (t : TD) : TDo := fun ρ c Φ => t ρ c fun d c1 => match d with | .int i => Φ (some i) c1 | _ => False
def dSl (ta : TD) (tl th : TDo) : TD := fun ρ c Φ => ta ρ c fun x c1 => tl ρ c1 fun l c2 => th ρ c2 fun u c3 => fSl (vw c3 x) l u c3 Φ
section
variable {X : Cx} {a b e : Expr} {es : List Expr} {ta tb : TD} {tas : TDs} {pos p2 : Pos} {k : Nat} {lo hi : Option Expr} {tl th : TDo}
theorem RL.atI {K : PySem.W.Frag} {m : List Addr} {H : Hp} {ds : List D} {xs : List V} {i : Int} {d : D} (h : RL K m H ds xs) (e : L2.atI ds i = some d) : ∃ x, L2.atI xs i = some x ∧ R K m H d x := by
  unfold L2.atI at e ⊢
  rw [rlen h]
  cases hi : ixN ds.length i with
  | none => rw [hi] at e; cases e
  | some j =>
    rw [hi] at e
    obtain ⟨x, h1, h2⟩ := RL.get (i := j) h e
    exact ⟨x, h1, h2⟩
theorem seq_view {K : PySem.W.Frag} {m : Ad} {H : Hp} {x : D} {u : V} {ds : List D} (r : W K H m x u) (e : seqOf x = some ds) : ∃ p xs, u = .ref p ∧ (SqL K H p xs ∨ SqT K H p xs) ∧ RRL K H m ds xs := by
  cases x <;> first | (cases e; done) | skip
  · cases e; obtain ⟨p, xs, e1, h1, h2⟩ := r; exact ⟨p, xs, e1, .inr (ex_t (ex_hid m H) h1), h2⟩
  · cases e; obtain ⟨p, xs, e1, h1, h2⟩ := r; exact ⟨p, xs, e1, .inl (SqL.of h1), h2⟩
  · cases e; obtain ⟨p, xs, e1, h1, h2⟩ := r; exact ⟨p, xs, e1, .inl (ex_l (ex_hid m H) h1), h2⟩
theorem l2_ix {K : PySem.W.Frag} : L2f K fIx (rIx K) := by
  intro x y c Φ h H m u v Cc r1 r2 Q q
  have gen : ∀ i : Int, y = .int i → (match seqOf x with
    | some ds => (match atI ds i with
      | some d => Φ d c
      | none => False)
    | none => False) → rIx K u v H Q := by
    rintro i rfl h
    cases e1 : seqOf x with
    | none => rw [e1] at h; exact h.elim
    | some ds =>
      rw [e1] at h
      cases e2 : atI ds i with
      | none => simp only [e2] at h
      | some d =>
        simp only [e2] at h
        obtain ⟨p, xs, rfl, sq, rl⟩ := seq_view r1 e1
        obtain ⟨w, h3, h4⟩ := RL.atI rl e2
        rcases sq with sq | sq
        · exact .inl ⟨p, xs, i, w, rfl, r2, sq, h3, q.pure Cc h h4⟩
        · exact .inr (.inl ⟨p, xs, i, w, rfl, r2, sq, h3, q.pure Cc h h4⟩)
  cases y <;> first | (cases x <;> exact h.elim) | skip
  rename_i i
  cases x <;> first
    | exact gen i rfl h
    | (rename_i z
       cases (show u = V.str z from r1)
       obtain ⟨hz, h⟩ := h
       cases e : atI z.cps.toList i with
       | none => simp only [e] at h
       | some kk => simp only [e] at h; exact .inr (.inr ⟨z, i, kk, rfl, r2, hz, e, q.pure Cc h rfl⟩))
theorem pd_ix (ha : PD X a ta) (hb : PD X b tb) (hs : PlainIx b := by exact fun _ _ => rfl) : PD X (.Subscript a b pos) (dBin fIx ta tb) := PE.imp (pe_ix ix_seq ha hb hs) fun σ H Q h => lift_bin l2_ix h
theorem po_no : PO X none (liftO X.K dNoPart) := ⟨fun pins s σ H Q I h => po_none.run pins s σ H Q I (by obtain ⟨m, ρ, c, Φ, S, h, q⟩ := h; exact q none c H m h S.cr (Le.refl _ _))⟩
theorem po_so (h : PD X e ta) : PO X (some e) (liftO X.K (dPart ta)) := ⟨fun pins s σ H Q I h' => (po_some h).run pins s σ H Q I (by
  obtain ⟨m, ρ, c, Φ, S, h, q⟩ := h'
  exact ⟨m, ρ, c, _, S, h, fun d c1 v H1 m1 hx C1 R1 L1 => by
    cases d with
    | int i => exact ⟨i, R1, q _ c1 H1 m1 hx C1 L1⟩
    | _ => exact hx.elim⟩)⟩
theorem RL.cut {K : PySem.W.Frag} {m : List Addr} {H : Hp} {ds : List D} {xs : List V} {lo hi : Option Int} (h : RL K m H ds xs) : RL K m H (cutD ds lo hi) (cutV xs lo hi) := by
  unfold cutD cutV
  rw [rlen h]
  exact RL.take _ (RL.drop _ h)
theorem pd_sl (ha : PD X a ta) (hl : PO X lo (liftO X.K tl)) (hh : PO X hi (liftO X.K th)) : PD X (.Subscript a (.Slice lo hi none p2) pos) (dSl ta tl th) :=
  PE.imp (pe_slice (sl_list.or (sl_str.or sl_tupA)) ha hl hh) fun σ H Q ⟨m, ρ, c, Φ, S, h, q⟩ =>
  ⟨m, ρ, c, _, S, h, fun x c1 u H1 m1 hx C1 R1 L1 => ⟨m1, ρ, c1, _, S.step L1 C1, hx, fun l c2 H2 m2 hl C2 L2 => ⟨m2, ρ, c2, _, S.step (L1.trans L2) C2, hl, fun r c3 H3 m3 hr C3 L3 => by
    have w := W.vw C3 ((L2.trans L3).r R1)
    have L := L1.trans (L2.trans L3)
    have q' : KQ X.K H3 m3 Φ Q := fun d c' w H' m' hd C' R' L' => q d c' w H' m' hd C' R' (L.trans L')
    revert hr w
    generalize vw c3 x = x'
    intro hr w
    cases x' <;> first | exact hr.elim | skip
    · cases (show u = _ from w); exact .inr (.inl ⟨_, rfl, hr.1, q'.pure C3 hr.2 rfl⟩)
    · obtain ⟨p, xs, rfl, h1, h2⟩ := w
      refine .inr (.inr ⟨p, xs, rfl, ex_t (ex_hid m3 H3) h1, fun e => ?_, fun _ t ht => KQ.newT (X := X) q' C3 hr (RL.cut h2) ht⟩)
      have z : cutV xs l r = xs := by
        unfold cutV
        rw [e.1, e.2]
        simp
      have z2 := RL.cut (lo := l) (hi := r) h2
      rw [z] at z2
      exact q'.pure C3 hr ⟨p, xs, rfl, h1, z2⟩
    · obtain ⟨p, xs, rfl, h1, h2⟩ := w
      exact .inl ⟨p, xs, rfl, SqL.of h1, fun t ht => KQ.newL (X := X) q' C3 hr (RL.cut h2) ht⟩
    · obtain ⟨p, xs, rfl, h1, h2⟩ := w
      exact .inl ⟨p, xs, rfl, ex_l (ex_hid m3 H3) h1, fun t ht => KQ.newL (X := X) q' C3 hr (RL.cut h2) ht⟩⟩⟩⟩

end
end Cw

namespace Cw
open PySem PySem.Spec PyProof.Rows L2

/-! ### built-in functions -/
def un1 (f : F1) : Fs
  | [x], c, Φ => f x c Φ
  | _, _, _ => False
def un2 (f : F2) : Fs
  | [x, y], c, Φ => f x y c Φ
  | _, _, _ => False
theorem p1 {α β : Type} {F : α → β → Prop} {x : α} {us : List β} (h : Paired F [x] us) : ∃ u, us = [u] ∧ F x u := by
  cases h with | cons r t => cases t; exact ⟨_, rfl, r⟩
theorem p2' {α β : Type} {F : α → β → Prop} {x y : α} {us : List β} (h : Paired F [x, y] us) : ∃ u v, us = [u, v] ∧ F x u ∧ F y v := by
  cases h with | cons r t => cases t with | cons r2 t2 => cases t2; exact ⟨_, _, rfl, r, r2⟩
theorem lsf1 {K : PySem.W.Frag} {f : F1} {r : List V → Hp → VK → Prop} (h : L1f K f (fun u H Q => r [u] H Q)) : Lsf K (un1 f) r := by
  intro xs c Φ hx H m us C p Q q
  cases xs with
  | nil => exact hx.elim
  | cons x t =>
    cases t with
    | cons _ _ => exact hx.elim
    | nil => obtain ⟨u, rfl, r1⟩ := p1 p; exact h x c Φ hx H m u C r1 Q q
theorem lsf2 {K : PySem.W.Frag} {f : F2} {r : List V → Hp → VK → Prop} (h : L2f K f (fun u v H Q => r [u, v] H Q)) : Lsf K (un2 f) r := by
  intro xs c Φ hx H m us C p Q q
  cases xs with
  | nil => exact hx.elim
  | cons x t =>
    cases t with
    | nil => exact hx.elim
    | cons y t =>
      cases t with
      | cons _ _ => exact hx.elim
      | nil => obtain ⟨u, v, rfl, r1, r2⟩ := p2' p; exact h x y c Φ hx H m u v C r1 r2 Q q
theorem CallR.or {X : Cx} {f : Value} {r r' : List V → Hp → VK → Prop} (h : CallR X f r) (h' : CallR X f r') : CallR X f (fun xs H Q => r xs H Q ∨ r' xs H Q) := by
  intro pins s σ H xs us Q I rs q
  rcases q with q | q
  · exact h pins s σ H xs us Q I rs q
  · exact h' pins s σ H xs us Q I rs q
def fLen : F1
  | .str x, c, Φ => x.length ≤ sizeLine ∧ Φ (.int x.length) c
  | .tup ds, c, Φ => Φ (.int ds.length) c
  | .lst ds, c, Φ => Φ (.int ds.length) c
  | .fl ds, c, Φ => Φ (.int ds.length) c
  | _, _, _ => False
def fInt : F1
  | .int i, c, Φ => Φ (.int i) c
  | .str x, c, Φ => x.length ≤ 640 ∧ ∃ n, PySem.intText? x = some n ∧ Φ (.int n) c
  | _, _, _ => False
def fStr : F1
  | .int i, c, Φ => i.natAbs.log2 < 1920 ∧ Φ (.str (toString i)) c
  | .str x, c, Φ => Φ (.str x) c
  | _, _, _ => False
def fAbs : F1
  | .int i, c, Φ => Φ (.int (if i < 0 then -i else i)) c
  | _, _, _ => False
def fTuple : F1
  | .tup ds, c, Φ => Φ (.tup ds) c
  | .lst ds, c, Φ => Φ (.tup ds) c
  | .fl ds, c, Φ => Φ (.tup ds) c
  | _, _, _ => False
def fMax : F2
  | .int i, .int j, c, Φ => Φ (.int (if j > i then j else i)) c
  | _, _, _, _ => False
def fMin : F2
  | .int i, .int j, c, Φ => Φ (.int (if j < i then j else i)) c
  | _, _, _, _ => False
def fDivmod : F2
  | .int i, .int j, c, Φ => (0 < j ∧ j < 1073741824) ∧ Φ (.tup [.int (i / j), .int (i % j)]) c
  | _, _, _, _ => False
def bls : List D → Option (List Bool)
  | [] => some []
  | .bl b :: r => (bls r).map (b :: ·)
  | _ => none
def fAll : F1
  | .lst ds, c, Φ => ∃ bs, bls ds = some bs ∧ Φ (.bl (bs.all id)) c
  | _, _, _ => False
theorem bls_map {K : PySem.W.Frag} {m : List Addr} {H : Hp} : ∀ (ds : List D) (xs : List V) (bs : List Bool), RL K m H ds xs → bls ds = some bs → xs = bs.map V.bl
  | [], _, _, h, e => by cases e; exact h
  | d :: ds, _, bs, ⟨x, r, e1, h1, h2⟩, e => by
    subst e1
    cases d with
    | bl b =>
      change (bls ds).map (b :: ·) = some bs at e
      cases e2 : bls ds with
      | none => rw [e2] at e; cases e
      | some cs => rw [e2] at e; cases e; cases (show x = V.bl b from h1); rw [bls_map ds r cs h2 e2]; rfl
    | _ => cases e
section
variable {X : Cx} {e e2 : Expr} {ta tb : TD} {pos pp : Pos}
theorem l1_len {K : PySem.W.Frag} : L1f K fLen (fun u H Q => ∃ x n, [u] = [x] ∧ LenV K x H n ∧ Q (.int n) H) := by
  intro x c Φ h H m u C r Q q
  cases x <;> first | exact h.elim | skip
  · cases (show u = _ from r); exact ⟨_, _, rfl, ⟨h.1, rfl⟩, q.pure C h.2 rfl⟩
  · obtain ⟨p, xs, rfl, h1, h2⟩ := r
    exact ⟨.ref p, xs.length, rfl, .inr ⟨xs, ex_t (ex_hid m H) h1, rfl⟩, by rw [rlen h2]; exact q.pure C h rfl⟩
  · obtain ⟨p, xs, rfl, h1, h2⟩ := r
    exact ⟨.ref p, xs.length, rfl, .inl ⟨xs, SqL.of h1, rfl⟩, by rw [rlen h2]; exact q.pure C h rfl⟩
  · obtain ⟨p, xs, rfl, h1, h2⟩ := r
    exact ⟨.ref p, xs.length, rfl, .inl ⟨xs, ex_l (ex_hid m H) h1, rfl⟩, by rw [rlen h2]; exact q.pure C h rfl⟩
theorem pd_B1 {name id : String} {f : F1} {r : List V → Hp → VK → Prop} (cr : CallR X (.builtin id) r) (l : L1f X.K f (fun u H Q => r [u] H Q)) (hv : bootBuiltins (Str.ofString name) = some (.builtin id)) (hn : Str.ofString name ≠ "__name__") (hd : (Str.ofString name == ("__debug__" : Str)) = false)
    (ha : PD X e ta) (hg : Gl X (Str.ofString name)) (hm : X.mg (Str.ofString name) = none) (he : starEach [e] X.env = (false, eval e X.env) :: starEach [] X.env) (hpl : (backTo pos (starEach [] X.env)).any (·.1) = false) :
    PD X (.Call (.Name (Str.ofString name) pp) [e] [] pos) (dCB (un1 f) (dCons ta dNil)) := PE.imp (pe_callB cr hg hm hv (pds_cons ha pds_nil he) hn hd he hpl) fun σ H Q h => lift_cb (lsf1 l) h
theorem pd_T1 {name id : String} {f : F1} {r : List V → Hp → VK → Prop} (cr : CallR X (.type id) r) (l : L1f X.K f (fun u H Q => r [u] H Q)) (hv : bootBuiltins (Str.ofString name) = some (.type id)) (hn : Str.ofString name ≠ "__name__") (hd : (Str.ofString name == ("__debug__" : Str)) = false)
    (ha : PD X e ta) (hg : Gl X (Str.ofString name)) (hm : X.mg (Str.ofString name) = none) (he : starEach [e] X.env = (false, eval e X.env) :: starEach [] X.env) (hpl : (backTo pos (starEach [] X.env)).any (·.1) = false) :
    PD X (.Call (.Name (Str.ofString name) pp) [e] [] pos) (dCB (un1 f) (dCons ta dNil)) := PE.imp (pe_callTy cr hg hm hv (pds_cons ha pds_nil he) hn hd he hpl) fun σ H Q h => lift_cb (lsf1 l) h
theorem pd_B2 {name id : String} {f : F2} {r : List V → Hp → VK → Prop} (cr : CallR X (.builtin id) r) (l : L2f X.K f (fun u v H Q => r [u, v] H Q)) (hv : bootBuiltins (Str.ofString name) = some (.builtin id)) (hn : Str.ofString name ≠ "__name__") (hd : (Str.ofString name == ("__debug__" : Str)) = false)
    (ha : PD X e ta) (hb : PD X e2 tb) (hg : Gl X (Str.ofString name)) (hm : X.mg (Str.ofString name) = none) (he : starEach [e, e2] X.env = (false, eval e X.env) :: starEach [e2] X.env) (he2 : starEach [e2] X.env = (false, eval e2 X.env) :: starEach [] X.env) (hpl : (backTo pos (starEach [e2] X.env)).any (·.1) = false) :
    PD X (.Call (.Name (Str.ofString name) pp) [e, e2] [] pos) (dCB (un2 f) (dCons ta (dCons tb dNil))) := PE.imp (pe_callB cr hg hm hv (pds_cons ha (pds_cons hb pds_nil he2) he) hn hd he hpl) fun σ H Q h => lift_cb (lsf2 l) h
theorem l1_int {K : PySem.W.Frag} : L1f K fInt (fun u H Q => ((∃ i, [u] = [.int i] ∧ Q (.int i) H) ∨ ∃ k, [u] = [.bl k] ∧ Q (.int (if k then 1 else 0)) H) ∨ (∃ a n, [u] = [.str a] ∧ PySem.intText? a = some n ∧ a.length ≤ 640 ∧ Q (.int n) H)) := by
  intro x c Φ h H m u C r Q q
  cases x <;> first | exact h.elim | skip
  · cases (show u = _ from r); exact .inl (.inl ⟨_, rfl, q.pure C h rfl⟩)
  · cases (show u = _ from r)
    obtain ⟨hz, n, e, h⟩ := h
    exact .inr ⟨_, n, rfl, e, hz, q.pure C h rfl⟩
theorem l1_str {K : PySem.W.Frag} : L1f K fStr (fun u H Q => (∃ i, [u] = [.int i] ∧ i.natAbs.log2 < 1920 ∧ Q (.str (toString i)) H) ∨ (∃ a, [u] = [.str a] ∧ Q (.str a) H)) := by
  intro x c Φ h H m u C r Q q
  cases x <;> first | exact h.elim | skip
  · cases (show u = _ from r); exact .inl ⟨_, rfl, h.1, q.pure C h.2 rfl⟩
  · cases (show u = _ from r); exact .inr ⟨_, rfl, q.pure C h rfl⟩
theorem l1_abs {K : PySem.W.Frag} : L1f K fAbs (fun u H Q => ∃ i, [u] = [.int i] ∧ Q (.int (if i < 0 then -i else i)) H) := by
  intro x c Φ h H m u C r Q q
  cases x <;> first | exact h.elim | skip
  cases (show u = _ from r); exact ⟨_, rfl, q.pure C h rfl⟩
theorem l2_max {K : PySem.W.Frag} : L2f K fMax (fun u v H Q => ∃ i j, [u, v] = [.int i, .int j] ∧ Q (.int (if j > i then j else i)) H) := by
  intro x y c Φ h H m u v C r1 r2 Q q
  cases x <;> cases y <;> first | exact h.elim | skip
  cases (show u = _ from r1); cases (show v = _ from r2); exact ⟨_, _, rfl, q.pure C h rfl⟩
theorem l2_min {K : PySem.W.Frag} : L2f K fMin (fun u v H Q => ∃ i j, [u, v] = [.int i, .int j] ∧ Q (.int (if j < i then j else i)) H) := by
  intro x y c Φ h H m u v C r1 r2 Q q
  cases x <;> cases y <;> first | exact h.elim | skip
  cases (show u = _ from r1); cases (show v = _ from r2); exact ⟨_, _, rfl, q.pure C h rfl⟩
theorem l2_divmod {X : Cx} : L2f X.K fDivmod (fun u v H Q => ∃ i j, [u, v] = [.int i, .int j] ∧ CDiv i j ∧ ∀ p, H p = none → Q (.ref p) (upd H p (.tup [.int (i / j), .int (i % j)]))) := by
  intro x y c Φ h H m u v C r1 r2 Q q
  cases x <;> cases y <;> first | exact h.elim | skip
  cases (show u = _ from r1); cases (show v = _ from r2)
  exact ⟨_, _, rfl, h.1, fun t ht => KQ.newT (X := X) q C h.2 ⟨_, _, rfl, rfl, _, _, rfl, rfl, rfl⟩ ht⟩
theorem l1_tuple {X : Cx} : L1f X.K fTuple (fun u H Q => ∃ p ys, [u] = [.ref p] ∧ ((SqL X.K H p ys ∧ ∀ l, H l = none → Q (.ref l) (upd H l (.tup ys))) ∨ (SqT X.K H p ys ∧ Q (.ref p) H))) := by
  intro x c Φ h H m u C r Q q
  cases x <;> first | exact h.elim | skip
  · obtain ⟨p, xs, rfl, h1, h2⟩ := r
    exact ⟨p, xs, rfl, .inr ⟨ex_t (ex_hid m H) h1, q.pure C h ⟨p, xs, rfl, h1, h2⟩⟩⟩
  · obtain ⟨p, xs, rfl, h1, h2⟩ := r
    exact ⟨p, xs, rfl, .inl ⟨SqL.of h1, fun t ht => KQ.newT (X := X) q C h h2 ht⟩⟩
  · obtain ⟨p, xs, rfl, h1, h2⟩ := r
    exact ⟨p, xs, rfl, .inl ⟨ex_l (ex_hid m H) h1, fun t ht => KQ.newT (X := X) q C h h2 ht⟩⟩
theorem l1_all {K : PySem.W.Frag} : L1f K fAll (fun u H Q => rAll K [u] H Q) := by
  intro x c Φ h H m u C r Q q
  cases x <;> first | exact h.elim | skip
  obtain ⟨p, xs, rfl, h1, h2⟩ := r
  obtain ⟨bs, e, h⟩ := h
  exact ⟨p, bs, rfl, SqL.of (by rw [h1, bls_map _ _ _ h2 e]), q.pure C h rfl⟩
end
end Cw

namespace Cw
open PySem PySem.Spec PyProof.Rows L2
section
variable {X : Cx} {e e2 o : Expr} {ta tb : TD} {pos pp apos : Pos}
theorem pd_len (ha : PD X e ta) (hm : X.mg "len" = none) (hg : Gl X "len" := by rfl) (he : starEach [e] X.env = (false, eval e X.env) :: starEach [] X.env := by rfl) (hpl : (backTo pos (starEach [] X.env)).any (·.1) = false := by rfl) :
    PD X (.Call (.Name "len" pp) [e] [] pos) (dCB (un1 fLen) (dCons ta dNil)) := pd_B1 call_len l1_len boot_len (by decide) (by decide) ha hg hm he hpl
theorem pd_intc (ha : PD X e ta) (hm : X.mg "int" = none) (hg : Gl X "int" := by rfl) (he : starEach [e] X.env = (false, eval e X.env) :: starEach [] X.env := by rfl) (hpl : (backTo pos (starEach [] X.env)).any (·.1) = false := by rfl) :
    PD X (.Call (.Name "int" pp) [e] [] pos) (dCB (un1 fInt) (dCons ta dNil)) := pd_T1 (CallR.or call_int1 call_int_str) l1_int boot_int (by decide) (by decide) ha hg hm he hpl
theorem pd_strc (ha : PD X e ta) (hm : X.mg "str" = none) (hg : Gl X "str" := by rfl) (he : starEach [e] X.env = (false, eval e X.env) :: starEach [] X.env := by rfl) (hpl : (backTo pos (starEach [] X.env)).any (·.1) = false := by rfl) :
    PD X (.Call (.Name "str" pp) [e] [] pos) (dCB (un1 fStr) (dCons ta dNil)) := pd_T1 (CallR.or call_str_int SkE.call_str_str) l1_str boot_str (by decide) (by decide) ha hg hm he hpl
theorem pd_abs (ha : PD X e ta) (hm : X.mg "abs" = none) (hg : Gl X "abs" := by rfl) (he : starEach [e] X.env = (false, eval e X.env) :: starEach [] X.env := by rfl) (hpl : (backTo pos (starEach [] X.env)).any (·.1) = false := by rfl) :
    PD X (.Call (.Name "abs" pp) [e] [] pos) (dCB (un1 fAbs) (dCons ta dNil)) := pd_B1 call_abs l1_abs boot_abs (by decide) (by decide) ha hg hm he hpl
theorem pd_max (hc : X.calm = true) (ha : PD X e ta) (hb : PD X e2 tb) (hm : X.mg "max" = none) (hg : Gl X "max" := by rfl) (he : starEach [e, e2] X.env = (false, eval e X.env) :: starEach [e2] X.env := by rfl) (he2 : starEach [e2] X.env = (false, eval e2 X.env) :: starEach [] X.env := by rfl) (hpl : (backTo pos (starEach [e2] X.env)).any (·.1) = false := by rfl) :
    PD X (.Call (.Name "max" pp) [e, e2] [] pos) (dCB (un2 fMax) (dCons ta (dCons tb dNil))) := pd_B2 (call_max2 hc) l2_max boot_max (by decide) (by decide) ha hb hg hm he he2 hpl
theorem pd_min (hc : X.calm = true) (ha : PD X e ta) (hb : PD X e2 tb) (hm : X.mg "min" = none) (hg : Gl X "min" := by rfl) (he : starEach [e, e2] X.env = (false, eval e X.env) :: starEach [e2] X.env := by rfl) (he2 : starEach [e2] X.env = (false, eval e2 X.env) :: starEach [] X.env := by rfl) (hpl : (backTo pos (starEach [e2] X.env)).any (·.1) = false := by rfl) :
    PD X (.Call (.Name "min" pp) [e, e2] [] pos) (dCB (un2 fMin) (dCons ta (dCons tb dNil))) := pd_B2 (call_min2 hc) l2_min boot_min (by decide) (by decide) ha hb hg hm he he2 hpl
theorem pd_divmod (ha : PD X e ta) (hb : PD X e2 tb) (hm : X.mg "divmod" = none) (hg : Gl X "divmod" := by rfl) (he : starEach [e, e2] X.env = (false, eval e X.env) :: starEach [e2] X.env := by rfl) (he2 : starEach [e2] X.env = (false, eval e2 X.env) :: starEach [] X.env := by rfl) (hpl : (backTo pos (starEach [e2] X.env)).any (·.1) = false := by rfl) :
    PD X (.Call (.Name "divmod" pp) [e, e2] [] pos) (dCB (un2 fDivmod) (dCons ta (dCons tb dNil))) := pd_B2 call_divmod l2_divmod boot_divmod (by decide) (by decide) ha hb hg hm he he2 hpl
theorem pd_tuplec (ha : PD X e ta) (hm : X.mg "tuple" = none) (hg : Gl X "tuple" := by rfl) (he : starEach [e] X.env = (false, eval e X.env) :: starEach [] X.env := by rfl) (hpl : (backTo pos (starEach [] X.env)).any (·.1) = false := by rfl) :
    PD X (.Call (.Name "tuple" pp) [e] [] pos) (dCB (un1 fTuple) (dCons ta dNil)) := pd_T1 call_tuple_of l1_tuple boot_tuple (by decide) (by decide) ha hg hm he hpl
theorem pd_all (hc : X.calm = true) (ha : PD X e ta) (hm : X.mg "all" = none) (hg : Gl X "all" := by rfl) (he : starEach [e] X.env = (false, eval e X.env) :: starEach [] X.env := by rfl) (hpl : (backTo pos (starEach [] X.env)).any (·.1) = false := by rfl) :
    PD X (.Call (.Name "all" pp) [e] [] pos) (dCB (un1 fAll) (dCons ta dNil)) := pd_B1 (cr_all hc) l1_all boot_all (by decide) (by decide) ha hg hm he hpl

/-! ### methods of texts -/
def fSplit : F2
  | .str a, .str b, c, Φ => (b.length == 0) = false ∧ a.length + 2 ≤ sizeLine ∧ Φ (.lst ((Txt.split a b).map .str)) c
  | _, _, _, _ => False
def txts : List D → Option (List Str)
  | [] => some []
  | .str x :: r => (txts r).map (x :: ·)
  | _ => none
def fJoin : F2
  | .str a, .lst ds, c, Φ => ∃ ys, txts ds = some ys ∧ (ys.map (·.length)).sum + ys.length * a.length ≤ 16777216 ∧ Φ (.str (Txt.join a ys)) c
  | .str a, .tup ds, c, Φ => ∃ ys, txts ds = some ys ∧ (ys.map (·.length)).sum + ys.length * a.length ≤ 16777216 ∧ Φ (.str (Txt.join a ys)) c
  | _, _, _, _ => False
def fStarts : F2
  | .str a, .str b, c, Φ => Φ (.bl (Txt.startswith a b)) c
  | _, _, _, _ => False
theorem txts_map {K : PySem.W.Frag} {m : List Addr} {H : Hp} : ∀ (ds : List D) (xs : List V) (bs : List Str), RL K m H ds xs → txts ds = some bs → xs = bs.map V.str
  | [], _, _, h, e => by cases e; exact h
  | d :: ds, _, bs, ⟨x, r, e1, h1, h2⟩, e => by
    subst e1
    cases d with
    | str b =>
      change (txts ds).map (b :: ·) = some bs at e
      cases e2 : txts ds with
      | none => rw [e2] at e; cases e
      | some cs => rw [e2] at e; cases e; cases (show x = V.str b from h1); rw [txts_map ds r cs h2 e2]; rfl
    | _ => cases e
theorem rl_txts {K : PySem.W.Frag} {m : List Addr} {H : Hp} : ∀ (ys : List Str), RL K m H (ys.map D.str) (ys.map V.str)
  | [] => rfl
  | y :: ys => ⟨_, _, rfl, rfl, rl_txts ys⟩
theorem txts_of : ∀ (ys : List Str), txts (ys.map D.str) = some ys
  | [] => rfl
  | y :: ys => by show (txts (ys.map D.str)).map (y :: ·) = _; rw [txts_of ys]; rfl
/-- o.m(e), o a text -/
def dM1 (f : F2) (to te : TD) : TD := fun ρ c Φ => to ρ c fun x c1 => ∃ z, x = .str z ∧ te ρ c1 fun y c2 => f (.str z) (vw c2 y) c2 Φ
theorem lift_m1 {K : PySem.W.Frag} {f : F2} {r : V → List V → Hp → VK → Prop} {σ : L2.St} {H : Hp} {Q : VK} (l : L2f K f (fun u v H Q => r u [v] H Q)) (h : lift K (dM1 f ta tb) σ H Q) : tM1 r (lift K ta) (lift K tb) σ H Q := by
  obtain ⟨m, ρ, c, Φ, S, h, q⟩ := h
  refine ⟨m, ρ, c, _, S, h, fun x c1 u H1 m1 hx C1 R1 L1 => ?_⟩
  obtain ⟨z, rfl, hx⟩ := hx
  refine ⟨⟨z, R1⟩, m1, ρ, c1, _, S.step L1 C1, hx, fun y c2 v H2 m2 hy C2 R2 L2 => ?_⟩
  exact l _ _ c2 Φ hy H2 m2 u v C2 R1 (W.vw C2 R2) Q fun d c' w H' m' hd C' R' L' => q d c' w H' m' hd C' R' (L1.trans (L2.trans L'))
theorem pd_split (ho : PD X o ta) (he : PD X e tb) (hs : starEach [e] X.env = [(false, eval e X.env)] := by rfl) (hbase : attributeBase o "split" X.env (eval o X.env) = eval o X.env := by rfl) (hline : (apos.endLine == pos.line) = true := by rfl) :
    PD X (.Call (.Attribute o "split" apos) [e] [] pos) (dM1 fSplit ta tb) := PE.imp (pe_split ho he hs hbase hline) fun σ H Q h => lift_m1 (by
      intro x y c Φ h H m u v C r1 r2 Q q
      cases x <;> cases y <;> first | exact h.elim | skip
      cases (show u = _ from r1); cases (show v = _ from r2)
      exact ⟨_, _, rfl, rfl, h.1, h.2.1, fun p hp => KQ.newL (X := X) q C h.2.2 (rl_txts _) hp⟩) h
theorem pd_join (ho : PD X o ta) (he : PD X e tb) (hs : starEach [e] X.env = [(false, eval e X.env)] := by rfl) (hbase : attributeBase o "join" X.env (eval o X.env) = eval o X.env := by rfl) (hline : (apos.endLine == pos.line) = true := by rfl) :
    PD X (.Call (.Attribute o "join" apos) [e] [] pos) (dM1 fJoin ta tb) := PE.imp (pe_join ho he hs hbase hline) fun σ H Q h => lift_m1 (by
      intro x y c Φ h H m u v C r1 r2 Q q
      cases x <;> cases y <;> first | exact h.elim | skip
      · cases (show u = _ from r1)
        obtain ⟨p, xs, rfl, h1, h2⟩ := r2
        obtain ⟨ys, e1, e2, h⟩ := h
        exact ⟨_, p, ys, rfl, rfl, .inr (by rw [← txts_map _ _ _ h2 e1]; exact ex_t (ex_hid m H) h1), e2, q.pure C h rfl⟩
      · cases (show u = _ from r1)
        obtain ⟨p, xs, rfl, h1, h2⟩ := r2
        obtain ⟨ys, e1, e2, h⟩ := h
        exact ⟨_, p, ys, rfl, rfl, .inl (by rw [← txts_map _ _ _ h2 e1]; exact SqL.of h1), e2, q.pure C h rfl⟩) h
theorem pd_starts (ho : PD X o ta) (he : PD X e tb) (hs : starEach [e] X.env = [(false, eval e X.env)] := by rfl) (hbase : attributeBase o "startswith" X.env (eval o X.env) = eval o X.env := by rfl) (hline : (apos.endLine == pos.line) = true := by rfl) :
    PD X (.Call (.Attribute o "startswith" apos) [e] [] pos) (dM1 fStarts ta tb) := PE.imp (pe_m1 F.slot_str_startswith F.type_str_startswith mt_startswith ho he hs hbase hline) fun σ H Q h => lift_m1 (by
      intro x y c Φ h H m u v C r1 r2 Q q
      cases x <;> cases y <;> first | exact h.elim | skip
      cases (show u = _ from r1); cases (show v = _ from r2)
      exact ⟨_, _, rfl, rfl, q.pure C h rfl⟩) h

/-! ### xs.append(e), xs a cell -/
def dAppend (to te : TD) : TD := fun ρ c Φ => to ρ c fun x c1 => ∃ k, x = .cell k ∧ (∃ ds, c1[k]? = some (.lst ds)) ∧ te ρ c1 fun y c2 => ∃ ds, c2[k]? = some (.lst ds) ∧ ds.length < sizeLine ∧ Φ .non (c2.set k (.lst (ds ++ [y])))
theorem cell_put {K : PySem.W.Frag} {m : Ad} {H : Hp} {c : List Cell} {k : Nat} {a : Addr} {o : HO} {ce : Cell} (C : CR K H m c) (hk : m.ix[k]? = some a) (hc : CellAt K m (upd H a o) a ce) : CR K (upd H a o) m (c.set k ce) ∧ Le m H m (upd H a o) := by
  have ha : a ∈ m.ix := List.mem_of_getElem? hk
  have l : Le m H m (upd H a o) := ⟨fun _ _ e => e, by rw [hid_mut ha]; exact Ex.refl _, rfl, fun b hb => .inl (upd_ne fun e => C.dj a ha (by rw [← e]; exact hb)), fun _ h => .inl h, fun _ h => upd_none h⟩
  refine ⟨⟨by rw [List.length_set]; exact C.len, C.nd, fun j ce' e => ?_, fun b hb => ?_, C.dj, C.tk' l⟩, l⟩
  · by_cases hj : k = j
    · subst hj
      have hl : k < c.length := by rw [← C.len]; exact (List.getElem?_eq_some_iff.mp hk).1
      rw [List.getElem?_set_self hl] at e
      cases e
      exact ⟨a, hk, hc⟩
    · rw [List.getElem?_set_ne hj] at e
      obtain ⟨b, h1, h2⟩ := C.at_ j ce' e
      have ne : b ≠ a := fun z => by
        subst z
        have h3 := (List.getElem?_eq_some_iff.mp hk)
        have h4 := (List.getElem?_eq_some_iff.mp h1)
        exact hj ((List.getElem_inj C.nd).mp (h3.2.trans h4.2.symm))
      exact ⟨b, h1, h2.step l fun o' e' => by rw [upd_ne ne]; exact e'⟩
  · obtain ⟨o', h3, h4⟩ := C.hs b hb
    exact ⟨o', by rw [upd_ne fun e => C.dj a ha (by rw [← e]; exact hb)]; exact h3, h4⟩
theorem pd_append (ho : PD X o ta) (he : PD X e tb)
    (hbase : attributeBase o "append" X.env (eval o X.env) = eval o X.env := by rfl)
    (hfew : ((backTo pos (starEach [e] X.env)).all (fun x => !x.1) && (backToKw pos (keywordEach [] X.env)).all (fun x => x.1.isSome) && decide ([e].length + ([] : List Keyword).length + (if ([] : List Keyword).isEmpty then 0 else 1) < 30)) = true := by rfl)
    (hline : (apos.endLine == pos.line) = true := by rfl) (hs : starEach [e] X.env = (false, eval e X.env) :: starEach [] X.env := by rfl) (hplain : (backTo pos (starEach [] X.env)).any (·.1) = false := by rfl) :
    PD X (.Call (.Attribute o "append" apos) [e] [] pos) (dAppend ta tb) :=
  PE.imp (pe_bm PySem.F.plainAttrs_list PySem.F.slot_list_append PySem.F.type_list_append mt_append ho (pds_cons he pds_nil hs) hbase hfew hline hs hplain) fun σ H Q ⟨m, ρ, c, Φ, S, h, q⟩ =>
  ⟨m, ρ, c, _, S, h, fun x c1 u H1 m1 hx C1 R1 L1 => by
    obtain ⟨k, rfl, ⟨ds, hk⟩, hx⟩ := hx
    obtain ⟨a, ha, rfl⟩ := R1
    obtain ⟨b, hb, xs, h1, h2⟩ := C1.at_ k _ hk
    rw [ha] at hb; cases hb
    refine ⟨.inl ⟨rfl, xs, SqL.of h1⟩, m1, ρ, c1, _, S.step L1 C1, (show dCons tb dNil ρ c1 (fun ys c2 => ∃ y, ys = [y] ∧ ∃ ds, c2[k]? = some (.lst ds) ∧ ds.length < sizeLine ∧ Φ .non (c2.set k (.lst (ds ++ [y])))) from ?_), fun ys c2 vs H2 m2 hy C2 R2 L2 => ?_⟩
    · show tb ρ c1 _
      have e : (fun x c1 => dNil ρ c1 fun xs c2 => ∃ y, x :: xs = [y] ∧ ∃ ds, c2[k]? = some (.lst ds) ∧ ds.length < sizeLine ∧ Φ .non (c2.set k (.lst (ds ++ [y])))) = fun y c2 => ∃ ds, c2[k]? = some (.lst ds) ∧ ds.length < sizeLine ∧ Φ .non (c2.set k (.lst (ds ++ [y]))) := by
        funext y c2
        apply propext
        constructor
        · rintro ⟨z, hz, r⟩; cases hz; exact r
        · intro r; exact ⟨y, rfl, r⟩
      rw [e]; exact hx
    · obtain ⟨y, rfl, es, hk2, hl, hq⟩ := hy
      obtain ⟨v, r, rfl, rv, rr⟩ := R2
      cases (show r = [] from rr)
      obtain ⟨b, hb, xs2, h3, h4⟩ := C2.at_ k _ hk2
      rw [L2.pre k a ha] at hb; cases hb
      refine ⟨a, xs2, v, rfl, rfl, h3, by rw [rlen h4]; exact hl, ?_⟩
      have hm : a ∈ m2.ix := List.mem_of_getElem? (L2.pre k a ha)
      have z := cell_put (o := .lst (xs2 ++ [v])) (ce := .lst (es ++ [y])) C2 (L2.pre k a ha) ⟨_, upd_same, by show RL _ _ (hid m2 _) _ _; rw [hid_mut hm]; exact RL.append h4 ⟨v, [], rfl, rv, rfl⟩⟩
      exact q .non _ .non _ m2 hq z.1 rfl (L1.trans (L2.trans z.2))⟩
end
end Cw

namespace Cw
open PySem PySem.Spec PyProof.Rows L2

/-! ### statements -/
structure DEnds where
  nx : Env → List Cell → Prop
  rt : D → List Cell → Prop
  bk : Env → List Cell → Prop := fun _ _ => False
  ct : Env → List Cell → Prop := fun _ _ => False
abbrev TSD := DEnds → Env → List Cell → Prop
abbrev KN (K : PySem.W.Frag) (H : Hp) (m : Ad) (Φ : Env → List Cell → Prop) (Q : L2.St → Hp → Prop) : Prop := ∀ σ' H' m' ρ' c', Φ ρ' c' → SR K σ' H' m' ρ' c' → Le m H m' H' → Q σ' H'
def liftS (K : PySem.W.Frag) (t : TSD) : TS := fun Dn σ H => ∃ (m : Ad) (ρ : Env) (c : List Cell) (De : DEnds), SR K σ H m ρ c ∧ t De ρ c ∧
  KN K H m De.nx Dn.nx ∧ KQ K H m De.rt Dn.rt ∧ KN K H m De.bk Dn.bk ∧ KN K H m De.ct Dn.ct
abbrev PSD (X : Cx) (s : Stmt) (t : TSD) : Prop := PS X s (liftS X.K t)
abbrev PSDs (X : Cx) (s : List Stmt) (t : TSD) : Prop := PSs X s (liftS X.K t)
theorem KN.le {K : PySem.W.Frag} {H H1 : Hp} {m m1 : Ad} {Φ : Env → List Cell → Prop} {Q : L2.St → Hp → Prop} (k : KN K H m Φ Q) (l : Le m H m1 H1) : KN K H1 m1 Φ Q := fun σ' H' m' ρ' c' h s l' => k σ' H' m' ρ' c' h s (l.trans l')
theorem KQ.le {K : PySem.W.Frag} {H H1 : Hp} {m m1 : Ad} {Φ : D → List Cell → Prop} {Q : VK} (k : KQ K H m Φ Q) (l : Le m H m1 H1) : KQ K H1 m1 Φ Q := fun d c' w H' m' h C R l' => k d c' w H' m' h C R (l.trans l')
def dNext : TSD := fun D ρ c => D.nx ρ c
def dSeq (t u : TSD) : TSD := fun D ρ c => t { D with nx := u D } ρ c
section
variable {X : Cx} {st : Stmt} {rest : List Stmt} {t u : TSD} {e e2 o : Expr} {ta tb : TD} {pos pos' pp apos : Pos} {tA : TDt}
theorem psd_nil : PSDs X [] dNext := PSs.imp pss_nil fun Dn σ H ⟨m, ρ, c, De, S, h, n, r, b, k⟩ => n σ H m ρ c h S (Le.refl _ _)
theorem psd_cons (h1 : PSD X st t) (h2 : PSDs X rest u) : PSDs X (st :: rest) (dSeq t u) := PSs.imp (pss_cons h1 h2) fun Dn σ H ⟨m, ρ, c, De, S, h, n, r, b, k⟩ =>
  ⟨m, ρ, c, { De with nx := u De }, S, h, fun σ' H' m' ρ' c' h' S' l => ⟨m', ρ', c', De, S', h', n.le l, r.le l, b.le l, k.le l⟩, r, b, k⟩
theorem psd_one (h1 : PSD X st t) : PSDs X [st] t := pss_one h1
def dRet (ta : TD) : TSD := fun D ρ c => ta ρ c D.rt
theorem psd_ret (h : PD X e ta) : PSD X (.Return (some e) pos) (dRet ta) := PS.imp (ps_ret h) fun Dn σ H ⟨m, ρ, c, De, S, h, n, r, b, k⟩ => ⟨m, ρ, c, De.rt, S, h, r⟩
def dDrop (ta : TD) : TSD := fun D ρ c => ta ρ c fun _ c1 => D.nx ρ c1
theorem psd_expr (h : PD X e ta) (hs : swapsWith e none pos.line X.env = pure false := by rfl) : PSD X (.Expr e pos) (dDrop ta) := PS.imp (ps_expr h hs) fun Dn σ H ⟨m, ρ, c, De, S, h, n, r, b, k⟩ =>
  ⟨m, ρ, c, _, S, h, fun d c' w H' m' hd C R L => n σ H' m' ρ c' hd (S.step L C) L⟩
def dIfS (tc : TDt) (t u : TSD) : TSD := fun D ρ c => tc ρ c fun b c1 => match b with | true => t D ρ c1 | false => u D ρ c1
theorem psd_if {cE : Expr} {a b : List Stmt} (hc : PDt X cE tA) (ha : PSDs X a t) (hb : PSDs X b u) : PSD X (.If cE a b pos) (dIfS tA t u) := PS.imp (ps_if hc ha hb) fun Dn σ H ⟨m, ρ, c, De, S, h, n, r, b, k⟩ =>
  ⟨m, ρ, c, _, S, h, fun bo c1 H1 m1 hx C1 L1 => by
    cases bo with
    | true => rw [if_pos rfl]; exact ⟨m1, ρ, c1, De, S.step L1 C1, hx, n.le L1, r.le L1, b.le L1, k.le L1⟩
    | false => rw [if_neg (by decide)]; exact ⟨m1, ρ, c1, De, S.step L1 C1, hx, n.le L1, r.le L1, b.le L1, k.le L1⟩⟩
/-! ### targets -/
theorem SR.set {K : PySem.W.Frag} {σ : L2.St} {H : Hp} {m : Ad} {ρ : Env} {c : List Cell} {i : Nat} {d : D} {v : V} (S : SR K σ H m ρ c) (r : RR K H m d v) : SR K (σ.set i (some v)) H m (ρ.set i (some d)) c := by
  refine ⟨S.cr, by rw [List.length_set, List.length_set]; exact S.len, fun j d' e => ?_⟩
  by_cases hj : i = j
  · subst hj
    have hl := (List.getElem?_eq_some_iff.mp e).1
    rw [List.length_set] at hl
    rw [List.getElem?_set_self hl] at e
    cases e
    exact ⟨v, by rw [List.getElem?_set_self (by rw [← S.len]; exact hl)], r⟩
  · rw [List.getElem?_set_ne hj] at e
    obtain ⟨w, h1, h2⟩ := S.sl j d' e
    exact ⟨w, by rw [List.getElem?_set_ne hj]; exact h1, h2⟩
def dSet (i : Nat) (ta : TD) : TSD := fun D ρ c => ta ρ c fun d c1 => D.nx (ρ.set i (some d)) c1
theorem psd_set {i : Nat} {x : Str} (hN : X.N.Nodup) (h : PD X e ta) (hi : X.N[i]? = some x := by rfl) (hx : Loc X.env.scope x := by first | exact Or.inl rfl | exact Or.inr rfl) (hs : swapsWith e (some (.Name x pos')) pos.line X.env = pure false := by rfl)
    (hf : X.fn x = true ∨ X.env.scope.names.lookup x = some .local := by first | exact .inl rfl | exact .inr rfl) : PSD X (.Assign [.Name x pos'] e pos) (dSet i ta) :=
  PS.imp (ps_set hN hi hx h hs hf) fun Dn σ H ⟨m, ρ, c, De, S, h, n, r, b, k⟩ => ⟨m, ρ, c, _, S, h, fun d c' w H' m' hd C R L => n _ H' m' _ c' hd ((S.step L C).set R) L⟩
abbrev TGD := D → Env → List Cell → (Env → List Cell → Prop) → Prop
abbrev TGDs := List D → Env → List Cell → (Env → List Cell → Prop) → Prop
def liftG (K : PySem.W.Frag) (t : TGD) : TG := fun v σ H Q => ∃ (m : Ad) (ρ : Env) (c : List Cell) (d : D) (Φ : Env → List Cell → Prop), SR K σ H m ρ c ∧ RR K H m d v ∧ t d ρ c Φ ∧ KN K H m Φ Q
def liftGs (K : PySem.W.Frag) (t : TGDs) : TGs := fun vs σ H Q => ∃ (m : Ad) (ρ : Env) (c : List Cell) (ds : List D) (Φ : Env → List Cell → Prop), SR K σ H m ρ c ∧ RRL K H m ds vs ∧ t ds ρ c Φ ∧ KN K H m Φ Q
abbrev PGD (X : Cx) (e : Expr) (t : TGD) : Prop := PG X e (liftG X.K t)
abbrev PGDs (X : Cx) (es : List Expr) (t : TGDs) : Prop := PGs X es (liftGs X.K t)
theorem PG.imp {t t' : TG} (h : PG X e t) (i : ∀ v σ H Q, t' v σ H Q → t v σ H Q) : PG X e t' := ⟨fun pins s σ H v u Q I r w => h.run pins s σ H v u Q I r (i v σ H Q w)⟩
theorem PGs.imp {es : List Expr} {t t' : TGs} (h : PGs X es t) (i : ∀ v σ H Q, t' v σ H Q → t v σ H Q) : PGs X es t' := ⟨fun pins s σ H v u Q I r w => h.run pins s σ H v u Q I r (i v σ H Q w)⟩
def gNm (i : Nat) : TGD := fun d ρ c Φ => Φ (ρ.set i (some d)) c
theorem pgd_name {i : Nat} {x : Str} (hN : X.N.Nodup) (hi : X.N[i]? = some x := by rfl) (hx : Loc X.env.scope x := by first | exact Or.inl rfl | exact Or.inr rfl) (hf : X.fn x = true ∨ X.env.scope.names.lookup x = some .local := by first | exact .inl rfl | exact .inr rfl) : PGD X (.Name x pos) (gNm i) :=
  PG.imp (pg_name hN hi hx hf) fun v σ H Q ⟨m, ρ, c, d, Φ, S, r, h, n⟩ => n _ H m _ c h (S.set r) (Le.refl _ _)
def gNl : TGDs := fun ds ρ c Φ => ds = [] ∧ Φ ρ c
def gCn (t : TGD) (u : TGDs) : TGDs := fun ds ρ c Φ => match ds with
  | d :: r => t d ρ c fun ρ1 c1 => u r ρ1 c1 Φ
  | [] => False
theorem pgds_nil : PGDs X [] gNl := PGs.imp pgs_nil fun vs σ H Q ⟨m, ρ, c, ds, Φ, S, r, h, n⟩ => by
  obtain ⟨rfl, h⟩ := h
  exact ⟨r, n σ H m ρ c h S (Le.refl _ _)⟩
theorem pgds_cons {es : List Expr} {t : TGD} {u : TGDs} (h1 : PGD X e t) (h2 : PGDs X es u) (hs : (assignEach (e :: es) X.env).map (·.2) = assign e X.env :: (assignEach es X.env).map (·.2) := by rfl) : PGDs X (e :: es) (gCn t u) :=
  PGs.imp (pgs_cons h1 h2 hs) fun vs σ H Q ⟨m, ρ, c, ds, Φ, S, r, h, n⟩ => by
    cases ds with
    | nil => exact h.elim
    | cons d ds =>
      obtain ⟨v, vr, rfl, r1, r2⟩ := r
      exact ⟨v, vr, rfl, m, ρ, c, d, _, S, r1, h, fun σ' H' m' ρ' c' h' S' l => ⟨m', ρ', c', ds, Φ, S', l.rl r2, h', n.le l⟩⟩
def gTp (k : Nat) (t : TGDs) : TGD := fun d ρ c Φ => match d with
  | .tup ds => ds.length = k ∧ t ds ρ c Φ
  | _ => False
theorem pgd_tup {es : List Expr} {k : Nat} {t : TGDs} {n : Nat} (hc : X.calm = true) (h : PGDs X es t) (hn : (assignEach es X.env).length = n := by rfl) (hst : (assignEach es X.env).findIdx? (·.1) = none := by rfl) : PGD X (.Tuple es k pos) (gTp n t) :=
  PG.imp (pg_tup hc h hn hst) fun v σ H Q ⟨m, ρ, c, d, Φ, S, r, h, nn⟩ => by
    cases d <;> first | exact h.elim | skip
    obtain ⟨a, xs, rfl, h1, h2⟩ := r
    exact ⟨a, xs, rfl, ex_t (ex_hid m H) h1, by rw [rlen h2]; exact h.1, m, ρ, c, _, Φ, S, h2, h.2, nn⟩
/-- xs[i] = .., xs a cell -/
def gSb (to ti : TD) : TGD := fun d ρ c Φ => to ρ c fun x c1 => ∃ k, x = .cell k ∧ ti ρ c1 fun y c2 => ∃ i ds j, y = .int i ∧ c2[k]? = some (.lst ds) ∧ ixN ds.length i = some j ∧ Φ ρ (c2.set k (.lst (ds.set j d)))
theorem pgd_sub {i : Expr} (ho : PD X o ta) (hi : PD X i tb)
    (ha : ∀ v, assign (.Subscript o i pos) X.env v = (do
      let ov ← holding [v] (eval o X.env)
      let iv ← holding [v, ov] (eval i X.env)
      standAt pos
      holding [v, ov, iv] (setItem ov iv v)
      release [v, ov, iv] []) := by intro _; rfl) : PGD X (.Subscript o i pos) (gSb ta tb) :=
  PG.imp (pg_sub ho hi set_list ha) fun v σ H Q ⟨m, ρ, c, d, Φ, S, r, h, n⟩ =>
  ⟨m, ρ, c, _, S, h, fun x c1 u H1 m1 hx C1 R1 L1 => by
    obtain ⟨k, rfl, hx⟩ := hx
    obtain ⟨a, ha, rfl⟩ := R1
    refine ⟨m1, ρ, c1, _, S.step L1 C1, hx, fun y c2 w H2 m2 hy C2 R2 L2 => ?_⟩
    obtain ⟨i', ds, j, rfl, hk, hj, hq⟩ := hy
    obtain ⟨b, hb, xs, h1, h2⟩ := C2.at_ k _ hk
    rw [L2.pre k a ha] at hb; cases hb
    refine ⟨a, xs, i', j, rfl, R2, h1, by rw [rlen h2]; exact hj, ?_⟩
    have hm : a ∈ m2.ix := List.mem_of_getElem? (L2.pre k a ha)
    have z := cell_put (o := .lst (xs.set j v)) (ce := .lst (ds.set j d)) C2 (L2.pre k a ha) ⟨_, upd_same, by show RL _ _ (hid m2 _) _ _; rw [hid_mut hm]; exact RL.set ((L1.trans L2).r r) j h2⟩
    exact n σ _ m2 ρ _ hq ((S.step (L1.trans L2) C2).step z.2 z.1) ((L1.trans L2).trans z.2)⟩
def dAsg (te : TD) (g : TGD) : TSD := fun D ρ c => te ρ c fun d c1 => g d ρ c1 D.nx
theorem psd_asg {tg : Expr} {g : TGD} (he : PD X e ta) (hg : PGD X tg g) (hs : swapsWithSole [tg] e pos.line X.env = pure false := by rfl) (hw : swappedStores [tg] e X.env = pure none := by rfl) (h1 : (assignEach [tg] X.env).map (·.2) = [assign tg X.env] := by rfl) :
    PSD X (.Assign [tg] e pos) (dAsg ta g) := PS.imp (ps_asg he hg hs hw h1) fun Dn σ H ⟨m, ρ, c, De, S, h, n, r, b, k⟩ =>
  ⟨m, ρ, c, _, S, h, fun d c' w H' m' hd C R L => ⟨m', ρ, c', d, _, S.step L C, R, hd, n.le L⟩⟩
/-- a, b = x, y -/
def dPar (i j : Nat) (ta tb : TD) : TSD := fun D ρ c => ta ρ c fun x c1 => tb ρ c1 fun y c2 => D.nx ((ρ.set i (some x)).set j (some y)) c2
theorem psd_par {i j : Nat} {x y : Str} {a b : Expr} {px py pt : Pos} {kt k2 pt2} (hc : X.calm = true) (hN : X.N.Nodup) (ha : PD X a ta) (hb : PD X b tb) (hi : X.N[i]? = some x := by rfl) (hj : X.N[j]? = some y := by rfl) (hij : i ≠ j := by decide)
    (hx : X.env.scope.names.lookup x = some .local := by rfl) (hy : X.env.scope.names.lookup y = some .local := by rfl)
    (hs2 : starEach (a :: [b]) X.env = (false, eval a X.env) :: starEach [b] X.env := by rfl) (hs1 : starEach (b :: []) X.env = (false, eval b X.env) :: starEach [] X.env := by rfl)
    (hw : swappedStores [.Tuple [.Name x px, .Name y py] kt pt] (.Tuple [a, b] k2 pt2) X.env = pure (some [x, y]) := by rfl)
    (hs : swapsWithSole [.Tuple [.Name x px, .Name y py] kt pt] (.Tuple [a, b] k2 pt2) pos.line X.env = pure false := by rfl) :
    PSD X (.Assign [.Tuple [.Name x px, .Name y py] kt pt] (.Tuple [a, b] k2 pt2) pos) (dPar i j ta tb) :=
  PS.imp (ps_par hc hN hi hj hij hx hy (pds_cons ha (pds_cons hb pds_nil hs1) hs2) hw hs) fun Dn σ H ⟨m, ρ, c, De, S, h, n, r, b, k⟩ =>
  ⟨m, ρ, c, (fun ds c2 => ∃ x y, ds = [x, y] ∧ De.nx ((ρ.set i (some x)).set j (some y)) c2), S, (show ta ρ c fun x c1 => tb ρ c1 fun y c2 => ∃ x' y', [x, y] = [x', y'] ∧ De.nx ((ρ.set i (some x')).set j (some y')) c2 by
    have e : (fun x c1 => tb ρ c1 fun y c2 => ∃ x' y', [x, y] = [x', y'] ∧ De.nx ((ρ.set i (some x')).set j (some y')) c2) = fun x c1 => tb ρ c1 fun y c2 => De.nx ((ρ.set i (some x)).set j (some y)) c2 := by
      funext x c1
      congr 1
      funext y c2
      apply propext
      constructor
      · rintro ⟨x', y', e, h⟩; cases e; exact h
      · intro h; exact ⟨x, y, rfl, h⟩
    rw [e]; exact h), fun ds c' vs H' m' hd C R L => by
      obtain ⟨x, y, rfl, hd⟩ := hd
      obtain ⟨v, r', rfl, rv, w, r'', rfl, rw', rr⟩ := R
      cases (show r'' = [] from rr)
      exact ⟨v, w, rfl, n _ H' m' _ c' hd (((S.step L C).set rv).set rw') L⟩⟩
end
end Cw

namespace Cw
open PySem PySem.Spec PyProof.Rows L2

/-! ### what is walked -/
structure Walks (K : PySem.W.Frag) (J : It) (m : Ad) (H : Hp) (ds : List D) : Prop where
  go : ∀ (i : Nat) m' H' c', Le m H m' H' → CR K H' m' c' → i < ds.length → J.go i H'
  stop : ∀ (i : Nat) m' H' c', Le m H m' H' → CR K H' m' c' → ds.length ≤ i → J.stop i H'
  yld : ∀ (i : Nat) m' H' c' x H2, Le m H m' H' → CR K H' m' c' → i < ds.length → J.yld i H' x H2 → ∃ d, ds[i]? = some d ∧ CR K H2 m' c' ∧ Le m' H' m' H2 ∧ RR K H2 m' d x
def liftI (K : PySem.W.Frag) (t : TDs) : TI := fun σ H R => ∃ (m : Ad) (ρ : Env) (c : List Cell) (Φ : List D → List Cell → Prop), SR K σ H m ρ c ∧ t ρ c Φ ∧
  ∀ ds c' J H' m', Φ ds c' → CR K H' m' c' → Walks K J m' H' ds → Le m H m' H' → R J H'
abbrev PID (X : Cx) (tg iter : Expr) (t : TDs) : Prop := PI X tg iter (liftI X.K t)
theorem PI.imp {X : Cx} {tg iter : Expr} {t t' : TI} (h : PI X tg iter t) (i : ∀ σ H R, t' σ H R → t σ H R) : PI X tg iter t' := ⟨fun pins s σ H R I w => h.run pins s σ H R I (i σ H R w)⟩
theorem RL.at {K : PySem.W.Frag} {m : List Addr} {H : Hp} {ds : List D} {xs : List V} {i : Nat} (h : RL K m H ds xs) (hi : i < ds.length) : ∃ d x, ds[i]? = some d ∧ xs[i]? = some x ∧ R K m H d x := by
  obtain ⟨x, h1, h2⟩ := RL.get (i := i) (d := ds[i]) h (List.getElem?_eq_getElem hi)
  exact ⟨_, x, List.getElem?_eq_getElem hi, h1, h2⟩
/-- the items of a list, of a tuple -/
theorem walks_list {K : PySem.W.Frag} {m : Ad} {H : Hp} {a : Addr} {ds : List D} {xs : List V} (h : SqL K (hid m H) a xs) (r : RRL K H m ds xs) : Walks K (Itl K a) m H ds where
  go := fun i m' H' c' l C hi => by
    obtain ⟨d, x, _, h2, _⟩ := RL.at r hi
    exact ⟨xs, x, ex_l (l.ex.trans (ex_hid m' H')) h, h2⟩
  stop := fun i m' H' c' l C hi => ⟨xs, ex_l (l.ex.trans (ex_hid m' H')) h, by rw [rlen r]; exact hi⟩
  yld := fun i m' H' c' x H2 l C hi ⟨e, y⟩ => by
    subst e
    obtain ⟨d, z, h1, h2, h3⟩ := RL.at r hi
    have := y xs (ex_l (l.ex.trans (ex_hid m' _)) h)
    rw [h2] at this; cases this
    exact ⟨d, h1, C, Le.refl _ _, l.r h3⟩
theorem walks_tup {K : PySem.W.Frag} {m : Ad} {H : Hp} {a : Addr} {ds : List D} {xs : List V} (h : SqT K (hid m H) a xs) (r : RRL K H m ds xs) : Walks K (Itt K a) m H ds where
  go := fun i m' H' c' l C hi => by
    obtain ⟨d, x, _, h2, _⟩ := RL.at r hi
    exact ⟨xs, x, ex_t (l.ex.trans (ex_hid m' H')) h, h2⟩
  stop := fun i m' H' c' l C hi => ⟨xs, ex_t (l.ex.trans (ex_hid m' H')) h, by rw [rlen r]; exact hi⟩
  yld := fun i m' H' c' x H2 l C hi ⟨e, y⟩ => by
    subst e
    obtain ⟨d, z, h1, h2, h3⟩ := RL.at r hi
    have := y xs (ex_t (l.ex.trans (ex_hid m' _)) h)
    rw [h2] at this; cases this
    exact ⟨d, h1, C, Le.refl _ _, l.r h3⟩
def chars (z : Str) : List D := z.cps.toList.map fun k => .str ⟨#[k]⟩
theorem walks_str {K : PySem.W.Frag} {m : Ad} {H : Hp} {z : Str} : Walks K (Its z) m H (chars z) where
  go := fun i m' H' c' l C hi => by
    show i < z.cps.size
    simpa [chars] using hi
  stop := fun i m' H' c' l C hi => by
    show z.cps.size ≤ i
    simpa [chars] using hi
  yld := fun i m' H' c' x H2 l C hi ⟨e, k, hk, hx⟩ => by
    subst e; subst hx
    refine ⟨.str ⟨#[k]⟩, ?_, C, Le.refl _ _, rfl⟩
    unfold chars
    rw [List.getElem?_map, Array.getElem?_toList, hk]
    rfl
def rng (lo : Int) (n : Nat) : List D := (List.range n).map fun i => .int (lo + (i : Nat))
theorem rng_len (lo : Int) (n : Nat) : (rng lo n).length = n := by simp [rng]
theorem walks_rng {K : PySem.W.Frag} {m : Ad} {H : Hp} {lo : Int} {n : Nat} : Walks K (Itr lo n) m H (rng lo n) where
  go := fun i m' H' c' l C hi => by rw [rng_len] at hi; exact hi
  stop := fun i m' H' c' l C hi => by rw [rng_len] at hi; exact hi
  yld := fun i m' H' c' x H2 l C hi ⟨e, hx⟩ => by
    subst e; subst hx
    rw [rng_len] at hi
    exact ⟨.int (lo + i), by unfold rng; rw [List.getElem?_map, List.getElem?_range hi]; rfl, C, Le.refl _ _, rfl⟩
section
variable {X : Cx} {tg iter e e2 o a b : Expr} {ta tb : TD} {tA : TDt} {pos pp : Pos} {ti : TDs}
def dIterL (ta : TD) : TDs := fun ρ c Φ => ta ρ c fun x c1 => match x with
  | .lst ds => Φ ds c1
  | .fl ds => Φ ds c1
  | _ => False
def dIterT (ta : TD) : TDs := fun ρ c Φ => ta ρ c fun x c1 => match x with
  | .tup ds => Φ ds c1
  | _ => False
def dIterS (ta : TD) : TDs := fun ρ c Φ => ta ρ c fun x c1 => match x with
  | .str z => Φ (chars z) c1
  | _ => False
theorem pid_list (h : PD X iter ta) : PID X tg iter (dIterL ta) := PI.imp (pi_list h) fun σ H R ⟨m, ρ, c, Φ, S, h, q⟩ =>
  ⟨m, ρ, c, _, S, h, fun d c1 v H1 m1 hx C1 R1 L1 => by
    cases d <;> first | exact hx.elim | skip
    · obtain ⟨a, xs, rfl, h1, h2⟩ := R1
      exact ⟨a, rfl, ⟨xs, SqL.of (ex_hid m1 H1 a _ h1)⟩, q _ c1 _ H1 m1 hx C1 (walks_list (SqL.of h1) h2) L1⟩
    · obtain ⟨a, xs, rfl, h1, h2⟩ := R1
      exact ⟨a, rfl, ⟨xs, ex_l (ex_hid m1 H1) h1⟩, q _ c1 _ H1 m1 hx C1 (walks_list h1 h2) L1⟩⟩
theorem pid_tup (h : PD X iter ta) : PID X tg iter (dIterT ta) := PI.imp (pi_tup h) fun σ H R ⟨m, ρ, c, Φ, S, h, q⟩ =>
  ⟨m, ρ, c, _, S, h, fun d c1 v H1 m1 hx C1 R1 L1 => by
    cases d <;> first | exact hx.elim | skip
    obtain ⟨a, xs, rfl, h1, h2⟩ := R1
    exact ⟨a, rfl, ⟨xs, ex_t (ex_hid m1 H1) h1⟩, q _ c1 _ H1 m1 hx C1 (walks_tup h1 h2) L1⟩⟩
theorem pid_str (h : PD X iter ta) : PID X tg iter (dIterS ta) := PI.imp (pi_str h) fun σ H R ⟨m, ρ, c, Φ, S, h, q⟩ =>
  ⟨m, ρ, c, _, S, h, fun d c1 v H1 m1 hx C1 R1 L1 => by
    cases d <;> first | exact hx.elim | skip
    exact ⟨_, R1, q _ c1 _ H1 m1 hx C1 walks_str L1⟩⟩
def dRng1 (ta : TD) : TDs := fun ρ c Φ => ta ρ c fun x c1 => match x with
  | .int j => (-(2 ^ 62) ≤ j ∧ j < 2 ^ 62) ∧ Φ (rng 0 j.toNat) c1
  | _ => False
theorem pid_range1 (h : PD X e ta) (hm : X.mg "range" = none) (hg : Gl X "range" := by rfl) (hs : starEach [e] X.env = [(false, eval e X.env)] := by rfl) : PID X tg (.Call (.Name "range" pp) [e] [] pos) (dRng1 ta) :=
  PI.imp (pi_range1 hg hm (pds_cons h pds_nil hs) hs) fun σ H R ⟨m, ρ, c, Φ, S, h, q⟩ =>
  ⟨m, ρ, c, (fun ds c1 => ∃ j, ds = [.int j] ∧ (-(2 ^ 62) ≤ j ∧ j < 2 ^ 62) ∧ Φ (rng 0 j.toNat) c1), S, (show ta ρ c fun x c1 => ∃ j, [x] = [.int j] ∧ (-(2 ^ 62) ≤ j ∧ j < 2 ^ 62) ∧ Φ (rng 0 j.toNat) c1 by
    have e : (fun x c1 => ∃ j, [x] = [D.int j] ∧ (-(2 ^ 62) ≤ j ∧ j < 2 ^ 62) ∧ Φ (rng 0 j.toNat) c1) = fun x c1 => match x with
      | .int j => (-(2 ^ 62) ≤ j ∧ j < 2 ^ 62) ∧ Φ (rng 0 j.toNat) c1
      | _ => False := by
      funext x c1
      apply propext
      constructor
      · rintro ⟨j, e, h⟩; cases e; exact h
      · intro h; cases x <;> first | exact h.elim | exact ⟨_, rfl, h⟩
    rw [e]; exact h), fun ds c' vs H' m' hd C R' L => by
      obtain ⟨j, rfl, ⟨h1, h2⟩, hd⟩ := hd
      obtain ⟨v, r', rfl, rv, rr⟩ := R'
      cases (show r' = [] from rr)
      cases (show v = V.int j from rv)
      exact ⟨j, rfl, h1, h2, q _ c' _ H' m' hd C walks_rng L⟩⟩
/-! ### for -/
def forD (g : TGD) (tb : TSD) (De : DEnds) : List D → Env → List Cell → Prop
  | [], ρ, c => De.nx ρ c
  | d :: ds, ρ, c => g d ρ c fun ρ1 c1 => tb ⟨forD g tb De ds, De.rt, De.nx, forD g tb De ds⟩ ρ1 c1
def dFor (ti : TDs) (g : TGD) (tb : TSD) : TSD := fun De ρ c => ti ρ c fun ds c1 => forD g tb De ds ρ c1
theorem psd_for {body : List Stmt} {g : TGD} {tb : TSD} (hp : PassesOwn (model X.prog X.w) X.A X.env X.xe) (hc : X.calm = true) (hi : PID X tg iter ti) (hg : PGD X tg g) (hb : PSDs X body tb) (hs : ∀ x, foldedSetIterable iter X.env x = pure x := by intro _; rfl) :
    PSD X (.For tg iter body [] pos) (dFor ti g tb) := PS.imp (ps_for hp hc hi hg hb hs) fun Dn σ H ⟨m, ρ, c, De, S, h, n, r, b, k⟩ =>
  ⟨m, ρ, c, _, S, h, fun ds c1 J H1 m1 hx C1 wk L1 =>
    ⟨fun i mm σ' H' => mm = ds.length - i ∧ i ≤ ds.length ∧ ∃ m' ρ' c', Le m1 H1 m' H' ∧ SR X.K σ' H' m' ρ' c' ∧ forD g tb De (ds.drop i) ρ' c',
     ⟨ds.length, by simp, Nat.zero_le _, m1, ρ, c1, Le.refl _ _, S.step L1 C1, by simpa using hx⟩, by
      rintro i mm σ' H' ⟨rfl, hi, m', ρ', c', l, S', hf⟩
      by_cases hlt : i < ds.length
      · refine .inr ⟨wk.go i m' H' c' l S'.cr hlt, fun σ2 H2 => ∃ m2 ρ2 c2, Le m1 H1 m2 H2 ∧ SR X.K σ2 H2 m2 ρ2 c2 ∧ forD g tb De (ds.drop (i + 1)) ρ2 c2, fun σ2 H2 ⟨m2, ρ2, c2, l2, S2, h2⟩ => ⟨ds.length - (i + 1), by omega, rfl, hlt, m2, ρ2, c2, l2, S2, h2⟩, fun x H2 y => ?_⟩
        obtain ⟨d, hd, C2, l2, rx⟩ := wk.yld i m' H' c' x H2 l S'.cr hlt y
        have e : ds.drop i = d :: ds.drop (i + 1) := by
          rw [List.drop_eq_getElem_cons hlt]
          congr 1
          have := List.getElem?_eq_getElem hlt
          rw [hd] at this
          exact (Option.some.inj this).symm
        rw [e] at hf
        have L2 := L1.trans (l.trans l2)
        refine ⟨m', ρ', c', d, _, S'.step l2 C2, rx, hf, fun σ3 H3 m3 ρ3 c3 h3 S3 l3 => ?_⟩
        have L3 := L2.trans l3
        refine ⟨m3, ρ3, c3, _, S3, h3, fun σ4 H4 m4 ρ4 c4 h4 S4 l4 => ?_, r.le L3, fun σ4 H4 m4 ρ4 c4 h4 S4 l4 => n σ4 H4 m4 ρ4 c4 h4 S4 (L3.trans l4), fun σ4 H4 m4 ρ4 c4 h4 S4 l4 => ?_⟩
        · exact ⟨m4, ρ4, c4, (l.trans l2).trans (l3.trans l4), S4, h4⟩
        · exact ⟨m4, ρ4, c4, (l.trans l2).trans (l3.trans l4), S4, h4⟩
      · have ei : i = ds.length := by omega
        subst ei
        refine .inl ⟨wk.stop _ m' H' c' l S'.cr (Nat.le_refl _), ?_⟩
        rw [List.drop_length] at hf
        exact n σ' H' m' ρ' c' hf S' (L1.trans l)⟩⟩
end
end Cw

namespace Cw
open PySem PySem.Spec PyProof.Rows L2

/-! ### data that names cells below n alone -/
mutual
def okD (n : Nat) : D → Bool
  | .cell k => Nat.blt k n
  | .tup ds => okDs n ds
  | .lst ds => okDs n ds
  | .fl ds => okDs n ds
  | .ins _ _ ds => okDs n ds
  | .dct _ ds => okDs n ds
  | .dcT _ ds => okDs n ds
  | .exc _ _ _ _ ds => okDs n ds
  | _ => true
def okDs (n : Nat) : List D → Bool
  | [] => true
  | d :: ds => okD n d && okDs n ds
end
def okC (n : Nat) : Cell → Bool
  | .lst ds => okDs n ds
  | .obj _ _ ds => okDs n ds
  | .dct _ ds => okDs n ds
  | .dcT _ ds => okDs n ds
def okCs (n : Nat) : List Cell → Bool
  | [] => true
  | c :: cs => okC n c && okCs n cs
section
variable {K : PySem.W.Frag} {ix ix' : List Addr} {H H' : Hp} {n : Nat}
mutual
theorem R.low (e : Ex H H') (p : ∀ (k : Nat) a, k < n → ix[k]? = some a → ix'[k]? = some a) : ∀ (d : D) (v : V), okD n d = true → R K ix H d v → R K ix' H' d v
  | .non, _, _, h => h
  | .bl _, _, _, h => h
  | .int _, _, _, h => h
  | .str _, _, _, h => h
  | .tup ds, _, k, ⟨a, xs, e1, h1, h2⟩ => ⟨a, xs, e1, ex_t e h1, RL.low e p ds xs (by simpa [okD] using k) h2⟩
  | .lst ds, _, k, ⟨a, xs, e1, h1, h2⟩ => ⟨a, xs, e1, e a _ h1, RL.low e p ds xs (by simpa [okD] using k) h2⟩
  | .fl ds, _, k, ⟨a, xs, e1, h1, h2⟩ => ⟨a, xs, e1, ex_l e h1, RL.low e p ds xs (by simpa [okD] using k) h2⟩
  | .cell j, _, k, ⟨a, h1, h2⟩ => ⟨a, p j a (by simpa [okD] using k) h1, h2⟩
  | .ins _ _ ds, _, k, ⟨a, dx, fs, e1, h1, h2, h3⟩ => ⟨a, dx, fs, e1, e a _ h1, h2, RL.low e p ds _ (by simpa [okD] using k) h3⟩
  | .dct _ ds, _, k, ⟨a, kvs, e1, h1, h2, h3⟩ => ⟨a, kvs, e1, ex_rd e h1, h2, RL.low e p ds _ (by simpa [okD] using k) h3⟩
  | .dcT _ ds, _, k, ⟨a, kvs, e1, h1, h2, h3⟩ => ⟨a, kvs, e1, e a _ h1, h2, RL.low e p ds _ (by simpa [okD] using k) h3⟩
  | .exc _ dd _ _ ds, _, k, ⟨fs, e1, h1, h5, h6⟩ => ⟨fs, e1, e dd _ h1, h5, RL.low e p ds _ (by simpa [okD] using k) h6⟩
  | .raw _, _, _, h => h
theorem RL.low (e : Ex H H') (p : ∀ (k : Nat) a, k < n → ix[k]? = some a → ix'[k]? = some a) : ∀ (ds : List D) (xs : List V), okDs n ds = true → RL K ix H ds xs → RL K ix' H' ds xs
  | [], _, _, h => h
  | d :: ds, _, k, ⟨x, r, e1, h1, h2⟩ => by
    have k' : okD n d = true ∧ okDs n ds = true := by simpa [okDs] using k
    exact ⟨x, r, e1, R.low e p d x k'.1 h1, RL.low e p ds r k'.2 h2⟩
end
theorem okCs_at : ∀ {c : List Cell} {k : Nat} {ce : Cell}, okCs n c = true → c[k]? = some ce → okC n ce = true
  | [], _, _, _, e => by simp at e
  | x :: c, 0, _, h, e => by
    have h' : okC n x = true ∧ okCs n c = true := by simpa [okCs] using h
    simp at e; subst e; exact h'.1
  | x :: c, k + 1, _, h, e => by
    have h' : okC n x = true ∧ okCs n c = true := by simpa [okCs] using h
    exact okCs_at h'.2 (by simpa using e)
theorem okDs_map {α : Type} {n : Nat} {f : α → D} (h : ∀ x, okD n (f x) = true) : ∀ xs : List α, okDs n (xs.map f) = true
  | [] => rfl
  | x :: xs => by simp [okDs, h x, okDs_map h xs]
theorem okDs_of {n : Nat} : ∀ {ds : List D}, (∀ d ∈ ds, okD n d = true) → okDs n ds = true
  | [], _ => rfl
  | d :: ds, h => by
    show (okD n d && okDs n ds) = true
    rw [h d List.mem_cons_self, okDs_of fun x hx => h x (List.mem_cons_of_mem _ hx)]; rfl
end
/-- the last cell is no longer mutable -/
theorem CR.pop {K : PySem.W.Frag} {H : Hp} {m : Ad} {p : Addr} {c : List Cell} {ce : Cell} (C : CR K H (m.push p) (c ++ [ce])) (hk : okCs c.length c = true) : CR K H m c ∧ H p ≠ none ∧ CellAt K (m.push p) H p ce ∧ p ∉ m.ix ∧ p ∉ m.hd := by
  have hl : m.ix.length = c.length := by have := C.len; simp [Ad.push] at this; exact this
  have nd : (m.ix ++ [p]).Nodup := C.nd
  have hp : p ∉ m.ix := fun z => by
    rw [List.nodup_append] at nd
    exact nd.2.2 p z p (by simp) rfl
  have last : (m.push p).ix[c.length]? = some p := by
    show (m.ix ++ [p])[c.length]? = some p
    rw [← hl]; simp
  obtain ⟨a, h1, h2⟩ := C.at_ c.length ce (by simp)
  rw [last] at h1; cases h1
  have hex : Ex (hid (m.push p) H) (hid m H) := fun b o e => by
    obtain ⟨⟨h3, h4⟩, h5⟩ := hid_some e
    rw [hid_of ⟨fun z => h3 (List.mem_append_left _ z), h4⟩]; exact h5
  refine ⟨⟨hl, (List.nodup_append.mp nd).1, fun k ce' e => ?_, fun b hb => C.hs b hb, fun a ha => C.dj a (List.mem_append_left _ ha), fun q hq => ⟨(C.tk q hq).1, (C.tk q hq).2.keep rfl hex⟩⟩, fun z => ?_, h2, hp, fun z => C.dj p (List.mem_append_right _ (by simp)) z⟩
  · have hk' := (List.getElem?_eq_some_iff.mp e).1
    obtain ⟨a, h3, h4⟩ := C.at_ k ce' (by rw [List.getElem?_append_left hk']; exact e)
    have h5 : m.ix[k]? = some a := by
      have z : (m.ix ++ [p])[k]? = some a := h3
      rw [List.getElem?_append_left (by rw [hl]; exact hk')] at z; exact z
    refine ⟨a, h5, ?_⟩
    have low : ∀ (j : Nat) a, j < c.length → (m.push p).ix[j]? = some a → m.ix[j]? = some a := fun j a hj z => by
      have z : (m.ix ++ [p])[j]? = some a := z
      rw [List.getElem?_append_left (by rw [hl]; exact hj)] at z; exact z
    have ok := okCs_at hk e
    cases ce' with
    | lst ds => obtain ⟨xs, h6, h7⟩ := h4; exact ⟨xs, h6, RL.low hex low ds xs ok h7⟩
    | obj C' ns ds => obtain ⟨dx, fs, h6, h7, h8⟩ := h4; exact ⟨dx, fs, h6, h7, RL.low hex low ds _ ok h8⟩
    | dct ks ds => obtain ⟨kvs, h6, h7, h8⟩ := h4; exact ⟨kvs, h6, h7, RL.low hex low ds _ ok h8⟩
    | dcT ks ds => obtain ⟨kvs, h6, h7, h8⟩ := h4; exact ⟨kvs, h6, h7, RL.low hex low ds _ ok h8⟩
  · obtain ⟨o, h6⟩ := h2.obj
    rw [z] at h6; cases h6
theorem low_push {m : Ad} {p : Addr} {c : List Cell} (hl : m.ix.length = c.length) (j : Nat) (a : Addr) (hj : j < c.length) (z : (m.push p).ix[j]? = some a) : m.ix[j]? = some a := by
  have z : (m.ix ++ [p])[j]? = some a := z
  rw [List.getElem?_append_left (by rw [hl]; exact hj)] at z; exact z
theorem ex_pop {m : Ad} {p : Addr} {H : Hp} : Ex (hid (m.push p) H) (hid m H) := fun b o e => by
  obtain ⟨⟨h3, h4⟩, h5⟩ := hid_some e
  rw [hid_of ⟨fun z => h3 (List.mem_append_left _ z), h4⟩]; exact h5

theorem Ad.ext' {m m' : Ad} (h1 : m.ix = m'.ix) (h2 : m.hd = m'.hd) : m = m' := by cases m; cases m'; simp only at h1 h2; subst h1; subst h2; rfl
theorem ix_same {m m' : Ad} (p : ∀ (k : Nat) a, m.ix[k]? = some a → m'.ix[k]? = some a) (h : m'.ix.length = m.ix.length) : m'.ix = m.ix := by
  apply List.ext_getElem?
  intro k
  by_cases hk : k < m.ix.length
  · have := List.getElem?_eq_getElem hk
    rw [this, p k _ this]
  · rw [List.getElem?_eq_none (by omega), List.getElem?_eq_none (by omega)]
theorem ex_cut {m m' : Ad} {H : Hp} (p : ∀ (k : Nat) a, m.ix[k]? = some a → m'.ix[k]? = some a) (h : m'.hd = m.hd) : Ex (hid m' H) (hid m H) := fun b o e => by
  obtain ⟨⟨h1, h2⟩, h3⟩ := hid_some e
  rw [hid_of ⟨fun z => ?_, by rw [← h]; exact h2⟩]
  · exact h3
  · obtain ⟨k, hk⟩ := List.mem_iff_getElem?.mp z
    exact h1 (List.mem_of_getElem? (p k b hk))
theorem low_cut {m m' : Ad} {n : Nat} (p : ∀ (k : Nat) a, m.ix[k]? = some a → m'.ix[k]? = some a) (hn : m.ix.length = n) (j : Nat) (a : Addr) (hj : j < n) (z : m'.ix[j]? = some a) : m.ix[j]? = some a := by
  have := List.getElem?_eq_getElem (l := m.ix) (i := j) (by omega)
  rw [this]
  rw [p j _ this] at z
  exact z
theorem CR.cut {K : PySem.W.Frag} {H : Hp} {m m' : Ad} {c : List Cell} {n : Nat} (C : CR K H m' c) (p : ∀ (k : Nat) a, m.ix[k]? = some a → m'.ix[k]? = some a) (hd : m'.hd = m.hd) (hn : m.ix.length = n) (hk : okCs n (c.take n) = true) : CR K H m (c.take n) := by
  have hlen : n ≤ m'.ix.length := by
    by_cases h0 : n = 0
    · omega
    · have h1 := List.getElem?_eq_getElem (l := m.ix) (i := n - 1) (by omega)
      have := (List.getElem?_eq_some_iff.mp (p _ _ h1)).1
      omega
  have hlc : n ≤ c.length := by rw [← C.len]; exact hlen
  have pre : m.ix = m'.ix.take n := by
    apply List.ext_getElem?
    intro k
    by_cases hk : k < n
    · have := List.getElem?_eq_getElem (l := m.ix) (i := k) (by omega)
      rw [List.getElem?_take_of_lt hk, this, p k _ this]
    · rw [List.getElem?_eq_none (by omega), List.getElem?_eq_none (by rw [List.length_take]; omega)]
  refine ⟨by rw [List.length_take]; omega, by rw [pre]; exact C.nd.sublist (List.take_sublist _ _), fun k ce e => ?_, fun b hb => C.hs b (by rw [hd]; exact hb), fun a ha hb => C.dj a (by rw [pre] at ha; exact List.mem_of_mem_take ha) (by rw [hd]; exact hb), fun q hq => ⟨by rw [← hd]; exact (C.tk q hq).1, (C.tk q hq).2.keep rfl (ex_cut p hd)⟩⟩
  have hkn : k < n := by
    have := (List.getElem?_eq_some_iff.mp e).1
    rw [List.length_take] at this; omega
  have ok := okCs_at hk e
  rw [List.getElem?_take_of_lt hkn] at e
  obtain ⟨a, h1, h2⟩ := C.at_ k ce e
  refine ⟨a, low_cut p hn k a hkn h1, ?_⟩
  cases ce with
  | lst ds => obtain ⟨xs, h3, h4⟩ := h2; exact ⟨xs, h3, RL.low (ex_cut p hd) (low_cut p hn) ds xs ok h4⟩
  | obj C' ns ds => obtain ⟨dx, fs, h3, h4, h5⟩ := h2; exact ⟨dx, fs, h3, h4, RL.low (ex_cut p hd) (low_cut p hn) ds _ ok h5⟩
  | dct ks ds => obtain ⟨kvs, h3, h4, h5⟩ := h2; exact ⟨kvs, h3, h4, RL.low (ex_cut p hd) (low_cut p hn) ds _ ok h5⟩
  | dcT ks ds => obtain ⟨kvs, h3, h4, h5⟩ := h2; exact ⟨kvs, h3, h4, RL.low (ex_cut p hd) (low_cut p hn) ds _ ok h5⟩
theorem beq_t {a b : Nat} (h : Nat.beq a b = true) : a = b := Nat.eq_of_beq_eq_true h
theorem CR.same {K : PySem.W.Frag} {H H4 : Hp} {m m4 : Ad} {c3 : List Cell} (h : c3.length = m.ix.length) (C4 : CR K H4 m4 c3) (l4 : Le m H m4 H4) : m4 = m :=
  Ad.ext' (ix_same l4.pre (by rw [C4.len, h])) l4.hd
/-- cells beyond the n-th are let go -/
theorem CR.letgo {K : PySem.W.Frag} {H H4 : Hp} {m m4 : Ad} {c3 : List Cell} {n : Nat} {y : D} {v : V} (hn : m.ix.length = n) (C4 : CR K H4 m4 c3) (r : RR K H4 m4 y v) (l4 : Le m H m4 H4) (hk : okCs n (c3.take n) = true) (hy : okD n y = true) :
    CR K H4 m (c3.take n) ∧ RR K H4 m y v ∧ Le m H m H4 :=
  ⟨C4.cut l4.pre l4.hd hn hk, R.low (ex_cut l4.pre l4.hd) (low_cut l4.pre hn) y v hy r, ⟨fun _ _ e => e, l4.ex.trans (ex_cut l4.pre l4.hd), rfl, l4.hk' (ex_cut l4.pre l4.hd), fun _ h => .inl h, l4.al⟩⟩
/-- the cells behind a turn's part: as many as ahead, the new list the last -/
def inner (n : Nat) (acc : List D) (y : D) (c : List Cell) (Q : List Cell → Prop) : Prop := c[n]? = some (.lst acc) ∧ match Nat.beq c.length (n + 1) with
  | true => Q (c.take n)
  | false => okCs (n + 1) (c.take (n + 1)) = true ∧ okD (n + 1) y = true ∧ Q (c.take n)
/-- what inner says, over the heap -/
theorem inner_ok {K : PySem.W.Frag} {H H4 : Hp} {m m4 : Ad} {c3 : List Cell} {n : Nat} {acc : List D} {y : D} {v : V} {Q : List Cell → Prop} (hn : m.ix.length = n + 1) (h : inner n acc y c3 Q) (C4 : CR K H4 m4 c3) (r : RR K H4 m4 y v) (l4 : Le m H m4 H4) :
    CR K H4 m (c3.take n ++ [.lst acc]) ∧ RR K H4 m y v ∧ Le m H m H4 ∧ Q (c3.take n) ∧ (c3.take n).length = n := by
  obtain ⟨h1, h2⟩ := h
  have hlt := (List.getElem?_eq_some_iff.mp h1).1
  have ht : c3.take (n + 1) = c3.take n ++ [.lst acc] := by
    rw [List.take_add_one, h1]; rfl
  cases e : Nat.beq c3.length (n + 1) with
  | true =>
    rw [e] at h2
    have e1 := beq_t e
    have em := CR.same (by rw [hn]; exact e1) C4 l4
    subst em
    have : c3 = c3.take n ++ [.lst acc] := by rw [← ht, List.take_of_length_le (by omega)]
    rw [← this]
    exact ⟨C4, r, l4, h2, by rw [List.length_take]; omega⟩
  | false =>
    rw [e] at h2
    obtain ⟨a, b, c⟩ := CR.letgo hn C4 r l4 h2.1 h2.2.1
    rw [ht] at a
    exact ⟨a, b, c, h2.2.2, by rw [List.length_take]; omega⟩

/-! ### [e for x in ..] -/
def lcD (i : Nat) (tt : TDt) (te : TD) : List D → List D → Env → List Cell → (List D → List Cell → Prop) → Prop
  | [], acc, _, c, Φ => okCs c.length c = true ∧ okDs c.length acc = true ∧ Φ acc c
  | d :: ds, acc, ρ, c, Φ => tt (ρ.set i (some d)) (c ++ [.lst acc]) fun b c2 => match b with
    | true => te (ρ.set i (some d)) c2 fun y c3 => acc.length < sizeLine ∧ inner c.length acc y c3 fun c4 => lcD i tt te ds (acc ++ [y]) ρ c4 Φ
    | false => inner c.length acc .non c2 fun c4 => lcD i tt te ds acc ρ c4 Φ
def dLc (ti : TDs) (i : Nat) (tt : TDt) (te : TD) : TD := fun ρ c Φ => ti ρ c fun ds c1 => lcD i tt te ds [] ρ c1 fun xs c2 => Φ (.lst xs) c2
theorem wipe1 {σ : L2.St} {i : Nat} : wipe σ [i] = σ.set i none := rfl
theorem SR.blk {K : PySem.W.Frag} {σ : L2.St} {H : Hp} {m : Ad} {ρ : Env} {c : List Cell} {i : Nat} {d : D} {v : V} (S : SR K σ H m ρ c) (r : RR K H m d v) : SR K ((wipe σ [i]).set i (some v)) H m (ρ.set i (some d)) c := by
  have e : (wipe σ [i]).set i (some v) = σ.set i (some v) := by rw [wipe1, List.set_set]
  rw [e]; exact S.set r
/-- the loop of a comprehension -/
theorem lc_walk {K : PySem.W.Frag} {J : It} {m : Ad} {H1 : Hp} {ds : List D} {σ : L2.St} {ρ : Env} {c : List Cell} {i : Nat} {tt : TDt} {te : TD} {Φ : List D → List Cell → Prop} {Qd : Addr → Hp → Prop} (wk : Walks K J m H1 ds) (S : SR K σ H1 m ρ c) (h : lcD i tt te ds [] ρ c Φ)
    (q : ∀ p xs c' H', Φ xs c' → CR K H' m c' → RR K H' m (.lst xs) (.ref p) → Le m H1 m H' → Qd p H') : ∀ p, H1 p = none → ∃ W : Nat → Nat → Hp → Prop, (∃ mm, W 0 mm (upd H1 p (.lst []))) ∧ ∀ j mm H, W j mm H →
      (J.stop j H ∧ Qd p H) ∨ (J.go j H ∧ ∃ Nx : Hp → Prop, (∀ H', Nx H' → ∃ m', m' < mm ∧ W (j + 1) m' H') ∧ ∀ x H', J.yld j H x H' → gName i x (wipe σ [i]) H' fun σ2 H2 => wipe σ2 [i] = wipe σ [i] ∧ liftT K tt σ2 H2 fun b H3 =>
        if b = true then lift K te σ2 H3 fun y H4 => ∃ acc, H4 p = some (.lst acc) ∧ acc.length < sizeLine ∧ Nx (upd H4 p (.lst (acc ++ [y]))) else Nx H3) := by
  intro p hp
  have z0 := cell_new (ce := .lst []) (o := .lst []) S.cr hp ⟨[], upd_same, rfl⟩
  -- the state behind a number of turns
  refine ⟨fun j mm H => mm = ds.length - j ∧ j ≤ ds.length ∧ ∃ c' acc, c'.length = c.length ∧ CR K H (m.push p) (c' ++ [.lst acc]) ∧ Le m H1 (m.push p) H ∧ lcD i tt te (ds.drop j) acc ρ c' Φ,
    ⟨ds.length, by simp, Nat.zero_le _, c, [], rfl, z0.1, z0.2.1, by simpa using h⟩, ?_⟩
  rintro j mm H ⟨rfl, hj, c', acc, hl, C, l, hf⟩
  by_cases hlt : j < ds.length
  · have wk' := wk
    refine .inr ⟨wk.go j (m.push p) H _ l C hlt, fun H' => ∃ c' acc, c'.length = c.length ∧ CR K H' (m.push p) (c' ++ [.lst acc]) ∧ Le m H1 (m.push p) H' ∧ lcD i tt te (ds.drop (j + 1)) acc ρ c' Φ, fun H' w => ⟨ds.length - (j + 1), by omega, rfl, hlt, w⟩, fun x H2 y => ?_⟩
    obtain ⟨d, hd, C2, l2, rx⟩ := wk.yld j (m.push p) H _ x H2 l C hlt y
    have e : ds.drop j = d :: ds.drop (j + 1) := by
      rw [List.drop_eq_getElem_cons hlt]
      congr 1
      have := List.getElem?_eq_getElem hlt
      rw [hd] at this
      exact (Option.some.inj this).symm
    rw [e] at hf
    have L2 := l.trans l2
    have S2 : SR K ((wipe σ [i]).set i (some x)) H2 (m.push p) (ρ.set i (some d)) (c' ++ [.lst acc]) := (S.step L2 C2).blk rx
    refine ⟨by rw [wipe1, wipe1, List.set_set, List.set_set], m.push p, _, _, _, S2, hf, fun b c2 H3 m3 hb C3 l3 => ?_⟩
    have hmn : (m.push p).ix.length = c'.length + 1 := by
      have := C2.len
      simp at this
      exact this
    cases b with
    | false =>
      dsimp only
      rw [if_neg (by decide)]
      obtain ⟨z1, _, z2, z3, z4⟩ := inner_ok (v := .non) hmn hb C3 rfl l3
      exact ⟨c2.take c'.length, acc, by rw [z4, hl], z1, L2.trans z2, z3⟩
    | true =>
      dsimp only
      rw [if_pos rfl]
      refine ⟨m3, _, c2, _, S2.step l3 C3, hb, fun y c3 v H4 m4 hy C4 R4 l4 => ?_⟩
      obtain ⟨hsz, hin⟩ := hy
      obtain ⟨z1, z5, z2, z3, z4⟩ := inner_ok hmn hin C4 R4 (l3.trans l4)
      obtain ⟨a, h5, xs, h6, h7⟩ := z1.at_ c'.length (.lst acc) (by rw [List.getElem?_append_right (by omega), z4]; simp)
      have last : (m.push p).ix[c'.length]? = some p := by
        show (m.ix ++ [p])[c'.length]? = some p
        rw [hl, ← S.cr.len]; simp
      rw [last] at h5; cases h5
      refine ⟨xs, h6, by rw [rlen h7]; exact hsz, ?_⟩
      have hm : p ∈ (m.push p).ix := List.mem_of_getElem? last
      have z := cell_put (o := .lst (xs ++ [v])) (ce := .lst (acc ++ [y])) z1 last ⟨_, upd_same, by show RL _ _ (hid (m.push p) _) _ _; rw [hid_mut hm]; exact RL.append h7 ⟨v, [], rfl, z5, rfl⟩⟩
      have ec : (c3.take c'.length ++ [Cell.lst acc]).set c'.length (.lst (acc ++ [y])) = c3.take c'.length ++ [.lst (acc ++ [y])] := by
        rw [List.set_append_right _ _ (by omega), z4]; simp
      rw [ec] at z
      exact ⟨c3.take c'.length, acc ++ [y], by rw [z4, hl], z.1, (L2.trans z2).trans z.2, z3⟩
  · have ej : j = ds.length := by omega
    subst ej
    rw [List.drop_length] at hf
    obtain ⟨h1, h2, h3⟩ := hf
    obtain ⟨C', _, ⟨xs, h4, h5⟩, hp1, hp2⟩ := C.pop h1
    refine .inl ⟨wk.stop _ (m.push p) H _ l C (Nat.le_refl _), q p acc c' H h3 C' ⟨p, xs, rfl, by rw [hid_of ⟨hp1, hp2⟩]; exact h4, RL.low ex_pop (low_push C'.len) acc xs h2 h5⟩ ⟨fun _ _ e => e, l.ex.trans ex_pop, rfl, l.hk' ex_pop, fun _ h => .inl h, l.al⟩⟩
section
variable {X : Cx} {tg iter e elt : Expr} {ta te : TD} {tt : TDt} {pos pp tp : Pos} {ti : TDs} {ifs : List Expr} {scope : Scope} {x y : Str} {i j : Nat}
abbrev PTD (X : Cx) (ifs : List Expr) (t : TDt) : Prop := PTs X ifs (liftT X.K t)
def dYes : TDt := fun _ c Φ => Φ true c
theorem ptd_nil : PTD X [] dYes := ⟨fun pins s σ H Q I ⟨m, ρ, c, Φ, S, h, q⟩ => pts_nil.run pins s σ H Q I (q true c H m h S.cr (Le.refl _ _))⟩
theorem ptd_one (h : PDt X e tt) : PTD X [e] tt := pts_one h
theorem pd_lc (hc : X.calm = true) (hN : X.N.Nodup) (hi : PID X (.Name x tp) iter ti) (ok : blkC X.N X.env.scope scope [(x, i)] = true)
    (hg : ∀ (s : Shared) (H : Hp) (C : Addr) (cl : List (Str × Addr)) (fp : List Addr), PG (X.blk s H scope (compEnvC scope cl C X.env) fp) (.Name x tp) (gName i))
    (ht : ∀ (s : Shared) (H : Hp) (C : Addr) (cl : List (Str × Addr)) (fp : List Addr), PTD (X.blk s H scope (compEnvC scope cl C X.env) fp) ifs tt)
    (he : ∀ (s : Shared) (H : Hp) (C : Addr) (cl : List (Str × Addr)) (fp : List Addr), PD (X.blk s H scope (compEnvC scope cl C X.env) fp) elt te) (hs : ∀ x, foldedSetIterable iter X.env x = pure x := by intro _; rfl) :
    PD X (.ListComp elt [⟨.Name x tp, iter, ifs, 0⟩] scope pos) (dLc ti i tt te) :=
  PE.imp (pe_lc (own := [(x, i)]) hc hN hi (blkOk_by ok) hg ht he hs) fun σ H Q ⟨m, ρ, c, Φ, S, h, q⟩ =>
    ⟨m, ρ, c, _, S, h, fun ds c1 J H1 m1 hx C1 wk L1 => lc_walk wk (S.step L1 C1) hx fun p xs c' H' h' C' R' l' => q _ c' _ H' m1 h' C' R' (L1.trans l')⟩
/-- y = [e for x in ..] -/
theorem psd_setLc {spos py : Pos} (hc : X.calm = true) (hN : X.N.Nodup) (hy : X.N[j]? = some y) (hyl : X.env.scope.names.lookup y = some .local)
    (hsw : swapsWith (.ListComp elt [⟨.Name x tp, iter, ifs, 0⟩] scope pos) (some (.Name y py)) spos.line X.env = pure true)
    (hi : PID X (.Name x tp) iter ti) (ok : blkC X.N X.env.scope scope [(x, i)] = true)
    (hg : ∀ (s : Shared) (H : Hp) (C : Addr) (cl : List (Str × Addr)) (fp : List Addr), PG (X.blk s H scope (compEnvC scope cl C X.env) fp) (.Name x tp) (gName i))
    (ht : ∀ (s : Shared) (H : Hp) (C : Addr) (cl : List (Str × Addr)) (fp : List Addr), PTD (X.blk s H scope (compEnvC scope cl C X.env) fp) ifs tt)
    (he : ∀ (s : Shared) (H : Hp) (C : Addr) (cl : List (Str × Addr)) (fp : List Addr), PD (X.blk s H scope (compEnvC scope cl C X.env) fp) elt te) (hs : ∀ x, foldedSetIterable iter X.env x = pure x := by intro _; rfl) :
    PSD X (.Assign [.Name y py] (.ListComp elt [⟨.Name x tp, iter, ifs, 0⟩] scope pos) spos) (dSet j (dLc ti i tt te)) :=
  PS.imp (ps_setLc (i := j) (own := [(x, i)]) hc hN hy hyl hsw hi (blkOk_by ok) hg ht he hs) fun Dn σ H ⟨m, ρ, c, De, S, h, n, r, b, k⟩ =>
    ⟨m, ρ, c, _, S, h, fun ds c1 J H1 m1 hx C1 wk L1 => lc_walk wk (S.step L1 C1) hx fun p xs c' H' h' C' R' l' => n _ H' m1 _ c' h' ((S.step (L1.trans l') C').set R') (L1.trans l')⟩
end
end Cw

namespace Cw
open PySem PySem.Spec PyProof.Rows L2

/-! ### what a def promises, over data -/
abbrev Pm := List Cell → List D → (D → List Cell → Prop) → Prop
def spD (K : PySem.W.Frag) (n0 np : Nat) (S : Pm) : Sp := fun vs H Q _ => ∃ (m : Ad) (c : List Cell) (ds : List D) (Φ : D → List Cell → Prop), c.length = n0 ∧ ds.length = np ∧ CR K H m c ∧ RRL K H m ds vs ∧ S c ds Φ ∧
  ∀ d c' w H', Φ d c' → CR K H' m c' → RR K H' m d w → Le m H m H' → Q w H'
/-- a cell beyond the n0-th is let go: what it held stays -/
def melt1 (n0 : Nat) (c : List Cell) : D → Option D
  | .cell k => match c[k]? with
    | some (.lst es) => if Nat.ble n0 k && okDs n0 es then some (.lst es) else none
    | _ => none
  | d => if okD n0 d then some d else none
def melts (n0 : Nat) (c : List Cell) : List D → Option (List D)
  | [] => some []
  | d :: ds => match melt1 n0 c d, melts n0 c ds with
    | some e, some es => some (e :: es)
    | _, _ => none
def retD (n0 : Nat) (Φ : D → List Cell → Prop) (d : D) (c : List Cell) : Prop := match Nat.beq c.length n0 with
  | true => Φ d c
  | false => okCs n0 (c.take n0) = true ∧ match d with
    | .cell k => match c[k]? with
      | some (.dct ks ds) => ∃ es, Nat.ble n0 k = true ∧ melts n0 c ds = some es ∧ Φ (.dct ks es) (c.take n0)
      | _ => ∃ ds, c[k]? = some (.lst ds) ∧ Nat.ble n0 k = true ∧ okDs n0 ds = true ∧ Φ (.lst ds) (c.take n0)
    | .dct ks ds => ∃ es, melts n0 c ds = some es ∧ Φ (.dct ks es) (c.take n0)
    | d => okD n0 d = true ∧ Φ d (c.take n0)
def startD (N : List Str) (ds : List D) : Env := ds.map some ++ List.replicate (N.length - ds.length) none
theorem melt_ok {K : PySem.W.Frag} {H' : Hp} {m m' : Ad} {c' : List Cell} {n0 : Nat} (hn : m.ix.length = n0) (pre : ∀ (k : Nat) a, m.ix[k]? = some a → m'.ix[k]? = some a) (hd : m'.hd = m.hd) (C : CR K H' m' c') (ex : Ex (hid m' H') (hid m H')) :
    ∀ {d e : D} {v : V}, melt1 n0 c' d = some e → RR K H' m' d v → RR K H' m e v := by
  have gen : ∀ {d e : D} {v : V}, (if okD n0 d then some d else none) = some e → RR K H' m' d v → RR K H' m e v := fun {d e v} h r => by
    by_cases hk : okD n0 d = true
    · rw [if_pos hk] at h; cases h
      exact R.low ex (low_cut pre hn) _ v hk r
    · rw [if_neg hk] at h; cases h
  intro d e v h r
  cases d with
  | cell k =>
    obtain ⟨a, h5, rfl⟩ := r
    have h : (match c'[k]? with
      | some (.lst es) => if Nat.ble n0 k && okDs n0 es then some (D.lst es) else none
      | _ => none) = some e := h
    cases e1 : c'[k]? with
    | none => rw [e1] at h; cases h
    | some ce =>
      rw [e1] at h
      cases ce with
      | lst es =>
        have h : (if Nat.ble n0 k && okDs n0 es then some (D.lst es) else none) = some e := h
        by_cases hb : (Nat.ble n0 k && okDs n0 es) = true
        · rw [if_pos hb] at h
          cases h
          obtain ⟨b1, b2⟩ := Bool.and_eq_true_iff.mp hb
          obtain ⟨b, h6, xs, h7, h8⟩ := C.at_ k _ e1
          rw [h5] at h6; cases h6
          refine ⟨a, xs, rfl, ?_, RL.low ex (low_cut pre hn) es xs b2 h8⟩
          rw [hid_of ⟨fun z => ?_, fun z => C.dj a (List.mem_of_getElem? h5) (by rw [hd]; exact z)⟩]
          · exact h7
          · obtain ⟨j, hj⟩ := List.mem_iff_getElem?.mp z
            have hj2 := pre j a hj
            have e1 := (List.getElem?_eq_some_iff.mp h5)
            have e2 := (List.getElem?_eq_some_iff.mp hj2)
            have : k = j := (List.getElem_inj C.nd).mp (e1.2.trans e2.2.symm)
            subst this
            have := (List.getElem?_eq_some_iff.mp hj).1
            have := Nat.le_of_ble_eq_true b1
            omega
        · rw [if_neg hb] at h; cases h
      | obj _ _ _ => cases h
      | dct _ _ => cases h
      | dcT _ _ => cases h
  | non => exact gen (d := .non) h r
  | bl b => exact gen (d := .bl b) h r
  | int i => exact gen (d := .int i) h r
  | str x => exact gen (d := .str x) h r
  | tup ds => exact gen (d := .tup ds) h r
  | lst ds => exact gen (d := .lst ds) h r
  | fl ds => exact gen (d := .fl ds) h r
  | ins C' ns ds => exact gen (d := .ins C' ns ds) h r
  | dct _ _ => exact gen (d := .dct _ _) h r
  | dcT _ _ => exact gen (d := .dcT _ _) h r
  | exc a dd C' ns ds => exact gen (d := .exc a dd C' ns ds) h r
  | raw v => exact gen (d := .raw v) h r
theorem melts_ok {K : PySem.W.Frag} {H' : Hp} {m m' : Ad} {c' : List Cell} {n0 : Nat} (hn : m.ix.length = n0) (pre : ∀ (k : Nat) a, m.ix[k]? = some a → m'.ix[k]? = some a) (hd : m'.hd = m.hd) (C : CR K H' m' c') (ex : Ex (hid m' H') (hid m H')) :
    ∀ {ds es : List D} {vs : List V}, melts n0 c' ds = some es → RRL K H' m' ds vs → RRL K H' m es vs
  | [], es, vs, h, r => by cases h; exact r
  | d :: ds, es, vs, h, r => by
    obtain ⟨x, t, rfl, r1, r2⟩ := r
    unfold melts at h
    cases e1 : melt1 n0 c' d with
    | none => rw [e1] at h; cases h
    | some e =>
      cases e2 : melts n0 c' ds with
      | none => rw [e1, e2] at h; cases h
      | some es' =>
        rw [e1, e2] at h; cases h
        exact ⟨x, t, rfl, melt_ok hn pre hd C ex e1 r1, melts_ok hn pre hd C ex e2 r2⟩
theorem ret_ok {K : PySem.W.Frag} {H H' : Hp} {m m' : Ad} {c' : List Cell} {Φ : D → List Cell → Prop} {d : D} {v : V} {Q : VK} {n0 : Nat} (hn : m.ix.length = n0) (q : ∀ d c' w H', Φ d c' → CR K H' m c' → RR K H' m d w → Le m H m H' → Q w H')
    (h : retD n0 Φ d c') (C : CR K H' m' c') (r : RR K H' m' d v) (l : Le m H m' H') : Q v H' := by
  unfold retD at h
  cases e : Nat.beq c'.length n0 with
  | true =>
    rw [e] at h
    have e1 := ix_same l.pre (by rw [C.len, beq_t e, hn])
    have em : m' = m := Ad.ext' e1 l.hd
    subst em
    exact q d c' v H' h C r l
  | false =>
    rw [e] at h
    obtain ⟨hk, h⟩ := h
    have C' := C.cut l.pre l.hd hn hk
    have ex : Ex (hid m' H') (hid m H') := ex_cut l.pre l.hd
    have l' : Le m H m H' := ⟨fun _ _ e => e, l.ex.trans ex, rfl, l.hk' ex, fun _ h => .inl h, l.al⟩
    have gen : ∀ d', okD n0 d' = true ∧ Φ d' (c'.take n0) → RR K H' m' d' v → Q v H' := fun d' ⟨h1, h2⟩ r => q d' _ v H' h2 C' (R.low ex (low_cut l.pre hn) d' v h1 r) l'
    cases d with
    | cell k =>
      have lst : (∃ ds, c'[k]? = some (.lst ds) ∧ Nat.ble n0 k = true ∧ okDs n0 ds = true ∧ Φ (.lst ds) (c'.take n0)) → Q v H' := fun h => by
        obtain ⟨ds, h1, h2, h3, h4⟩ := h
        obtain ⟨a, h5, rfl⟩ := r
        obtain ⟨b, h6, xs, h7, h8⟩ := C.at_ k _ h1
        rw [h5] at h6; cases h6
        refine q (.lst ds) _ (.ref a) H' h4 C' ⟨a, xs, rfl, ?_, RL.low ex (low_cut l.pre hn) ds xs h3 h8⟩ l'
        rw [hid_of ⟨fun z => ?_, fun z => C.dj a (List.mem_of_getElem? h5) (by rw [l.hd]; exact z)⟩]
        · exact h7
        · obtain ⟨j, hj⟩ := List.mem_iff_getElem?.mp z
          have hj2 := l.pre j a hj
          have e1 := (List.getElem?_eq_some_iff.mp h5)
          have e2 := (List.getElem?_eq_some_iff.mp hj2)
          have : k = j := (List.getElem_inj C.nd).mp (e1.2.trans e2.2.symm)
          subst this
          have := (List.getElem?_eq_some_iff.mp hj).1
          have := Nat.le_of_ble_eq_true h2
          omega
      have h : (match c'[k]? with
        | some (.dct ks ds) => ∃ es, Nat.ble n0 k = true ∧ melts n0 c' ds = some es ∧ Φ (.dct ks es) (c'.take n0)
        | _ => ∃ ds, c'[k]? = some (.lst ds) ∧ Nat.ble n0 k = true ∧ okDs n0 ds = true ∧ Φ (.lst ds) (c'.take n0)) := h
      cases e1 : c'[k]? with
      | none => rw [e1] at h lst; exact lst h
      | some ce =>
        cases ce with
        | lst es => rw [e1] at h lst; exact lst h
        | obj _ _ _ => rw [e1] at h lst; exact lst h
        | dcT _ _ => rw [e1] at h lst; exact lst h
        | dct ks ds =>
          rw [e1] at h
          obtain ⟨es, h2, h3, h4⟩ := h
          obtain ⟨a, h5, rfl⟩ := r
          obtain ⟨b, h6, kvs, h7, h8, h9⟩ := C.at_ k _ e1
          rw [h5] at h6; cases h6
          refine q (.dct ks es) _ (.ref a) H' h4 C' ⟨a, kvs, rfl, .inl ?_, h8, melts_ok hn l.pre l.hd C ex h3 h9⟩ l'
          rw [hid_of ⟨fun z => ?_, fun z => C.dj a (List.mem_of_getElem? h5) (by rw [l.hd]; exact z)⟩]
          · exact h7
          · obtain ⟨j, hj⟩ := List.mem_iff_getElem?.mp z
            have hj2 := l.pre j a hj
            have e1 := (List.getElem?_eq_some_iff.mp h5)
            have e2 := (List.getElem?_eq_some_iff.mp hj2)
            have : k = j := (List.getElem_inj C.nd).mp (e1.2.trans e2.2.symm)
            subst this
            have := (List.getElem?_eq_some_iff.mp hj).1
            have := Nat.le_of_ble_eq_true h2
            omega
    | non => exact gen _ h r
    | bl b => exact gen _ h r
    | int i => exact gen _ h r
    | str x => exact gen _ h r
    | tup ds => exact gen _ h r
    | lst ds => exact gen _ h r
    | fl ds => exact gen _ h r
    | ins C' ns ds => exact gen _ h r
    | exc a dd C' ns ds => exact gen _ h r
    | dct ks ds =>
      obtain ⟨es, h1, h2⟩ := h
      obtain ⟨a, kvs, rfl, h3, h4, h5⟩ := r
      exact q (.dct ks es) _ (.ref a) H' h2 C' ⟨a, kvs, rfl, ex_rd ex h3, h4, melts_ok hn l.pre l.hd C ex h1 h5⟩ l'
    | dcT ks ds => exact gen _ h r
    | raw w => exact gen _ h r
theorem start_slots {K : PySem.W.Frag} {H : Hp} {m : Ad} {c : List Cell} {N : List Str} {ds : List D} {vs : List V} (C : CR K H m c) (r : RRL K H m ds vs) : SR K (L2.start N vs) H m (startD N ds) c := by
  have hl := RL.length r
  refine ⟨C, by unfold startD L2.start; rw [List.length_append, List.length_append, List.length_map, List.length_map, List.length_replicate, List.length_replicate, hl], fun i d e => ?_⟩
  unfold startD at e
  by_cases hi : i < ds.length
  · rw [List.getElem?_append_left (by simpa using hi), List.getElem?_map] at e
    cases e1 : ds[i]? with
    | none => rw [e1] at e; cases e
    | some d' =>
      rw [e1] at e; cases e
      obtain ⟨x, h1, h2⟩ := RL.get r e1
      refine ⟨x, ?_, h2⟩
      unfold L2.start
      rw [List.getElem?_append_left (by simp; omega), List.getElem?_map, h1]; rfl
  · rw [List.getElem?_append_right (by simpa using hi)] at e
    rw [List.getElem?_replicate] at e
    split at e <;> cases e
section
variable {P : Program} {w : World} {K : PySem.W.Frag} {mg : Str → Option Value} {base : Heap}
/-- THE RULE for a def, over data -/
theorem fnD {x qual : Str} {st : Stmt} {f : Addr} {fd : FuncData} {N ps : List Str} {k n0 : Nat} {S : Pm} (F : Fun K x qual st f fd) (Sc : FnScope N ps (defScope st))
    (hbody : ∀ (cdv : Value) (A : Around) (outer : List PySem.Env) (s : Shared) (H : Hp) (E : XK), Room k (A.deeper (envOfC qual (defScope st) s.heap.objs.size f cdv)) →
      ∃ ts, PSDs (cxOf CX0 P w K mg base N qual (defScope st) f cdv A outer s H E).nox (defBody st) ts ∧
        ∀ c ds Φ, c.length = n0 → ds.length = ps.length → S c ds Φ → ts ⟨fun _ c' => retD n0 Φ .non c', retD n0 Φ, fun _ _ => False, fun _ _ => False⟩ (startD N ds) c) :
    FnOk P w K mg base CX0 (k + 1) f fd ps (spD K n0 ps.length S) := by
  refine F.ok Sc (fun vs H Q E h => ?_) (fun cdv A outer s H vs Q E hr h => ?_)
  · obtain ⟨m, c, ds, Φ, h1, h2, C, r, _⟩ := h
    rw [← RL.length r]; exact h2
  · obtain ⟨m, c, ds, Φ, h1, h2, C, r, hS, q⟩ := h
    obtain ⟨ts, hp, ht⟩ := hbody cdv A outer s H E hr
    have hn : m.ix.length = n0 := by rw [C.len]; exact h1
    exact ⟨_, hp, m, startD N ds, c, _, start_slots C r, ht c ds Φ h1 h2 hS, fun σ' H' m' ρ' c' h' S' l => ret_ok hn q h' S'.cr rfl l, fun d c' v H' m' h' C' r' l => ret_ok hn q h' C' r' l, fun _ _ _ _ _ z => z.elim, fun _ _ _ _ _ z => z.elim⟩
end

/-! ### calls -/
/-- nothing that may change is handed in -/
def callP (S : Pm) (ds : List D) (c : List Cell) (Φ : D → List Cell → Prop) : Prop := okDs 0 ds = true ∧ S [] ds fun d _ => Φ d c
/-- the first argument is a mutable object -/
def callM (S : Pm) (ds : List D) (c : List Cell) (Φ : D → List Cell → Prop) : Prop := match ds with
  | .cell k :: r => ∃ ce, c[k]? = some ce ∧ okC 0 ce = true ∧ okDs 0 r = true ∧ S [ce] (.cell 0 :: r) fun d c' => match c' with
    | [ce'] => okC 0 ce' = true ∧ okD 0 d = true ∧ Φ d (c.set k ce')
    | _ => False
  | _ => False
section
variable {K : PySem.W.Frag} {m : Ad} {H : Hp} {c : List Cell}
def Ad.none (m : Ad) : Ad := ⟨[], m.hd ++ m.ix⟩
theorem hid_none (m : Ad) (H : Hp) : hid m.none H = hid m H := by
  funext b
  unfold hid Ad.none
  by_cases h : b ∈ m.ix
  · simp [h]
  · by_cases h2 : b ∈ m.hd <;> simp [h, h2]
theorem _root_.Cw.TabK.of_hid {m m' : Ad} {H : Hp} {P : Addr} {q : Str} (t : TabK m H P q) (e : hid m H = hid m' H) : TabK m' H P q := t.keep rfl (by rw [e]; exact Ex.refl _)
theorem CR.tk_none (C : CR K H m c) : ∀ p ∈ tabsK K, p.1 ∈ m.none.hd ∧ TabK m.none H p.1 p.2.1 := fun p hp => ⟨List.mem_append_left _ (C.tk p hp).1, (C.tk p hp).2.of_hid (hid_none m H).symm⟩
theorem sp_pure {S : Pm} {np : Nat} {ds : List D} {vs : List V} {Φ : D → List Cell → Prop} {Q : VK} {E : XK} (C : CR K H m c) (r : RRL K H m ds vs) (hl : ds.length = np) (h : callP S ds c Φ) (q : KQ K H m Φ Q) : spD K 0 np S vs H Q E := by
  obtain ⟨ok, hS⟩ := h
  have hall : ∀ b ∈ m.hd ++ m.ix, ∃ o, H b = some o ∧ Mu o := fun b hb => by
    rcases List.mem_append.mp hb with z | z
    · exact C.hs b z
    · obtain ⟨k, hk⟩ := List.mem_iff_getElem?.mp z
      obtain ⟨ce, _, h2⟩ := C.some_at hk
      exact h2.mu
  have C0 : CR K H m.none [] := ⟨rfl, List.nodup_nil, fun k ce e => by simp at e, hall, fun a ha => (by cases ha), C.tk_none⟩
  refine ⟨m.none, [], ds, _, rfl, hl, C0, ?_, hS, fun d c' w H' hd C' r' l => ?_⟩
  · show RL K [] (hid m.none H) ds vs
    rw [hid_none]
    exact RL.low (n := 0) (Ex.refl _) (fun k a hk => absurd hk (Nat.not_lt_zero _)) ds vs ok r
  · have hex : Ex (hid m H) (hid m H') := by
      have := l.ex
      rw [hid_none, hid_none] at this
      exact this
    have l' : Le m H m H' := ⟨fun _ _ e => e, hex, rfl, fun b hb => (l.hk b (List.mem_append_left _ hb)).imp id fun z => ⟨z.1, fun q t => by
      have := z.2 q (t.of_hid (hid_none m H).symm)
      exact this.of_hid (hid_none m H')⟩, fun _ h => .inl h, l.al⟩
    refine q d c w H' m hd ⟨C.len, C.nd, fun k ce e => ?_, fun b hb => l'.hs hb (C.hs b hb), C.dj, C.tk' l'⟩ ?_ l'
    · obtain ⟨a, h1, h2⟩ := C.at_ k ce e
      exact ⟨a, h1, h2.step l' fun o e' => l.kcell (List.mem_append_right _ (List.mem_of_getElem? h1)) h2 e'⟩
    · have r2 : R K [] (hid m.none H') d w := r'
      rw [hid_none] at r2
      exact R.mono (Ex.refl _) (fun k a e => by simp at e) d w r2
def Ad.one (m : Ad) (k : Nat) (a : Addr) : Ad := ⟨[a], m.hd ++ m.ix.eraseIdx k⟩
theorem hid_one {k : Nat} {a : Addr} (hk : m.ix[k]? = some a) (H : Hp) : hid (m.one k a) H = hid m H := by
  funext b
  unfold hid Ad.one
  have e : b ∈ m.ix ↔ b = a ∨ b ∈ m.ix.eraseIdx k := by
    obtain ⟨hlt, he⟩ := List.getElem?_eq_some_iff.mp hk
    constructor
    · intro h
      by_cases hb : b = a
      · exact .inl hb
      · refine .inr ?_
        rw [List.mem_eraseIdx_iff_getElem?]
        obtain ⟨j, hj⟩ := List.mem_iff_getElem?.mp h
        exact ⟨j, fun z => by subst z; rw [hk] at hj; exact hb (Option.some.inj hj).symm, hj⟩
    · rintro (rfl | h)
      · exact List.mem_of_getElem? hk
      · exact List.mem_of_mem_eraseIdx h
  have e2 : (b ∈ [a] ∨ b ∈ m.hd ++ m.ix.eraseIdx k) ↔ (b ∈ m.ix ∨ b ∈ m.hd) := by
    rw [List.mem_singleton, List.mem_append, e]
    constructor
    · rintro (h | h | h)
      · exact .inl (.inl h)
      · exact .inr h
      · exact .inl (.inr h)
    · rintro ((h | h) | h)
      · exact .inl h
      · exact .inr (.inr h)
      · exact .inr (.inl h)
  by_cases h : b ∈ m.ix ∨ b ∈ m.hd
  · rw [if_pos (e2.mpr h), if_pos h]
  · rw [if_neg (fun z => h (e2.mp z)), if_neg h]
theorem sp_one {S : Pm} {np : Nat} {ds : List D} {vs : List V} {Φ : D → List Cell → Prop} {Q : VK} {E : XK} (C : CR K H m c) (r : RRL K H m ds vs) (hl : ds.length = np) (h : callM S ds c Φ) (q : KQ K H m Φ Q) : spD K 1 np S vs H Q E := by
  unfold callM at h
  cases ds with
  | nil => exact h.elim
  | cons d0 rest =>
    cases d0 <;> first | exact h.elim | skip
    rename_i k
    obtain ⟨v, vr, e1, ⟨a, hk, e2⟩, rr⟩ := r
    obtain ⟨ce, hce, ok1, ok2, hS⟩ := h
    subst e1; subst e2
    have hnd : a ∉ m.ix.eraseIdx k := fun z => by
      rw [List.mem_eraseIdx_iff_getElem?] at z
      obtain ⟨j, hj, hja⟩ := z
      have e1 := List.getElem?_eq_some_iff.mp hk
      have e2 := List.getElem?_eq_some_iff.mp hja
      exact hj ((List.getElem_inj C.nd).mp (e2.2.trans e1.2.symm))
    have hall : ∀ b ∈ m.hd ++ m.ix.eraseIdx k, ∃ o, H b = some o ∧ Mu o := fun b hb => by
      rcases List.mem_append.mp hb with z | z
      · exact C.hs b z
      · obtain ⟨j, hj⟩ := List.mem_iff_getElem?.mp (List.mem_of_mem_eraseIdx z)
        obtain ⟨ce, _, h2⟩ := C.some_at hj
        exact h2.mu
    obtain ⟨b, hb, hat⟩ := C.at_ k ce hce
    rw [hk] at hb; cases hb
    have low : ∀ (j : Nat) (x : Addr), j < 0 → m.ix[j]? = some x → (m.one k a).ix[j]? = some x := fun j x hj => absurd hj (Nat.not_lt_zero _)
    have hat1 : CellAt K (m.one k a) H a ce := by
      cases ce with
      | lst es => obtain ⟨xs, h3, h4⟩ := hat; exact ⟨xs, h3, by show RL K _ (hid (m.one k a) H) es xs; rw [hid_one hk]; exact RL.low (Ex.refl _) low es xs ok1 h4⟩
      | obj C' ns es => obtain ⟨dx, fs, h3, h4, h5⟩ := hat; exact ⟨dx, fs, h3, h4, by show RL K _ (hid (m.one k a) H) es _; rw [hid_one hk]; exact RL.low (Ex.refl _) low es _ ok1 h5⟩
      | dct ks es => obtain ⟨kvs, h3, h4, h5⟩ := hat; exact ⟨kvs, h3, h4, by show RL K _ (hid (m.one k a) H) es _; rw [hid_one hk]; exact RL.low (Ex.refl _) low es _ ok1 h5⟩
      | dcT ks es => obtain ⟨kvs, h3, h4, h5⟩ := hat; exact ⟨kvs, h3, h4, by show RL K _ (hid (m.one k a) H) es _; rw [hid_one hk]; exact RL.low (Ex.refl _) low es _ ok1 h5⟩
    have C0 : CR K H (m.one k a) [ce] := ⟨rfl, by simp [Ad.one], fun j ce' e => by
      have hj : j = 0 := by
        have := (List.getElem?_eq_some_iff.mp e).1
        simp at this; exact this
      subst hj
      simp at e; subst e
      exact ⟨a, rfl, hat1⟩, hall, fun x hx => by
        have : x = a := by simpa [Ad.one] using hx
        subst this
        intro z
        rcases List.mem_append.mp z with z | z
        · exact C.dj x (List.mem_of_getElem? hk) z
        · exact hnd z, fun p hp => ⟨List.mem_append_left _ (C.tk p hp).1, (C.tk p hp).2.of_hid (hid_one hk H).symm⟩⟩
    refine ⟨m.one k a, [ce], .cell 0 :: rest, _, rfl, hl, C0, ⟨.ref a, vr, rfl, ⟨a, rfl, rfl⟩, ?_⟩, hS, fun d c' w H' hd C' r' l => ?_⟩
    · show RL K [a] (hid (m.one k a) H) rest vr
      rw [hid_one hk]
      exact RL.low (n := 0) (Ex.refl _) (fun k a hk => absurd hk (Nat.not_lt_zero _)) rest vr ok2 rr
    · cases c' with
      | nil => exact hd.elim
      | cons ce' t =>
        cases t with
        | cons _ _ => exact hd.elim
        | nil =>
          obtain ⟨ok3, ok4, hΦ⟩ := hd
          have hex : Ex (hid m H) (hid m H') := by
            have := l.ex
            rw [hid_one hk, hid_one hk] at this
            exact this
          have l' : Le m H m H' := ⟨fun _ _ e => e, hex, rfl, fun b hb => (l.hk b (List.mem_append_left _ hb)).imp id fun z => ⟨z.1, fun q t => by
            have := z.2 q (t.of_hid (hid_one hk H).symm)
            exact this.of_hid (hid_one hk H')⟩, fun _ h => .inl h, l.al⟩
          obtain ⟨b, hb, hat'⟩ := C'.at_ 0 ce' rfl
          cases hb
          have hat2 : CellAt K m H' a ce' := by
            cases ce' with
            | lst es => obtain ⟨xs, h3, h4⟩ := hat'; exact ⟨xs, h3, by have h4 : RL K _ (hid (m.one k a) H') es xs := h4; rw [hid_one hk] at h4; exact RL.low (n := 0) (Ex.refl _) (fun k a hk => absurd hk (Nat.not_lt_zero _)) es xs ok3 h4⟩
            | obj C' ns es => obtain ⟨dx, fs, h3, h5, h4⟩ := hat'; exact ⟨dx, fs, h3, h5, by have h4 : RL K _ (hid (m.one k a) H') es _ := h4; rw [hid_one hk] at h4; exact RL.low (n := 0) (Ex.refl _) (fun k a hk => absurd hk (Nat.not_lt_zero _)) es _ ok3 h4⟩
            | dct ks es => obtain ⟨kvs, h3, h5, h4⟩ := hat'; exact ⟨kvs, h3, h5, by have h4 : RL K _ (hid (m.one k a) H') es _ := h4; rw [hid_one hk] at h4; exact RL.low (n := 0) (Ex.refl _) (fun k a hk => absurd hk (Nat.not_lt_zero _)) es _ ok3 h4⟩
            | dcT ks es => obtain ⟨kvs, h3, h5, h4⟩ := hat'; exact ⟨kvs, h3, h5, by have h4 : RL K _ (hid (m.one k a) H') es _ := h4; rw [hid_one hk] at h4; exact RL.low (n := 0) (Ex.refl _) (fun k a hk => absurd hk (Nat.not_lt_zero _)) es _ ok3 h4⟩
          refine q d _ w H' m hΦ ⟨by rw [List.length_set]; exact C.len, C.nd, fun j ce2 e => ?_, fun b hb => l'.hs hb (C.hs b hb), C.dj, C.tk' l'⟩ ?_ l'
          · by_cases hj : k = j
            · subst hj
              rw [List.getElem?_set_self (by rw [← C.len]; exact (List.getElem?_eq_some_iff.mp hk).1)] at e
              cases e
              exact ⟨a, hk, hat2⟩
            · rw [List.getElem?_set_ne hj] at e
              obtain ⟨b, h1, h2⟩ := C.at_ j ce2 e
              exact ⟨b, h1, h2.step l' fun o e' => l.kcell (List.mem_append_right _ (by rw [List.mem_eraseIdx_iff_getElem?]; exact ⟨j, fun z => hj z.symm, h1⟩)) h2 e'⟩
          · have r2 : R K [a] (hid (m.one k a) H') d w := r'
            rw [hid_one hk] at r2
            exact R.low (n := 0) (Ex.refl _) (fun k a hk => absurd hk (Nat.not_lt_zero _)) d w ok4 r2
end
section
variable {X : Cx} {CX : CXT} {k np : Nat} {f C : Addr} {fd : FuncData} {ps : List Str} {S : Pm} {E : XK} {x : Str} {p pos apos : Pos} {e o : Expr} {es : List Expr} {ta : TD} {tas : TDs}
def dCallP (S : Pm) (np : Nat) (t : TDs) : TD := fun ρ c Φ => t ρ c fun ds c1 => ds.length = np ∧ callP S ds c1 Φ
def dCallM (S : Pm) (np : Nat) (t : TDs) : TD := fun ρ c Φ => t ρ c fun ds c1 => ds.length = np ∧ callM S ds c1 Φ
theorem pd_callP (F : FnOk X.prog X.w X.K X.mg X.base CX k f fd ps (spD X.K 0 np S)) (hr : Room k X.A) (hm : X.mg x = some (.ref f)) (hk : PySem.W.keepIn X.K (.ref f) = true) (hb : Binds X.K fd ps []) (hx : Passes CX X E)
    (ha : PDs X (e :: es) tas) (hg : Gl X x := by rfl) (hdb : (x == ("__debug__" : Str)) = false := by decide) (he : starEach (e :: es) X.env = (false, eval e X.env) :: starEach es X.env := by rfl) (hpl : (backTo pos (starEach es X.env)).any (·.1) = false := by rfl) :
    PD X (.Call (.Name x p) (e :: es) [] pos) (dCallP S np tas) := PE.imp (pe_call F hr hg hm hk hb .nil hx ha hdb he hpl) fun σ H Q ⟨m, ρ, c, Φ, S', h, q⟩ =>
    ⟨m, ρ, c, _, S', h, fun ds c1 vs H1 m1 ⟨hl, hc⟩ C1 R1 L1 => by show spD _ _ _ _ (_ ++ []) _ _ _; rw [List.append_nil]; exact sp_pure C1 R1 hl hc (KQ.le (K := X.K) q L1)⟩
theorem pd_callM (F : FnOk X.prog X.w X.K X.mg X.base CX k f fd ps (spD X.K 1 np S)) (hr : Room k X.A) (hm : X.mg x = some (.ref f)) (hk : PySem.W.keepIn X.K (.ref f) = true) (hb : Binds X.K fd ps []) (hx : Passes CX X E)
    (ha : PDs X (e :: es) tas) (hg : Gl X x := by rfl) (hdb : (x == ("__debug__" : Str)) = false := by decide) (he : starEach (e :: es) X.env = (false, eval e X.env) :: starEach es X.env := by rfl) (hpl : (backTo pos (starEach es X.env)).any (·.1) = false := by rfl) :
    PD X (.Call (.Name x p) (e :: es) [] pos) (dCallM S np tas) := PE.imp (pe_call F hr hg hm hk hb .nil hx ha hdb he hpl) fun σ H Q ⟨m, ρ, c, Φ, S', h, q⟩ =>
    ⟨m, ρ, c, _, S', h, fun ds c1 vs H1 m1 ⟨hl, hc⟩ C1 R1 L1 => by show spD _ _ _ _ (_ ++ []) _ _ _; rw [List.append_nil]; exact sp_one C1 R1 hl hc (KQ.le (K := X.K) q L1)⟩
end
end Cw

namespace Cw
open PySem PySem.Spec PyProof.Rows L2
/-! ### a module's constants -/
section
variable {X : Cx} {x : Str} {pos : Pos}
theorem pd_gs {z : Str} (h : ∃ t, X.mg x = some (.str z t)) (hg : Gl X x := by rfl) (hd : (x == ("__debug__" : Str)) = false := by decide) : PD X (.Name x pos) (dC (.str z)) := by
  obtain ⟨t, h⟩ := h
  exact pd_c (v := .str z) (pe_glob hg h ⟨_, rfl⟩ hd) fun _ _ => rfl
theorem pd_gi {z : Int} (h : ∃ t, X.mg x = some (.int z t)) (hg : Gl X x := by rfl) (hd : (x == ("__debug__" : Str)) = false := by decide) : PD X (.Name x pos) (dC (.int z)) := by
  obtain ⟨t, h⟩ := h
  exact pd_c (v := .int z) (pe_glob hg h ⟨_, rfl⟩ hd) fun _ _ => rfl
def TupK (K : PySem.W.Frag) (mg : Str → Option Value) (x : Str) (ys : List Str) : Prop := ∃ a, mg x = some (.ref a) ∧ ∀ H, SqT K H a (ys.map V.str)
theorem pd_gtt {ys : List Str} (h : TupK X.K X.mg x ys) (hg : Gl X x := by rfl) (hd : (x == ("__debug__" : Str)) = false := by decide) : PD X (.Name x pos) (dC (.tup (ys.map .str))) := by
  obtain ⟨a, h, hs⟩ := h
  exact pd_c (v := .ref a) (pe_glob hg h rfl hd) fun m H => ⟨a, _, rfl, hs H, rl_txts ys⟩
end
end Cw

namespace Cw
open PySem PySem.Spec PyProof.Rows L2
/-! ### isinstance -/
inductive Ty where
  | non | bl | int | str | tup | lst | dct | ins (C : Addr)
def Ty.val : Ty → Value
  | .non => .type "NoneType"
  | .bl => .type "bool"
  | .int => .type "int"
  | .str => .type "str"
  | .tup => .type "tuple"
  | .lst => .type "list"
  | .dct => .type "dict"
  | .ins C => .ref C
def tyD : D → Option Ty
  | .non => some .non
  | .bl _ => some .bl
  | .int _ => some .int
  | .str _ => some .str
  | .tup _ => some .tup
  | .lst _ => some .lst
  | .dct _ _ => some .dct
  | .ins C _ _ => some (.ins C)
  | _ => none
/-- what the written part knows of an own class, for isinstance -/
structure ClsI (K : PySem.W.Frag) (C : Addr) : Prop where
  cl : Cls K C
  ha : PySem.W.findIn K (.ref C) "__class__" = some (some (.builtin "object.__class__"))
  hn : PySem.W.specialIn K (.builtin "object.__class__") "__get__" = some (some (.builtin "getset_descriptor.__get__"))
  tk : PySem.W.takesIn K (.builtin "object.__class__") = some true
  mr : PySem.W.mroIn K C (.type "object") = some true
/-- the answers g of isinstance(x, the class u) -/
structure IsiT (K : PySem.W.Frag) (u : Value) (g : Ty → Option Bool) : Prop where
  ok : ∀ t b, g t = some b → PySem.W.kitOne K t.val u = some b
  ins : ∀ C b, g (.ins C) = some b → ClsI K C
def fIsi (g : Ty → Option Bool) : F2
  | x, .raw _, c, Φ => ∃ t b, tyD x = some t ∧ g t = some b ∧ Φ (.bl b) c
  | _, _, _, _ => False
theorem l2_isi {K : PySem.W.Frag} {v0 : V} {u0 : Value} {g : Ty → Option Bool} (T : IsiT K u0 g) (cv : ClsV v0 u0) {x : D} {c : List Cell} {Φ : D → List Cell → Prop} {H : Hp} {m : Ad} {u : V} (C : CR K H m c) (r : W K H m x u) {Q : VK} (q : KQ K H m Φ Q)
    (h : fIsi g x (.raw v0) c Φ) : rIsi K [u, v0] H Q := by
  obtain ⟨t, b, e1, e2, h⟩ := h
  have z : TyX K H u t.val → rIsi K [u, v0] H Q := fun z => ⟨u, v0, t.val, u0, b, rfl, cv, z, T.ok t b e2, q.pure C h rfl⟩
  cases x <;> first | (cases e1; done) | skip
  · cases e1; cases (show u = _ from r); exact z (.base .non)
  · cases e1; cases (show u = _ from r); exact z (.base (.bl _))
  · cases e1; cases (show u = _ from r); exact z (.base (.int _))
  · cases e1; cases (show u = _ from r); exact z (.base (.str _))
  · cases e1
    obtain ⟨a, xs, rfl, h1, h2⟩ := r
    rcases ex_t (ex_hid m H) h1 with (h1 | ⟨o, h1⟩) | ⟨o, its, n, hk, hc, _⟩
    · exact z (.base (.tup h1))
    · exact z (.fTuple h1)
    · exact z (.kTuple hk hc)
  · cases e1
    obtain ⟨a, xs, rfl, h1, h2⟩ := r
    exact z (.base (.lst h1))
  · cases e1
    obtain ⟨a, dx, fs, rfl, h1, _⟩ := r
    have ci := T.ins _ b e2
    exact z (.base (.ins h1 ci.cl ci.ha ci.hn ci.tk ci.mr))
  · cases e1
    obtain ⟨a, kvs, rfl, h1, _⟩ := r
    rcases h1 with h1 | ⟨o, h1⟩
    · exact z (.base (.dK h1))
    · exact z (.fDict h1)
section
variable {X : Cx} {e e2 : Expr} {ta : TD} {pos pp : Pos}
theorem pd_isi {v0 : V} {u0 : Value} {g : Ty → Option Bool} (T : IsiT X.K u0 g) (cv : ClsV v0 u0) (ha : PD X e ta) (hb : PE X e2 (tC v0)) (hm : X.mg "isinstance" = none) (hg : Gl X "isinstance" := by rfl)
    (he : starEach [e, e2] X.env = (false, eval e X.env) :: starEach [e2] X.env := by rfl) (he2 : starEach [e2] X.env = (false, eval e2 X.env) :: starEach [] X.env := by rfl) (hpl : (backTo pos (starEach [e2] X.env)).any (·.1) = false := by rfl) :
    PD X (.Call (.Name "isinstance" pp) [e, e2] [] pos) (dBin (fIsi g) ta (dC (.raw v0))) :=
  PE.imp (pe_callB call_isi hg hm boot_isinstance (pds_cons ha (pds_cons (pd_c (d := .raw v0) hb fun _ _ => rfl) pds_nil he2) he) (by decide) (by decide) he hpl) fun σ H Q ⟨m, ρ, c, Φ, S, h, q⟩ =>
  ⟨m, ρ, c, (fun ds c1 => ∃ x, ds = [x, .raw v0] ∧ fIsi g (vw c1 x) (.raw v0) c1 Φ), S, (show ta ρ c fun x c1 => ∃ y, [x, .raw v0] = [y, .raw v0] ∧ fIsi g (vw c1 y) (.raw v0) c1 Φ by
    have e : (fun x c1 => ∃ y, [x, D.raw v0] = [y, .raw v0] ∧ fIsi g (vw c1 y) (.raw v0) c1 Φ) = fun x c1 => fIsi g (vw c1 x) (vw c1 (.raw v0)) c1 Φ := by
      funext x c1
      apply propext
      constructor
      · rintro ⟨y, e, h⟩; cases e; exact h
      · intro h; exact ⟨x, rfl, h⟩
    rw [e]; exact h), fun ds c1 vs H1 m1 ⟨x, e1, hx⟩ C1 R1 L1 => by
      subst e1
      obtain ⟨u, r, rfl, ru, v, r', rfl, rv, rr⟩ := R1
      cases (show r' = [] from rr)
      cases (show v = v0 from rv)
      exact l2_isi T cv C1 (W.vw C1 ru) (KQ.le q L1) hx⟩
end
def gStr : Ty → Option Bool
  | .str => some true
  | .ins _ => none
  | _ => some false
theorem isi_str {K : PySem.W.Frag} : IsiT K (.type "str") gStr := ⟨fun t b h => by cases t <;> cases h <;> exact kit_ty (by decide +kernel), fun C b h => by cases h⟩
end Cw

namespace Cw
open PySem PySem.Spec PyProof.Rows L2

/-! ### a def that hands back a new list of flat items -/
abbrev Pn := List D → (List D → Prop) → Prop
def spN (K : PySem.W.Frag) (np : Nat) (S : Pn) : Sp := fun vs H Q _ => ∃ (m : Ad) (ds : List D) (Φ : List D → Prop), ds.length = np ∧ CR K H m [] ∧ RRL K H m ds vs ∧ S ds Φ ∧
  ∀ xs p ws H', Φ xs → xs.all flatD = true → CR K H' m [] → H p = none → H' p = some (.lst ws) → RRL K H' m xs ws → Le m H m H' → Q (.ref p) H'
def retN (Φ : List D → Prop) (d : D) (c : List Cell) : Prop := match d with
  | .cell k => ∃ xs, c[k]? = some (.lst xs) ∧ xs.all flatD = true ∧ Φ xs
  | _ => False
theorem flat_any {K : PySem.W.Frag} {ix ix' : List Addr} {H H' : Hp} : ∀ {ds : List D} {vs : List V}, ds.all flatD = true → RL K ix H ds vs → RL K ix' H' ds vs
  | [], _, _, h => h
  | d :: ds, _, f, ⟨x, r, e1, h1, h2⟩ => by
    rw [List.all_cons, Bool.and_eq_true] at f
    refine ⟨x, r, e1, ?_, flat_any f.2 h2⟩
    cases d <;> first | exact absurd (show false = true from f.1) Bool.false_ne_true | exact h1
theorem nil_of {K : PySem.W.Frag} {H : Hp} {m : Ad} (C : CR K H m []) : m.ix = [] := by
  have := C.len
  exact List.length_eq_zero_iff.mp this
section
variable {P : Program} {w : World} {K : PySem.W.Frag} {mg : Str → Option Value} {base : Heap}
theorem fnN {x qual : Str} {st : Stmt} {f : Addr} {fd : FuncData} {N ps : List Str} {k : Nat} {S : Pn} (F : Fun K x qual st f fd) (Sc : FnScope N ps (defScope st))
    (hbody : ∀ (cdv : Value) (A : Around) (outer : List PySem.Env) (s : Shared) (H : Hp) (E : XK), Room k (A.deeper (envOfC qual (defScope st) s.heap.objs.size f cdv)) →
      ∃ ts, PSDs (cxOf CX0 P w K mg base N qual (defScope st) f cdv A outer s H E).nox (defBody st) ts ∧
        ∀ ds Φ, ds.length = ps.length → S ds Φ → ts ⟨fun _ _ => False, retN Φ, fun _ _ => False, fun _ _ => False⟩ (startD N ds) []) :
    FnOk P w K mg base CX0 (k + 1) f fd ps (spN K ps.length S) := by
  refine F.ok Sc (fun vs H Q E h => ?_) (fun cdv A outer s H vs Q E hr h => ?_)
  · obtain ⟨m, ds, Φ, h2, C, r, _⟩ := h
    rw [← RL.length r]; exact h2
  · obtain ⟨m, ds, Φ, h2, C, r, hS, q⟩ := h
    obtain ⟨ts, hp, ht⟩ := hbody cdv A outer s H E hr
    refine ⟨_, hp, m, startD N ds, [], _, start_slots C r, ht ds Φ h2 hS, fun _ _ _ _ _ z => z.elim, fun d c' v H' m' h' C' r' l => ?_, fun _ _ _ _ _ z => z.elim, fun _ _ _ _ _ z => z.elim⟩
    unfold retN at h'
    cases d <;> first | exact h'.elim | skip
    rename_i j
    obtain ⟨xs, h3, h4, h5⟩ := h'
    obtain ⟨a, h6, rfl⟩ := r'
    obtain ⟨b, h7, ws, h8, h9⟩ := C'.at_ j _ h3
    rw [h6] at h7; cases h7
    have hix := nil_of C
    have fresh : H a = none := (l.fr a (List.mem_of_getElem? h6)).elim (fun z => by rw [hix] at z; cases z) id
    have l' : Le m H m H' := ⟨fun _ _ e => e, l.ex.trans (ex_cut l.pre l.hd), rfl, l.hk' (ex_cut l.pre l.hd), fun _ h => .inl h, l.al⟩
    exact q xs a ws H' h5 h4 ⟨by rw [hix]; rfl, C.nd, fun k ce e => by simp at e, fun b hb => C'.hs b (by rw [l.hd]; exact hb), C.dj, C.tk' l'⟩ fresh h8 (flat_any h4 h9) l'
end
section
variable {K : PySem.W.Frag} {m : Ad} {H : Hp} {c : List Cell}
theorem hall (C : CR K H m c) : ∀ b ∈ m.hd ++ m.ix, ∃ o, H b = some o ∧ Mu o := fun b hb => by
  rcases List.mem_append.mp hb with z | z
  · exact C.hs b z
  · obtain ⟨k, hk⟩ := List.mem_iff_getElem?.mp z
    obtain ⟨ce, _, h2⟩ := C.some_at hk
    exact h2.mu
theorem Le.of_none {H' : Hp} (l : Le m.none H m.none H') : Le m H m H' := by
  have hex : Ex (hid m H) (hid m H') := by
    have := l.ex
    rw [hid_none, hid_none] at this
    exact this
  exact ⟨fun _ _ e => e, hex, rfl, fun b hb => (l.hk b (List.mem_append_left _ hb)).imp id fun z => ⟨z.1, fun q t => by
      have := z.2 q (t.of_hid (hid_none m H).symm)
      exact this.of_hid (hid_none m H')⟩, fun _ h => .inl h, l.al⟩
theorem CR.of_none {H' : Hp} (C : CR K H m c) (l : Le m.none H m.none H') : CR K H' m c := by
  have l' := l.of_none
  refine ⟨C.len, C.nd, fun k ce e => ?_, fun b hb => l'.hs hb (C.hs b hb), C.dj, C.tk' l'⟩
  · obtain ⟨a, h1, h2⟩ := C.at_ k ce e
    exact ⟨a, h1, h2.step l' fun o e' => l.kcell (List.mem_append_right _ (List.mem_of_getElem? h1)) h2 e'⟩
theorem sp_new {S : Pn} {np : Nat} {ds : List D} {vs : List V} {Φ : D → List Cell → Prop} {Q : VK} {E : XK} (C : CR K H m c) (r : RRL K H m ds vs) (hl : ds.length = np) (ok : okDs 0 ds = true) (hS : S ds fun xs => Φ (.cell c.length) (c ++ [.lst xs])) (q : KQ K H m Φ Q) : spN K np S vs H Q E := by
  have C0 : CR K H m.none [] := ⟨rfl, List.nodup_nil, fun k ce e => by simp at e, hall C, fun a ha => (by cases ha), C.tk_none⟩
  refine ⟨m.none, ds, _, hl, C0, ?_, hS, fun xs p ws H' hd hf C' hp hp' r' l => ?_⟩
  · show RL K [] (hid m.none H) ds vs
    rw [hid_none]
    exact RL.low (n := 0) (Ex.refl _) (fun k a hk => absurd hk (Nat.not_lt_zero _)) ds vs ok r
  · have l' := l.of_none
    have C1 := C.of_none l
    have hn := hid_new hp C
    have ex1 : Ex (hid m H) (hid (m.push p) H') := fun b o e => by
      have e1 := l'.ex b o e
      obtain ⟨⟨h1, h2⟩, h3⟩ := hid_some e1
      rw [hid_of (m := m.push p) ⟨fun z => ?_, h2⟩]
      · exact h3
      · rcases List.mem_append.mp (show b ∈ m.ix ++ [p] from z) with z | z
        · exact h1 z
        · have : b = p := by simpa using z
          subst this
          have := (hid_some e).2
          rw [hp] at this; cases this
    have l2 : Le m H (m.push p) H' := ⟨push_pre, ex1, rfl, fun b hb => (l.hk b (List.mem_append_left _ hb)).imp id fun z => ⟨z.1, fun q t => by
      have := z.2 q (t.of_hid (hid_none m H).symm)
      exact (this.of_hid (hid_none m H')).push hp' fun _ z => nomatch z⟩, fun a ha => (List.mem_append.mp (show a ∈ m.ix ++ [p] from ha)).elim .inl fun z => .inr (by
      have : a = p := by simpa using z
      subst this; exact hp), l'.al⟩
    have last : (m.push p).ix[c.length]? = some p := by
      show (m.ix ++ [p])[c.length]? = some p
      rw [← C.len]; simp
    refine q (.cell c.length) _ (.ref p) H' (m.push p) hd ⟨by simp [Ad.push, C.len], ?_, fun k ce e => ?_, fun b hb => C1.hs b hb, fun a ha => ?_, C.tk' l2⟩ ⟨p, last, rfl⟩ l2
    · show (m.ix ++ [p]).Nodup
      rw [List.nodup_append]
      refine ⟨C.nd, by simp, fun a ha b hb e => ?_⟩
      have : b = p := by simpa using hb
      subst this; subst e
      exact hn.1 ha
    · by_cases hk : k < c.length
      · rw [List.getElem?_append_left hk] at e
        obtain ⟨a, h1, h2⟩ := C.at_ k ce e
        exact ⟨a, push_pre k a h1, h2.step l2 fun o' e' => l.kcell (List.mem_append_right _ (List.mem_of_getElem? h1)) h2 e'⟩
      · have hk' : k = c.length := by
          have := (List.getElem?_eq_some_iff.mp e).1
          simp at this; omega
        subst hk'
        simp at e; subst e
        exact ⟨p, last, ws, hp', flat_any hf r'⟩
    · rcases List.mem_append.mp (show a ∈ m.ix ++ [p] from ha) with z | z
      · exact C.dj a z
      · have : a = p := by simpa using z
        subst this
        exact hn.2
end
section
variable {X : Cx} {CX : CXT} {k np : Nat} {f C fI : Addr} {fd : FuncData} {ps : List Str} {S : Pm} {Sn : Pn} {E : XK} {x : Str} {p pos apos : Pos} {e o : Expr} {es : List Expr} {ta tv : TD} {tas : TDs}
def dCallN (S : Pn) (np : Nat) (t : TDs) : TD := fun ρ c Φ => t ρ c fun ds c1 => ds.length = np ∧ okDs 0 ds = true ∧ S ds fun xs => Φ (.cell c1.length) (c1 ++ [.lst xs])
theorem pd_callN (F : FnOk X.prog X.w X.K X.mg X.base CX k f fd ps (spN X.K np Sn)) (hr : Room k X.A) (hm : X.mg x = some (.ref f)) (hk : PySem.W.keepIn X.K (.ref f) = true) (hb : Binds X.K fd ps []) (hx : Passes CX X E)
    (ha : PDs X (e :: es) tas) (hg : Gl X x := by rfl) (hdb : (x == ("__debug__" : Str)) = false := by decide) (he : starEach (e :: es) X.env = (false, eval e X.env) :: starEach es X.env := by rfl) (hpl : (backTo pos (starEach es X.env)).any (·.1) = false := by rfl) :
    PD X (.Call (.Name x p) (e :: es) [] pos) (dCallN Sn np tas) := PE.imp (pe_call F hr hg hm hk hb .nil hx ha hdb he hpl) fun σ H Q ⟨m, ρ, c, Φ, S', h, q⟩ =>
    ⟨m, ρ, c, _, S', h, fun ds c1 vs H1 m1 ⟨hl, ok, hc⟩ C1 R1 L1 => by show spN _ _ _ (_ ++ []) _ _ _; rw [List.append_nil]; exact sp_new C1 R1 hl ok hc (KQ.le (K := X.K) q L1)⟩

/-! ### objects: attributes, properties, the making -/
def lookF (f : Str) : List Str → List D → Option D
  | n :: ns, d :: ds => if f = n then some d else lookF f ns ds
  | _, _ => none
theorem lookF_at {K : PySem.W.Frag} {m : List Addr} {H : Hp} {f : Str} : ∀ {ns : List Str} {ds : List D} {fs : List (Str × V)} {d : D}, fs.map (·.1) = ns → RL K m H ds (fs.map (·.2)) → lookF f ns ds = some d → ∃ v, fs.lookup f = some v ∧ R K m H d v
  | n :: ns, d0 :: ds, (a, v) :: fs, d, e1, ⟨x, r, e2, h1, h2⟩, e => by
    simp only [List.map_cons, List.cons.injEq] at e1 e2
    obtain ⟨rfl, e1⟩ := e1
    obtain ⟨rfl, rfl⟩ := e2
    unfold lookF at e
    by_cases hf : f = a
    · rw [if_pos hf] at e; cases e
      exact ⟨v, by rw [hf]; simp [List.lookup], h1⟩
    · rw [if_neg hf] at e
      obtain ⟨u, h3, h4⟩ := lookF_at e1 h2 e
      refine ⟨u, ?_, h4⟩
      have hb : (f == a) = false := by simpa using hf
      simp only [List.lookup, hb]; exact h3
  | [], _, _, _, _, _, e => by simp [lookF] at e
  | _ :: _, [], _, _, _, _, e => by simp [lookF] at e
  | _ :: _, _ :: _, [], _, e1, _, _ => by simp at e1
/-- o.f of an object of the class at C -/
def dFld (C : Addr) (f : Str) (ta : TD) : TD := fun ρ c Φ => ta ρ c fun x c1 => match vw c1 x with
  | .ins C' ns ds => C' = C ∧ ∃ d, lookF f ns ds = some d ∧ Φ d c1
  | _ => False
theorem pd_fld {f : Str} (cl : Cls X.K C) (na : NoAttr X.K C f) (h : PD X e ta) (hb : attributeBase e f X.env (eval e X.env) = eval e X.env := by rfl) : PD X (.Attribute e f pos) (dFld C f ta) :=
  PE.imp (pe_fld h hb) fun σ H Q ⟨m, ρ, c, Φ, S, h, q⟩ =>
  ⟨m, ρ, c, _, S, h, fun x c1 u H1 m1 hx C1 R1 L1 => by
    have w := W.vw C1 R1
    revert hx w
    generalize vw c1 x = x'
    intro hx w
    cases x' <;> first | exact hx.elim | skip
    obtain ⟨rfl, d, hd, hΦ⟩ := hx
    obtain ⟨a, dx, fs, rfl, h1, h2, h3⟩ := w
    obtain ⟨v, h4, h5⟩ := lookF_at h2 h3 hd
    exact ⟨a, _, dx, fs, v, rfl, h1, cl, na, h4, q d c1 v H1 m1 hΦ C1 h5 L1⟩⟩
/-- o.f = e, o a mutable object -/
def setF (f : Str) (d : D) : List Str → List D → List Str × List D
  | n :: ns, x :: ds => if n = f then (n :: ns, d :: ds) else ((n :: (setF f d ns ds).1), (x :: (setF f d ns ds).2))
  | _, _ => ([f], [d])
theorem setF_at {K : PySem.W.Frag} {m : List Addr} {H : Hp} {f : Str} {d : D} {v : V} (r : R K m H d v) : ∀ {ns : List Str} {ds : List D} {fs : List (Str × V)}, fs.map (·.1) = ns → RL K m H ds (fs.map (·.2)) → (putF f v fs).map (·.1) = (setF f d ns ds).1 ∧ RL K m H (setF f d ns ds).2 ((putF f v fs).map (·.2))
  | [], ds, fs, e1, h => by
    have : fs = [] := by simpa using e1
    subst this
    exact ⟨rfl, v, [], rfl, r, rfl⟩
  | n :: ns, [], fs, e1, h => by
    have : fs = [] := List.map_eq_nil_iff.mp h
    subst this
    simp at e1
  | n :: ns, x :: ds, [], e1, _ => by simp at e1
  | n :: ns, x :: ds, (a, u) :: fs, e1, ⟨y, r', e2, h1, h2⟩ => by
    simp only [List.map_cons, List.cons.injEq] at e1 e2
    obtain ⟨rfl, e1⟩ := e1
    obtain ⟨rfl, rfl⟩ := e2
    have ih := setF_at (f := f) r e1 h2
    rw [show putF f v ((a, u) :: fs) = (if a = f then (a, v) :: fs else (a, u) :: putF f v fs) from rfl]
    unfold setF
    by_cases hf : a = f
    · rw [if_pos hf, if_pos hf]
      exact ⟨by simp [e1], v, _, rfl, r, h2⟩
    · rw [if_neg hf, if_neg hf]
      exact ⟨by simp [ih.1], u, _, rfl, h1, ih.2⟩
def dStF (C : Addr) (f : Str) (ta tv : TD) : TSD := fun De ρ c => tv ρ c fun d c1 => ta ρ c1 fun x c2 => ∃ k ns ds, x = .cell k ∧ c2[k]? = some (.obj C ns ds) ∧ ns.length < 1000 ∧ De.nx ρ (c2.set k (.obj C (setF f d ns ds).1 (setF f d ns ds).2))
theorem psd_stf {f : Str} {value : Expr} {pos' : Pos} (cl : Cls X.K C) (na : NoAttr X.K C f) (ha : PD X o ta) (hv : PD X value tv) (hs : swapsWith value (some (.Attribute o f pos')) pos.line X.env = pure false := by rfl) : PSD X (.Assign [.Attribute o f pos'] value pos) (dStF C f ta tv) :=
  PS.imp (ps_fld ha hv hs) fun Dn σ H ⟨m, ρ, c, De, S, h, n, r, b, k⟩ =>
  ⟨m, ρ, c, _, S, h, fun d c1 y H1 m1 hx C1 R1 L1 => ⟨m1, ρ, c1, _, S.step L1 C1, hx, fun x c2 u H2 m2 hy C2 R2 L2 => by
    obtain ⟨j, ns, ds, rfl, h1, h2, h3⟩ := hy
    obtain ⟨a, h4, rfl⟩ := R2
    obtain ⟨a', h5, dx, fs, h6, h7, h8⟩ := C2.at_ j _ h1
    rw [h4] at h5; cases h5
    have hm : a ∈ m2.ix := List.mem_of_getElem? h4
    have z1 := setF_at (f := f) (L2.r R1) h7 h8
    have z := cell_put (o := .ins C dx (putF f y fs)) (ce := .obj C (setF f d ns ds).1 (setF f d ns ds).2) C2 h4 ⟨dx, _, upd_same, z1.1, by show RL _ _ (hid m2 _) _ _; rw [hid_mut hm]; exact z1.2⟩
    exact ⟨a, C, dx, fs, rfl, h6, cl, na, by rw [← List.length_map (f := (·.1)), h7]; exact h2, n σ _ m2 ρ _ h3 ((S.step (L1.trans L2) C2).step z.2 z.1) ((L1.trans L2).trans z.2)⟩⟩⟩
/-- o.p, a property of the class at C -/
def dProp (C : Addr) (S : Pm) (ta : TD) : TD := fun ρ c Φ => ta ρ c fun x c1 => (∃ ns ds, x = .ins C ns ds) ∧ callP S [x] c1 Φ
theorem pd_prop {f : Str} {pn : Addr} {g : Addr} (cl : Cls X.K C) (hp : PropOf X.K C f pn g) (F : FnOk X.prog X.w X.K X.mg X.base CX k g fd ps (spD X.K 0 1 S)) (hr : Room (k + 1) X.A) (hb : Binds X.K fd ps []) (hx : Passes CX X.nox E) (h : PD X e ta)
    (hbs : attributeBase e f X.env (eval e X.env) = eval e X.env := by rfl) : PD X (.Attribute e f pos) (dProp C S ta) :=
  PE.imp (pe_prop h cl hp F hr hb .nil hx hbs) fun σ H Q ⟨m, ρ, c, Φ, S', h, q⟩ =>
  ⟨m, ρ, c, _, S', h, fun x c1 u H1 m1 hx C1 R1 L1 => by
    obtain ⟨⟨ns, ds, rfl⟩, hc⟩ := hx
    obtain ⟨a, dx, fs, rfl, h1, h2, h3⟩ := W.of R1
    have r1 : RRL X.K H1 m1 [.ins C ns ds] [.ref a] := by
      show RL _ _ _ [_] [_]
      exact ⟨.ref a, [], rfl, R1, rfl⟩
    exact ⟨a, dx, fs, rfl, h1, sp_pure C1 r1 rfl hc (KQ.le (K := X.K) q L1)⟩⟩
end
end Cw

namespace Cw
open PySem PySem.Spec PyProof.Rows L2

/-! ### own ==, !=, len, str and truth of an object -/
section
variable {prog : Program} {w : World} {A : Around} {E : Value → Shared → Prop} {s : Shared} {K : PySem.W.Frag} {x C f : Addr} {ox : Obj} {od : Option Obj} {b : Value}
open Builtin in
open Builtin in
end

open Builtin in
section
variable {X : Cx} {CX : CXT} {k : Nat} {C f : Addr} {fd : FuncData} {ps : List Str} {sp : Sp} {E : XK} {pos : Pos} {pins : List (Addr × Obj)} {σ : L2.St} {H : Hp} {s : Shared} {Q : VK} {vs : List V} {us : List Value}
theorem v1 (a : Addr) : Vals [V.ref a] [Value.ref a] := .cons rfl .nil
theorem call_own {A : Around} (sb : Sub X k A) (I : Inv X pins σ H s) (F : FnOk X.prog X.w X.K X.mg X.base CX k f fd ps sp) (hb : Binds X.K fd ps []) (hx : Passes CX X E) (r2 : Vals vs us) (hsp : sp vs H Q E) :
    wpAny (model X.prog X.w) A (call (.ref f) us) (EP X pins σ Q) X.xe s := by
  have e0 : Env0 X.prog X.w X.K X.mg X.base A X.stack s H := by
    have e := I.env0
    exact ⟨by rw [sb.fr]; exact e.frames, e.mod, e.bs, e.bsz, e.funs, e.frf, e.hok, e.bare⟩
  have hl := F.len _ _ _ _ hsp
  refine wpAny_call (codeAny_mono (F.run A X.stack s H ⟨us, []⟩ us vs _ E sb.room e0 (by
    have := hb s us I.kIn (by rw [List.append_nil, ← r2.length]; exact hl)
    simpa using this) r2 hsp) fun r s' hq => ?_)
  cases r with
  | error e => exact hx pins σ H s e s' I hq
  | ok fl =>
    cases fl with
    | ret w =>
      obtain ⟨z, H', I', rz, ez⟩ := I.after hq
      exact ⟨z, H', I', rz, ez⟩
    | next => exact False.elim hq
    | brk => exact False.elim hq
    | cont => exact False.elim hq
def rOwn1 (C : Addr) (sp : Sp) (E : XK) (g : V → VK → Hp → Prop) : List V → Hp → VK → Prop := fun xs H Q => ∃ a dx fs, xs = [.ref a] ∧ H a = some (.ins C dx fs) ∧ sp [.ref a] H (fun v H' => g v Q H') E
theorem call_strO (F : FnOk X.prog X.w X.K X.mg X.base CX k f fd ps sp) (hs : PySem.W.findIn X.K (.ref C) "__str__" = some (some (.ref f))) (hf : PySem.W.isFn X.K (.ref f) = true) (hb : Binds X.K fd ps []) (hx : Passes CX X E) (hr : Room (k + 2) X.A) :
    CallR X (.type "str") (rOwn1 C sp E fun v Q H => ∃ x, v = .str x ∧ Q (.str x) H) := by
  intro pins s σ H xs us Q I r h
  obtain ⟨a, dx, fs, rfl, ha, h⟩ := h
  obtain rfl := Vals.ref1 r
  obtain ⟨mA, J, _⟩ := ins_get I.hok ha
  obtain ⟨od, J, _⟩ := J.look
  refine PySem.W.kso_call hr.in1.in1.units0 I.kIn J hs hf (wpAny_mono (call_own ⟨hr.in1.in1, rfl⟩ I F hb hx (v1 a) h) (fun v s' q => ?_) fun _ _ e => e)
  obtain ⟨z, H', I', rz, x, rfl, q⟩ := q
  obtain ⟨t, rfl⟩ := rz
  exact ⟨.str x, H', I', ⟨_, rfl⟩, q⟩
end
end Cw

namespace Cw
open PySem PySem.Spec PyProof.Rows L2

/-! ### the making of an object -/
section
variable {K : PySem.W.Frag} {m : Ad} {H : Hp} {c : List Cell}
def Ad.mk1 (m : Ad) (x : Addr) : Ad := ⟨[x], m.hd ++ m.ix⟩
/-- what __init__ promises of a new object, over data -/
def callI (C : Addr) (S : Pm) (ds : List D) (c : List Cell) (Φ : D → List Cell → Prop) : Prop := okDs 0 ds = true ∧ S [.obj C [] []] (.cell 0 :: ds) fun d c' => match c' with
  | [.obj C' ns es] => d = .non ∧ C' = C ∧ okDs 0 es = true ∧ Φ (.ins C ns es) c
  | _ => False
end
section
variable {X : Cx} {CX : CXT} {k np : Nat} {f C : Addr} {fd : FuncData} {ps ks : List Str} {S : Pm} {E : XK} {x : Str} {p pos : Pos} {e : Expr} {es : List Expr} {kws : List Keyword} {tas tks : TDs}
end
section
variable {X : Cx} {CX : CXT} {k : Nat} {f C : Addr} {fd : FuncData} {ps : List Str} {S : Pm} {E : XK} {x : Str} {p pos : Pos} {a b e : Expr} {ta tb : TD}
def dOwn1 (C : Addr) (S : Pm) (g : D → List Cell → (D → List Cell → Prop) → Prop) (ta : TD) : TD := fun ρ c Φ => ta ρ c fun x c1 => (∃ ns ds, x = .ins C ns ds) ∧ callP S [x] c1 fun d c2 => g d c2 Φ
def gTxt : D → List Cell → (D → List Cell → Prop) → Prop := fun d c Φ => ∃ x, d = .str x ∧ Φ (.str x) c
def only1 (P : D → List Cell → Prop) : List D → List Cell → Prop
  | [x], c => P x c
  | _, _ => False
theorem lift_own1 {K : PySem.W.Frag} {g : D → List Cell → (D → List Cell → Prop) → Prop} {g' : V → VK → Hp → Prop} {σ : L2.St} {H : Hp} {Q : VK}
    (hg : ∀ d c Φ w H m Q, g d c Φ → CR K H m c → RR K H m d w → KQ K H m Φ Q → g' w Q H) (h : lift K (dOwn1 C S g ta) σ H Q) : tCB (rOwn1 C (spD K 0 1 S) E g') (liftA K (dCons ta dNil)) σ H Q := by
  obtain ⟨m, ρ, c, Φ, S', h, q⟩ := h
  refine ⟨m, ρ, c, only1 fun x c1 => (∃ ns ds, x = D.ins C ns ds) ∧ callP S [x] c1 fun d c2 => g d c2 Φ, S', h, fun xs c1 us H1 m1 hx C1 R1 L1 => ?_⟩
  · cases xs with
    | nil => exact hx.elim
    | cons x t => cases t with
      | cons _ _ => exact hx.elim
      | nil =>
    obtain ⟨⟨ns, ds, rfl⟩, hc⟩ := hx
    have R1' := R1
    obtain ⟨u, r, rfl, R2, e⟩ := R1'
    cases (show r = [] from e)
    obtain ⟨a, dx, fs, rfl, h1, _⟩ := R2
    exact ⟨a, dx, fs, rfl, (hid_some h1).2, sp_pure C1 R1 rfl hc fun d c' w H' m' hΦ C' r' l' => hg d c' Φ w H' m' Q hΦ C' r' (KQ.le (K := K) q (L1.trans l'))⟩
theorem pd_strO (F : FnOk X.prog X.w X.K X.mg X.base CX k f fd ps (spD X.K 0 1 S)) (hs : PySem.W.findIn X.K (.ref C) "__str__" = some (some (.ref f))) (hf : PySem.W.isFn X.K (.ref f) = true) (hb : Binds X.K fd ps []) (hx : Passes CX X E) (hr : Room (k + 2) X.A)
    (ha : PD X e ta) (hm : X.mg "str" = none) (hg : Gl X "str" := by rfl) (he : starEach [e] X.env = (false, eval e X.env) :: starEach [] X.env := by rfl) (hpl : (backTo pos (starEach [] X.env)).any (·.1) = false := by rfl) :
    PD X (.Call (.Name "str" p) [e] [] pos) (dOwn1 C S gTxt ta) := PE.imp (pe_callTy (call_strO F hs hf hb hx hr) hg hm boot_str (pds_cons ha pds_nil he) (by decide) (by decide) he hpl) fun σ H Q h =>
    lift_own1 (fun d c Φ w H m Q ⟨x, hd, hΦ⟩ C r q => by subst hd; cases (show w = _ from r); exact ⟨x, rfl, q.pure C hΦ rfl⟩) h
end
end Cw

namespace Cw
open PySem PySem.Spec PyProof.Rows L2

/-! ### comprehensions, by what each turn says -/
theorem inner_same {c : List Cell} {acc : List D} {y : D} {Q : List Cell → Prop} (q : Q c) : inner c.length acc y (c ++ [.lst acc]) Q := by
  refine ⟨by simp, ?_⟩
  have e : Nat.beq (c ++ [Cell.lst acc]).length (c.length + 1) = true := by
    rw [List.length_append]; exact Nat.beq_refl _
  rw [e]
  show Q _
  rw [List.take_left']
  · exact q
  · rfl
theorem okDs_app {n : Nat} : ∀ {a b : List D}, okDs n a = true → okDs n b = true → okDs n (a ++ b) = true
  | [], _, _, h => h
  | d :: a, b, h, h2 => by
    have h' : okD n d = true ∧ okDs n a = true := by simpa [okDs] using h
    show okDs n (d :: (a ++ b)) = true
    simp only [okDs, Bool.and_eq_true]
    exact ⟨h'.1, okDs_app h'.2 h2⟩
mutual
theorem okD_up {n : Nat} : ∀ d : D, okD n d = true → okD (n + 1) d = true
  | .non, h => rfl
  | .bl _, h => rfl
  | .int _, h => rfl
  | .str _, h => rfl
  | .tup ds, h => by
    have h : okDs n ds = true := by simpa [okD] using h
    simpa [okD] using okDs_up ds h
  | .lst ds, h => by
    have h : okDs n ds = true := by simpa [okD] using h
    simpa [okD] using okDs_up ds h
  | .fl ds, h => by
    have h : okDs n ds = true := by simpa [okD] using h
    simpa [okD] using okDs_up ds h
  | .cell j, h => by simp [okD] at h ⊢; omega
  | .ins _ _ ds, h => by
    have h : okDs n ds = true := by simpa [okD] using h
    simpa [okD] using okDs_up ds h
  | .dct _ ds, h => by
    have h : okDs n ds = true := by simpa [okD] using h
    simpa [okD] using okDs_up ds h
  | .dcT _ ds, h => by
    have h : okDs n ds = true := by simpa [okD] using h
    simpa [okD] using okDs_up ds h
  | .exc _ _ _ _ ds, h => by
    have h : okDs n ds = true := by simpa [okD] using h
    simpa [okD] using okDs_up ds h
  | .raw _, h => by first | rfl | exact h | simp [okD] at h ⊢
theorem okDs_up {n : Nat} : ∀ ds : List D, okDs n ds = true → okDs (n + 1) ds = true
  | [], h => rfl
  | d :: ds, h => by
    have h' : okD n d = true ∧ okDs n ds = true := by simpa [okDs] using h
    simp only [okDs, Bool.and_eq_true]
    exact ⟨okD_up d h'.1, okDs_up ds h'.2⟩
end
theorem okDs_one {n : Nat} {d : D} (h : okD n d = true) : okDs n [d] = true := by simp [okDs, h]
theorem lc_filter {i : Nat} {tt : TDt} {te : TD} {ρ : Env} {c : List Cell} {Φ : List D → List Cell → Prop} (g : D → Bool) (f : D → D) (hc : okCs c.length c = true) : ∀ (ds acc : List D),
    (∀ d ∈ ds, ∀ acc (Ψ : Bool → List Cell → Prop), okDs c.length acc = true → Ψ (g d) (c ++ [.lst acc]) → tt (ρ.set i (some d)) (c ++ [.lst acc]) Ψ) →
    (∀ d ∈ ds, g d = true → okD c.length (f d) = true ∧ ∀ acc (Ψ : D → List Cell → Prop), okDs c.length acc = true → Ψ (f d) (c ++ [.lst acc]) → te (ρ.set i (some d)) (c ++ [.lst acc]) Ψ) →
    okDs c.length acc = true → acc.length + ds.length ≤ sizeLine → Φ (acc ++ (ds.filter g).map f) c → lcD i tt te ds acc ρ c Φ
  | [], acc, _, _, h, _, q => ⟨hc, h, by simpa using q⟩
  | d :: ds, acc, ht, he, h, hl, q => by
    have hl' : acc.length + (ds.length + 1) ≤ sizeLine := hl
    refine ht d List.mem_cons_self acc _ h ?_
    cases hg : g d with
    | true =>
      show te _ _ _
      obtain ⟨hk, hte⟩ := he d List.mem_cons_self hg
      refine hte acc _ h ⟨by omega, inner_same ?_⟩
      refine lc_filter g f hc ds _ (fun x hx => ht x (List.mem_cons_of_mem _ hx)) (fun x hx => he x (List.mem_cons_of_mem _ hx)) (okDs_app h (okDs_one hk)) (by rw [List.length_append]; show acc.length + 1 + ds.length ≤ _; omega) ?_
      rw [List.filter_cons_of_pos (by rw [hg])] at q
      simpa using q
    | false =>
      show inner _ _ _ _ _
      refine inner_same ?_
      refine lc_filter g f hc ds _ (fun x hx => ht x (List.mem_cons_of_mem _ hx)) (fun x hx => he x (List.mem_cons_of_mem _ hx)) h (by omega) ?_
      rw [List.filter_cons_of_neg (by rw [hg]; decide)] at q
      exact q
theorem lc_map {i : Nat} {te : TD} {ρ : Env} {c : List Cell} {Φ : List D → List Cell → Prop} (f : D → D) (hc : okCs c.length c = true) (ds : List D)
    (he : ∀ d ∈ ds, okD c.length (f d) = true ∧ ∀ acc (Ψ : D → List Cell → Prop), okDs c.length acc = true → Ψ (f d) (c ++ [.lst acc]) → te (ρ.set i (some d)) (c ++ [.lst acc]) Ψ) (hl : ds.length ≤ sizeLine) (q : Φ (ds.map f) c) : lcD i dYes te ds [] ρ c Φ :=
  lc_filter (fun _ => true) f hc ds [] (fun d _ acc Ψ _ h => h) (fun d hd _ => he d hd) rfl (by simpa using hl) (by
    have : ds.filter (fun _ => true) = ds := List.filter_eq_self.mpr fun _ _ => rfl
    rw [this]; simpa using q)
theorem forD_inv {g : TGD} {tb : TSD} {De : DEnds} (I : List D → Env → List Cell → Prop) (fin : ∀ ρ c, I [] ρ c → De.nx ρ c)
    (step : ∀ d ds ρ c (F : Env → List Cell → Prop), (∀ ρ c, I ds ρ c → F ρ c) → I (d :: ds) ρ c → g d ρ c fun ρ1 c1 => tb ⟨F, De.rt, De.nx, F⟩ ρ1 c1) : ∀ ds ρ c, I ds ρ c → forD g tb De ds ρ c
  | [], ρ, c, h => fin ρ c h
  | d :: ds, ρ, c, h => step d ds ρ c _ (fun ρ c h => forD_inv I fin step ds ρ c h) h
end Cw

namespace Cw
open PySem PySem.Spec PyProof.Rows L2

/-! ### repr of data, where no repr runs around it -/
structure Showy (p : PyData) : Prop where
  sh : p.showable = true
  nd : p.hasDict = false
  dp : p.depth ≤ 60
  sz : p.shown.length ≤ sizeLine
section
variable {X : Cx}
end
section
variable {X : Cx} {e : Expr} {ta : TD} {pos pp : Pos}
end
end Cw

namespace Cw
open PySem PySem.Spec PyProof.Rows L2

/-! ### defs where no repr runs around them -/
structure FnG (P : Program) (w : World) (K : PySem.W.Frag) (mg : Str → Option Value) (base : Heap) (k : Nat) (f : Addr) (fd : FuncData) (ps : List Str) (sp : Sp) : Prop where
  ln : ∀ vs H Q E, sp vs H Q E → vs.length = ps.length
  rn : ∀ (A : Around) (outer : List PySem.Env) (s : Shared) (H : Hp) (args : Args) (us : List Value) (vs : List V) (Q : VK) (E : XK), A.guards = some [] → Room k A → Env0 P w K mg base A outer s H → BindsTo s fd args (ps.zip us) → Vals vs us → sp vs H Q E →
    codeAny (model P w) A (.call (.ref f) args) (L2.CR CX0 outer P w H s Q E) s
section
variable {P : Program} {w : World} {K : PySem.W.Frag} {mg : Str → Option Value} {base : Heap}
theorem fnG {x qual : Str} {st : Stmt} {f : Addr} {fd : FuncData} {N ps : List Str} {k : Nat} {sp : Sp} (F : Fun K x qual st f fd) (Sc : FnScope N ps (defScope st)) (ln : ∀ vs H Q E, sp vs H Q E → vs.length = ps.length)
    (hbody : ∀ (cdv : Value) (A : Around) (outer : List PySem.Env) (s : Shared) (H : Hp) (vs : List V) (Q : VK) (E : XK), A.guards = some [] → Room k (A.deeper (envOfC qual (defScope st) s.heap.objs.size f cdv)) → sp vs H Q E →
      ∃ t, PSs (cxOf CX0 P w K mg base N qual (defScope st) f cdv A outer s H E).nox (defBody st) t ∧ t { nx := fun _ H' => Q .non H', rt := Q } (L2.start N vs) H) : FnG P w K mg base (k + 1) f fd ps sp := by
  obtain ⟨oc, od, kV, doc, pm, an, cdv, ct, osl, rfl, lk, hcd⟩ := F.ex
  refine ⟨ln, fun A outer s H args us vs Q E hgu hr e0 hb r hsp => ?_⟩
  have inK : K.In s.heap := e0.mod.kin.keeps fun b o e => (e0.bs b o e).1
  have nl : s.heap.NoLimit := e0.mod.nolimit.keeps fun b o e => (e0.bs b o e).1
  obtain ⟨t, ht', hq⟩ := hbody cdv A outer s H vs Q E hgu (hr.deeper _) hsp
  have ht := ht'.nox
  have kinds : ∀ y ∈ ps.zip us, (defScope st).names.lookup y.1 = some .local ∨ ((defScope st).names.lookup y.1 = some .cell ∧ ((cellsFrom (s.heap.objs.size + 1) (defScope st).names []).lookup y.1).isSome = true) := fun ⟨n, v⟩ hy => (Sc.par n (List.of_mem_zip hy).1).imp id fun q => ⟨q, PySem.W.cellsFrom_some _ _ _ (.inl q)⟩
  refine codeAny_call_function hr.depth (inK _ _ lk) rfl Sc.co Sc.gen rfl (PySem.W.codeRec_of inK hcd) (hb _ _ _ _ (wpAny_newFunctionEnv_cells Sc.kind kinds fun env he s1 x => ?_))
  subst he
  refine ⟨nl.keeps x.toInCall.keep, codeAny_func ?_⟩
  have I : Inv (cxOf CX0 P w K mg base N qual (defScope st) f cdv A outer s H E) [] (L2.start N vs) H s1 := inv_start Sc hr.hd e0 (ln _ _ _ _ hsp) r x
  refine wpAny_mono (ht.run [] s1 (L2.start N vs) H _ I hq) (fun fl s' hs => ?_) fun e s' hs => hs
  cases fl with
  | ret u =>
    obtain ⟨v, σ', H', J, rv, q⟩ := hs
    exact ⟨v, H', J.os, J.bare, J.base, J.hok, rv, q⟩
  | next =>
    obtain ⟨σ', H', J, q⟩ := hs
    exact ⟨V.non, H', J.os, J.bare, J.base, J.hok, rfl, q⟩
  | brk => exact hs.elim fun _ z => z.elim fun _ z => z.2.elim
  | cont => exact hs.elim fun _ z => z.elim fun _ z => z.2.elim
end
section
variable {X : Cx} {k np n0 : Nat} {f : Addr} {fd : FuncData} {ps : List Str} {sp : Sp} {S : Pm} {E : XK} {x : Str} {p pos : Pos} {e : Expr} {es : List Expr} {t : TA} {tas : TDs}
theorem pe_callG (F : FnG X.prog X.w X.K X.mg X.base k f fd ps sp) (hgu : X.A.guards = some []) (hr : Room k X.A) (hg : Gl X x) (hm : X.mg x = some (.ref f)) (hk : PySem.W.keepIn X.K (.ref f) = true) (hb : Binds X.K fd ps []) (hx : Passes CX0 X E)
    (ha : PA X (e :: es) t) (hdb : (x == ("__debug__" : Str)) = false) (he : starEach (e :: es) X.env = (false, eval e X.env) :: starEach es X.env) (hpl : (backTo pos (starEach es X.env)).any (·.1) = false) :
    PE X (.Call (.Name x p) (e :: es) [] pos) (tCall sp [] E t) := ⟨fun pins s σ H Q I h => by
  refine wpAny_Call_Name_kw (ld_glob I hg hm (PySem.W.callWith_K (h₀ := X.base) I.ok.mod.kin hk (thn (ha.run pos pins s σ H _ I h) fun us s1 ⟨vs, H1, I1, r, q⟩ => ⟨I1.kIn, ?_⟩) he hpl) hdb)
  have q : sp vs H1 Q E := by simpa using q
  have hl : us.length = ps.length := by rw [← r.length]; exact F.ln _ _ _ _ q
  have bt : BindsTo s1 fd ⟨us, []⟩ (ps.zip us) := by simpa using hb s1 us I1.kIn (by simpa using hl)
  refine wpAny_call (codeAny_mono (F.rn X.A X.stack s1 H1 ⟨us, []⟩ us vs Q E hgu hr I1.env0 bt r q) fun z s' hq => ?_)
  cases z with
  | error e => exact hx pins σ H1 s1 e s' I1 hq
  | ok fl =>
    cases fl with
    | ret u => exact I1.after hq
    | next => exact False.elim hq
    | brk => exact False.elim hq
    | cont => exact False.elim hq⟩
theorem pd_callMG (F : FnG X.prog X.w X.K X.mg X.base k f fd ps (spD X.K 1 np S)) (hgu : X.A.guards = some []) (hr : Room k X.A) (hm : X.mg x = some (.ref f)) (hk : PySem.W.keepIn X.K (.ref f) = true) (hb : Binds X.K fd ps []) (hx : Passes CX0 X E)
    (ha : PDs X (e :: es) tas) (hg : Gl X x := by rfl) (hdb : (x == ("__debug__" : Str)) = false := by decide) (he : starEach (e :: es) X.env = (false, eval e X.env) :: starEach es X.env := by rfl) (hpl : (backTo pos (starEach es X.env)).any (·.1) = false := by rfl) :
    PD X (.Call (.Name x p) (e :: es) [] pos) (dCallM S np tas) := PE.imp (pe_callG F hgu hr hg hm hk hb hx ha hdb he hpl) fun σ H Q ⟨m, ρ, c, Φ, S', h, q⟩ =>
    ⟨m, ρ, c, _, S', h, fun ds c1 vs H1 m1 ⟨hl, hc⟩ C1 R1 L1 => by show spD _ _ _ _ (_ ++ []) _ _ _; rw [List.append_nil]; exact sp_one C1 R1 hl hc (KQ.le (K := X.K) q L1)⟩
end
section
variable {P : Program} {w : World} {K : PySem.W.Frag} {mg : Str → Option Value} {base : Heap}
theorem fnGD {x qual : Str} {st : Stmt} {f : Addr} {fd : FuncData} {N ps : List Str} {k n0 : Nat} {S : Pm} (F : Fun K x qual st f fd) (Sc : FnScope N ps (defScope st))
    (hbody : ∀ (cdv : Value) (A : Around) (outer : List PySem.Env) (s : Shared) (H : Hp) (E : XK), A.guards = some [] → Room k (A.deeper (envOfC qual (defScope st) s.heap.objs.size f cdv)) →
      ∃ ts, PSDs (cxOf CX0 P w K mg base N qual (defScope st) f cdv A outer s H E).nox (defBody st) ts ∧
        ∀ c ds Φ, c.length = n0 → ds.length = ps.length → S c ds Φ → ts ⟨fun _ c' => retD n0 Φ .non c', retD n0 Φ, fun _ _ => False, fun _ _ => False⟩ (startD N ds) c) :
    FnG P w K mg base (k + 1) f fd ps (spD K n0 ps.length S) := by
  refine fnG F Sc (fun vs H Q E ⟨m, c, ds, Φ, h1, h2, C, r, _⟩ => by rw [← RL.length r]; exact h2) (fun cdv A outer s H vs Q E hgu hr ⟨m, c, ds, Φ, h1, h2, C, r, hS, q⟩ => ?_)
  obtain ⟨ts, hp, ht⟩ := hbody cdv A outer s H E hgu hr
  have hn : m.ix.length = n0 := by rw [C.len]; exact h1
  exact ⟨_, hp, m, startD N ds, c, _, start_slots C r, ht c ds Φ h1 h2 hS, fun σ' H' m' ρ' c' h' S' l => ret_ok hn q h' S'.cr rfl l, fun d c' v H' m' h' C' r' l => ret_ok hn q h' C' r' l, fun _ _ _ _ _ z => z.elim, fun _ _ _ _ _ z => z.elim⟩
end
/-! ### the making by name -/
theorem PK.imp {X : Cx} {kws : List Keyword} {t t' : TA} (h : PK X kws t) (i : ∀ σ H Q, t' σ H Q → t σ H Q) : PK X kws t' := ⟨fun pos pins s σ H Q I w => h.run pos pins s σ H Q I (i σ H Q w)⟩
section
variable {X : Cx} {CX : CXT} {k np : Nat} {f C : Addr} {fd : FuncData} {ps ks : List Str} {S : Pm} {E : XK} {x : Str} {p pos kpos : Pos} {e : Expr} {kws : List Keyword} {ta : TD} {tas tks : TDs} {nm : Option Str}
theorem pdk_nil : PK X [] (liftA X.K dNil) := PK.imp pk_nil fun σ H Q ⟨m, ρ, c, Φ, S, h, q⟩ => q [] c [] H m h S.cr rfl (Le.refl _ _)
theorem pdk_cons (h1 : PD X e ta) (h2 : PK X kws (liftA X.K tas)) : PK X (⟨nm, e, kpos⟩ :: kws) (liftA X.K (dCons ta tas)) := PK.imp (pk_cons h1 h2) fun σ H Q ⟨m, ρ, c, Φ, S, h, q⟩ =>
  ⟨m, ρ, c, _, S, h, fun d c1 v H1 m1 hx C1 R1 L1 => ⟨m1, ρ, c1, _, S.step L1 C1, hx, fun ds c2 vs H2 m2 hy C2 R2 L2 => q (d :: ds) c2 (v :: vs) H2 m2 hy C2 ⟨v, vs, rfl, L2.r R1, R2⟩ (L1.trans L2)⟩⟩
end
/-! ### three names at once -/
end Cw

namespace Cw
open PySem PySem.Spec PyProof.Rows L2

/-! ### the law's own entry, for FnG -/
abbrev OutG (s₁ : Shared) : Result → Shared → Prop := fun r s' => r = .ok (.ret (.bool true)) ∧ OldK s₁.heap s'.heap ∧ s'.os = s₁.os ∧ AllBare s'.gens
section
variable {P : Program} {w : World} {K : PySem.W.Frag} {mg mb : Str → Option Value} {k : Nat} {fa a : Addr} {fd : FuncData} {x : Str} {sp : Sp} {s₁ : Shared} {vs : List Value} {ns : List Int}
end
end Cw

namespace Cw
open PySem PySem.Spec PyProof.Rows L2

/-! ### sorted({e for x in t}), e texts -/
def dSortSet (ti : TDs) (i : Nat) (te : TD) : TD := fun ρ c Φ => ti ρ c fun ds c1 => ∃ ys : List Str, ys.length = ds.length ∧ ds.length < 64 ∧
  (∀ (j : Nat) d y, ds[j]? = some d → ys[j]? = some y → ∀ Ψ : D → List Cell → Prop, Ψ (.str y) c1 → te (ρ.set i (some d)) c1 Ψ) ∧ ∀ zs : List Str, zs.Nodup → sortedS zs = true → (∀ x, x ∈ zs ↔ x ∈ ys) → Φ (.lst (zs.map .str)) c1
end Cw

namespace Cw
open PySem PySem.Spec PyProof.Rows L2 PySem.Froz

/-! ### a set of texts that can be walked -/
theorem tailTx_ris {ep : Nat} {es : Array (Int × Value)} {t : SetTable} {b : Bool} (r : Ris t.place.toList) : Ris (tailTx ep es t b).2.2.place.toList := by
  unfold tailTx
  split
  · exact relayAll_ris _ _ _
  · exact r
theorem tailTx_led {ep : Nat} {es : Array (Int × Value)} {t : SetTable} {b : Bool} : (tailTx ep es t b).2.2.led = t.led := by
  unfold tailTx
  split
  · exact relayAll_led _ _ _
  · rfl
theorem addTx_ris {h : Int} {v : Value} {D : SD} (r : Ris D.2.2.place.toList) : Ris (addTx h v D).2.2.place.toList := by
  unfold addTx
  refine tailTx_ris ?_
  have := layNew_ris D.2.2 D.1 h v r
  split <;> exact this
theorem addTx_led {h : Int} {v : Value} {D : SD} : (addTx h v D).2.2.led = D.2.2.led := by
  unfold addTx
  rw [tailTx_led]
  have := layNew_led D.2.2 D.1 h v
  split <;> exact this
/-- at a stands a set with just the texts l, no two alike, that can be walked -/
structure TxA (P : Program) (w : World) (h : Heap) (a : Addr) (l : List Str) : Prop where
  ex : ∃ D : SD, h.get? a = some (sObj "set" D) ∧ TxOk P w D l ∧ Ris D.2.2.place.toList ∧ (w.params.followText "set-order" = true ∨ D.2.2.led = true)
  nd : l.Nodup
section
variable {P : Program} {w : World} {A : Around} {E : Value → Shared → Prop} {s : Shared} {a : Addr} {l : List Str} {k : Str} {tk : Tok}
theorem TxA.put (R : TxA P w s.heap a l) (hb : l.length + 1 < scanBound) {Q : Bool → Shared → Prop}
    (h1 : k ∉ l → ∀ h', Heap.SameBut a s.heap h' → TxA P w h' a (k :: l) → Q true { s with heap := h' }) (h2 : k ∈ l → Q false s) :
    wpAny (model P w) A (setAddHashed a (.str k tk) (hashStr w k)) Q E s := by
  obtain ⟨⟨D, ho, F, r, le⟩, nd⟩ := R
  by_cases hk : k ∈ l
  · obtain ⟨es, ep, t⟩ := D
    have hd : (sObj "set" (es, ep, t)).data = .set es ep t := rfl
    have few : es.size < scanBound := by
      have := F.sz
      have this : es.size = l.length := this
      omega
    unfold setAddHashed setAddHashedIn
    refine wpAny_holding (wpAny_bind (wpAny_setState_of ho hd F.fit ?_))
    dsimp only
    rw [byScan_of rfl few F.el]
    simp only [↓reduceIte]
    unfold setAddByScan
    refine wpAny_bind (wpAny_bind (wpAny_rule (wpAny_bind (wpAny_setScan_of (knd := PySem.strKind P w) (k := k) (is_str k tk) ho hd F.fit F.el ?_))))
    cases e : List.findIdx? (fun e => (PySem.strKind P w).is k e.2) es.toList with
    | some j => exact wpAny_pure (wpAny_pure (h2 hk))
    | none =>
      obtain ⟨x, hx, hi⟩ := (F.mem k).mp hk
      have := List.findIdx?_eq_none_iff.mp e x hx
      rw [hi] at this; cases this
  · refine add_x ho F hk hb (h1 hk _ (Heap.SameBut.update s.heap a _) ⟨⟨addTx (hashStr w k) (.str k tk) D, ?_, add_ok tk F, addTx_ris r, by rw [addTx_led]; exact le⟩, List.nodup_cons.mpr ⟨hk, nd⟩⟩)
    exact Heap.get?_update_self _ ho rfl
open Builtin in
theorem TxA.add (R : TxA P w s.heap a l) (hb : l.length + 1 < scanBound) {Q : Value → Shared → Prop}
    (h1 : k ∉ l → ∀ h', Heap.SameBut a s.heap h' → TxA P w h' a (k :: l) → Q .none { s with heap := h', toks := s.toks + 1 }) (h2 : k ∈ l → Q .none { s with toks := s.toks + 1 }) :
    wpAny (model P w) A (call (.builtin "set.add") [.ref a, .str k tk]) Q E s := by
  obtain ⟨D, ho, _⟩ := R.ex
  refine wpAny_call_entry PySem.F.slot_set_add ⟨_, ho, rfl⟩ PySem.F.entry_set_add ?_ (PySem.F.args_set_add_2 _ _)
  unfold Builtin.«set.add» Builtin.Frozenset.oneOther
  simp only [List.isEmpty_nil, bind_assoc]
  unfold Builtin.Frozenset.addrOf setAdd
  refine wpAny_bind (wpAny_pure ?_)
  try dsimp only
  refine wpAny_bind (wpAny_pure ?_)
  try dsimp only
  refine wpAny_bind (wpAny_holding (wpAny_bind ((PySem.strKind P w).pyHash (is_str k tk) ?_)))
  refine TxA.put (s := { s with toks := s.toks + 1 }) R hb (fun hk h' sb r => ?_) fun hk => ?_
  · exact wpAny_pure ⟨_, rfl, h1 hk h' sb r⟩
  · exact wpAny_pure ⟨_, rfl, h2 hk⟩
end
/-- tracked -/
def TxO (P : Program) (w : World) (a : Addr) (l : List Str) : HO := .ext fun h => TxA P w h a l
theorem TxA.keep {P : Program} {w : World} {h h' : Heap} {a : Addr} {l : List Str} (R : TxA P w h a l) (k : ∀ o, h.get? a = some o → h'.get? a = some o) : TxA P w h' a l := by
  obtain ⟨⟨D, ho, r⟩, nd⟩ := R
  exact ⟨⟨D, k _ ho, r⟩, nd⟩
theorem TxA.fresh {P : Program} {w : World} {h : Heap} : TxA P w (h.push { cls := .type "set", dict := none, data := .set #[] 0 (.fresh 0 0 (!w.params.followText "set-order")) }) h.objs.size [] :=
  ⟨⟨(#[], 0, .fresh 0 0 (!w.params.followText "set-order")), Heap.get?_push_size _ rfl, TxOk.nil (by rfl), List.Pairwise.nil, by
    show _ ∨ (!w.params.followText "set-order") = true
    cases w.params.followText "set-order"
    · exact .inr rfl
    · exact .inl rfl⟩, List.nodup_nil⟩
theorem txO_new {P : Program} {w : World} {H : Hp} {h : Heap} {a : Addr} {l : List Str} (R : TxA P w h a l) : ObjOk P w H h a (TxO P w a l) := by
  obtain ⟨D, ho, _⟩ := R.ex
  exact ⟨R, ⟨_, ho⟩, fun _ _ p k => p.keep k⟩
theorem txO_get {X : Cx} {pins : List (Addr × Obj)} {σ : L2.St} {H : Hp} {s : Shared} {a : Addr} {l : List Str} (I : Inv X pins σ H s) (ha : H a = some (TxO X.prog X.w a l)) : TxA X.prog X.w s.heap a l := (I.hok a _ ha).1
theorem addT_ok {X : Cx} {pins : List (Addr × Obj)} {σ : L2.St} {H : Hp} {s : Shared} {E : Value → Shared → Prop} {D : Addr} {l : List Str} {k : Str} {tk : Tok} {Q : Value → Shared → Prop} (I : Inv X pins σ H s) (hD : H D = some (TxO X.prog X.w D l)) (room : l.length + 1 < scanBound)
    (h : ∀ s', Inv X pins σ (upd H D (TxO X.prog X.w D (if k ∈ l then l else k :: l))) s' → Q .none s') : wpAny (model X.prog X.w) X.A (call (.builtin "set.add") [.ref D, .str k tk]) Q E s := by
  have R := txO_get I hD
  refine R.add room (fun hk h' sb new => ?_) fun hk => ?_
  · rw [if_neg hk] at h
    obtain ⟨D', ho, _⟩ := new.ex
    exact h _ (I.write (e := D) (t' := s.toks + 1) (by rw [hD]; trivial) (.inl rfl) (fun b u hb hu => (sb.2 b hb).trans hu) ⟨_, ho⟩ (txO_new new))
  · rw [if_pos hk] at h
    have e : upd H D (TxO X.prog X.w D l) = H := by
      funext b
      by_cases hb : b = D
      · subst hb; rw [upd_same, hD]
      · rw [upd_ne hb]
    rw [e] at h
    exact h _ (I.tok _)
end Cw

namespace Cw
open PySem PySem.Spec PyProof.Rows L2 PySem.Froz

/-! ### {e for x in t}, e texts: the walk -/
def mem1 (k : Str) (l : List Str) : List Str := if k ∈ l then l else k :: l
def tTx (P : Program) (w : World) (wi : TI) (g : TG) (te : TE) (vs : List Nat) : TE := fun σ H Q => wi σ H fun J Ha => ∀ p, Ha p = none → ∃ Z : Nat → Nat → Hp → Prop, (∃ m, Z 0 m (upd Ha p (TxO P w p []))) ∧
  ∀ i m H, Z i m H → (J.stop i H ∧ Q (.ref p) H) ∨ (J.go i H ∧ ∃ Nx : Hp → Prop, (∀ H', Nx H' → ∃ m', m' < m ∧ Z (i + 1) m' H') ∧ ∀ x H', J.yld i H x H' → g x (wipe σ vs) H' fun σ2 H2 => wipe σ2 vs = wipe σ vs ∧
    te σ2 H2 fun y Hb => ∃ (k : Str) (l : List Str), y = .str k ∧ Hb p = some (TxO P w p l) ∧ l.length + 1 < scanBound ∧ Nx (upd Hb p (TxO P w p (mem1 k l))))
section
variable {X : Cx} {elt tg it : Expr} {scope : Scope} {own : List (Str × Nat)} {pos : Pos} {wi : TI} {g : TG} {te : TE}
theorem tx_walk (hc : X.calm = true) (hN : X.N.Nodup) (hi : PI X tg it wi) (ok : BlkOk X.N X.env.scope scope own)
    (hg : ∀ (s : Shared) (H : Hp) (C : Addr) (cl : List (Str × Addr)) (fp : List Addr), PG (X.blk s H scope (compEnvC scope cl C X.env) fp) tg g)
    (he : ∀ (s : Shared) (H : Hp) (C : Addr) (cl : List (Str × Addr)) (fp : List Addr), PE (X.blk s H scope (compEnvC scope cl C X.env) fp) elt te) (hs : ∀ x, foldedSetIterable it X.env x = pure x) :
    PE X (.SetComp elt [⟨tg, it, [], 0⟩] scope pos) (tTx X.prog X.w wi g te (own.map (·.2))) := by
  refine ⟨fun pins s σ H Q I h => ?_⟩
  rw [PpSet.eval_SetComp]
  have caps : ∀ n ∈ scope.names, n.2 = .free → ∃ c, X.env.cells.lookup n.1 = some c := fun n hn e => (ok.free n hn e).elim (fun z => I.ok.has _ (.inl z)) fun z => I.ok.has _ (.inr z)
  refine wpAny_comprehension_free (use := none) rfl hs (closure_ok caps) ok.kind (fun n hn e => by rw [ok.uniq n hn, e]) (thn (hi.run pins s σ H _ I h) fun v0 s1 a1 => thn a1 fun v1 s2 a2 => ?_)
  obtain ⟨b, fp, tn, J, Ha, ev, I2, T, st2, f2, q⟩ := a2
  subst ev
  refine PpSet.newSet_ok (newEnv_comp ?_)
  generalize hp : s2.heap.objs.size = p
  have pn : Ha p = none := I2.hok.fresh (Nat.le_of_eq hp)
  obtain ⟨Z, ⟨m0, z0⟩, turn⟩ := q p pn
  generalize hs3 : ({ s2 with heap := s2.heap.push { cls := .type "set", dict := none, data := .set #[] 0 (.fresh 0 0 (!X.w.params.followText "set-order")) } } : Shared) = s3
  have eh : s3.heap = s2.heap.push { cls := .type "set", dict := none, data := .set #[] 0 (.fresh 0 0 (!X.w.params.followText "set-order")) } := by subst hs3; rfl
  have I3 : Inv X pins σ (upd Ha p (TxO X.prog X.w p [])) s3 := by
    subst hs3
    refine I2.laid (t' := s2.toks) (fun _ _ e => Heap.get?_push_of_some _ e) (Nat.le_of_eq hp) ?_
    subst hp
    exact txO_new TxA.fresh
  have f3 : ∀ c ∈ fp, FpOk X pins (upd Ha p (TxO X.prog X.w p [])) c ∧ c < s3.heap.objs.size := fun c hm => by
    obtain ⟨o, eo, _⟩ := T.obj _ _ st2 c hm
    have lt := Heap.lt_size eo
    have ne : c ≠ p := by rw [← hp]; exact Nat.ne_of_lt lt
    exact ⟨⟨(upd_ne ne).trans (f2 c hm).1, (f2 c hm).2⟩, by rw [eh, Heap.size_push]; exact Nat.lt_succ_of_lt lt⟩
  have st3 : tn 0 s3.heap := T.keep _ _ _ st2 fun c _ o e => by rw [eh]; exact Heap.get?_push_of_some _ e
  generalize hHb : upd Ha p (TxO X.prog X.w p []) = Hb at I3 f3 z0
  have I4 := block_start I3 ok hN f3
  have pg := hg s3 Hb s3.heap.objs.size (cellsFrom (s3.heap.objs.size + 1) scope.names (cloFrom X.env.cells scope.names [])) fp
  have pe := he s3 Hb s3.heap.objs.size (cellsFrom (s3.heap.objs.size + 1) scope.names (cloFrom X.env.cells scope.names [])) fp
  show codeAny _ _ (.compStart (.SetComp elt [⟨tg, it, [], 0⟩] scope pos) 0 (.ref b) (.ref p) (compEnvC scope (cellsFrom (s3.heap.objs.size + 1) scope.names (cloFrom X.env.cells scope.names [])) s3.heap.objs.size X.env)) (compPost (model X.prog X.w) X.A X.xe none _ (.ref p) s3.heap.objs.size) { s3 with heap := pushCells (s3.heap.push { cls := .type "dict", data := .dict #[] }) scope.names }
  generalize hce : compEnvC scope (cellsFrom (s3.heap.objs.size + 1) scope.names (cloFrom X.env.cells scope.names [])) s3.heap.objs.size X.env = ce at I4 pg pe ⊢
  have el : ce.locals = s3.heap.objs.size := by subst hce; rfl
  generalize hs4 : ({ s3 with heap := pushCells (s3.heap.push { cls := .type "dict", data := .dict #[] }) scope.names } : Shared) = s4 at I4 ⊢
  have st4 : tn 0 s4.heap := T.keep _ _ _ st3 fun c _ o e => by subst hs4; exact pushCells_keeps _ _ _ _ (Heap.get?_push_of_some _ e)
  -- what is walked stands still
  have fpk : ∀ {τ : L2.St} {Hz : Hp} {sz : Shared}, Inv (X.blk s3 Hb scope ce fp) [] τ Hz sz → (∀ c ∈ fp, Hz c = none) → ∀ c ∈ fp, FpOk (X.blk s3 Hb scope ce fp) [] Hz c := fun Iz nz c hm => by
    refine ⟨nz c hm, (Iz.ok.exf c hm).1, Iz.ok.exfs c hm, .inl hm, fun n d e => (Iz.ok.exf c hm).2 n d e, fun pr hpr => ?_⟩
    rw [List.append_nil] at hpr
    cases hpr
  have loop : codeAny (model X.prog X.w) X.A (.compLoop (.SetComp elt [⟨tg, it, [], 0⟩] scope pos) 0 (.ref b) (.ref p) ce) (compPost (model X.prog X.w) X.A X.xe none (EP X pins σ Q) (.ref p) s3.heap.objs.size) s4 := by
    refine PpSet.compLoopS_any (fun n sz => ∃ i Hz, Inv (X.blk s3 Hb scope ce fp) [] (wipe σ (own.map (·.2))) Hz sz ∧ tn i sz.heap ∧ (∀ c ∈ fp, Hz c = none) ∧ Z i n Hz) ?_ m0 ⟨0, Hb, I4, st4, fun c hm => (f3 c hm).1.1, z0⟩
    rintro n s5 ⟨i, Hc, I5, st5, n5, z5⟩
    rcases turn i n Hc z5 with ⟨stop, fin⟩ | ⟨go, Nx, next, step⟩
    · refine thnF (T.done (X.blk s3 Hb scope ce fp) rfl rfl rfl hc i [] s5 _ Hc (fun _ _ => False) I5 (fpk I5 n5) st5 stop) fun r s6 ⟨er, I6⟩ => ?_
      subst er
      have I7 : Inv X pins σ Hc s6 := I3.call' (ch := fp) I6.os I6.base I6.hok I6.bare fun c hm => ⟨(f3 c hm).1.2.2.2.1, (f3 c hm).1.2.1, (f3 c hm).1.2.2.2.2.1, (f3 c hm).1.2.2.2.2.2⟩
      have nl : Hc s3.heap.objs.size = none := by rw [← el]; exact I6.free
      obtain ⟨m, hm, _⟩ := I6.loc
      have hm : s6.heap.Ns ce.locals m := hm
      rw [el] at hm
      obtain ⟨g0, g1, g2, g3, g4, g5⟩ := I3.fpOk (Nat.le_refl _) nl
      exact ⟨m, hm, fun h'' sb => ⟨.ref p, Hc, I7.turned (t' := s6.toks) (fun c o hb e => (sb.2 c hb).trans e) g0 g1 g3 g4 g5, rfl, fin⟩⟩
    · refine thnF (T.item (X.blk s3 Hb scope ce fp) rfl rfl rfl hc i [] s5 _ Hc (fun _ _ => False) I5 (fpk I5 n5) st5 go) fun r s6 ⟨u, er, a6⟩ => ?_
      subst er
      refine thnF a6 fun _ s7 ⟨x, Hd, I7, r7, y7, st7, n7⟩ => ?_
      refine thnF (pg.run _ s7 _ Hd x u _ (I7.pinned (fpk I7 n7) (T.obj _ _ st7)) r7 (step x Hd y7)) fun _ s8 ⟨τ, He, I8, ew, q8⟩ => ?_
      have still : ∀ {sz : Shared} {Hz : Hp}, Inv (X.blk s3 Hb scope ce fp) ([] ++ pinsAt fp s7.heap) τ Hz sz → Nx Hz → ∃ m, m < n ∧ ∃ i Hz, Inv (X.blk s3 Hb scope ce fp) [] (wipe σ (own.map (·.2))) Hz sz ∧ tn i sz.heap ∧ (∀ c ∈ fp, Hz c = none) ∧ Z i m Hz := fun {sz Hz} Iz nx => by
        obtain ⟨m', lt, z'⟩ := next Hz nx
        have pin : ∀ c ∈ fp, ∀ o, s7.heap.get? c = some o → sz.heap.get? c = some o ∧ Hz c = none := fun c hm o e => by
          have t := Iz.pin (c, o) (List.mem_append_right _ (List.mem_append_right _ (mem_pinsAt hm e)))
          exact ⟨t.1, t.2.1⟩
        refine ⟨m', lt, i + 1, Hz, (Iz.unpinned (pins := [])).weak (by rw [← ew, wipe_length]) (fun j v e => ?_), T.keep _ _ _ st7 fun c hm o e => (pin c hm o e).1, fun c hm => ?_, z'⟩
        · rw [← ew] at e; exact (wipe_some e).1
        · obtain ⟨o, e, _⟩ := T.obj _ _ st7 c hm
          exact (pin c hm o e).2
      show wpAny _ _ (pure true) _ _ _
      refine wpAny_pure ?_
      rw [if_pos rfl]
      refine thnF (pe.run _ s8 τ He _ I8 q8) fun u s9 ⟨v, Hf, I9, r9, k, l, evk, hp9, room, nx⟩ => ?_
      subst evk
      obtain ⟨tk, rfl⟩ := r9
      exact addT_ok (X := X.blk s3 Hb scope ce fp) I9 hp9 room fun s10 I10 => still I10 nx
  exact PpSet.codeAny_compStart_set loop (T.self X.A 0 _ _ _ st4 loop)
end
/-! ### sorted of it -/
theorem perm_in : ∀ {l ks : List Str}, l.Nodup → (∀ x ∈ l, x ∈ ks) → ks.length = l.length → ks.Perm l
  | [], ks, _, _, e => by
    have : ks = [] := List.eq_nil_of_length_eq_zero e
    subst this; exact .nil
  | x :: l, ks, nd, sub, e => by
    obtain ⟨hx, nd'⟩ := List.nodup_cons.mp nd
    have hm := sub x List.mem_cons_self
    refine (List.perm_cons_erase hm).trans (.cons x (perm_in nd' (fun y hy => ?_) ?_))
    · exact (List.mem_erase_of_ne (fun z => by subst z; exact hx hy)).mpr (sub y (List.mem_cons_of_mem _ hy))
    · rw [List.length_erase_of_mem hm, e]; rfl
def txtOf : Value → Str
  | .str k _ => k
  | _ => Str.empty
theorem txts_are : ∀ {us : List Value}, (∀ u ∈ us, ∃ k t, u = .str k t) → StrsAre us (us.map txtOf)
  | [], _ => .nil
  | u :: us, h => by
    obtain ⟨k, t, rfl⟩ := h u List.mem_cons_self
    exact .cons k t (txts_are fun v hv => h v (List.mem_cons_of_mem _ hv))
section
variable {X : Cx}
def rSortTx (P : Program) (w : World) : List V → Hp → VK → Prop := fun xs H Q => ∃ (a : Addr) (l : List Str), xs = [.ref a] ∧ H a = some (TxO P w a l) ∧ l.length < 64 ∧
  ∀ (ys : List Str) (p : Addr), ys.Nodup → (∀ x, x ∈ ys ↔ x ∈ l) → sortedS ys = true → H p = none → Q (.ref p) (upd H p (.lst (ys.map .str)))
theorem call_sortTx (hc : X.calm = true) : CallR X (.builtin "sorted") (rSortTx X.prog X.w) := by
  intro pins s σ H xs us Q I r q
  obtain ⟨a, l, rfl, ha, few, q⟩ := q
  rw [Vals.ref1 r]
  have R := txO_get I ha
  obtain ⟨⟨D, ho, F, rs, le⟩, nd⟩ := R
  obtain ⟨es, ep, tb⟩ := D
  have hsz : es.size = l.length := F.sz
  refine Calls.call_function_entry kind_sorted plain_sorted entry_sorted (args_sorted1 _) ?_
  unfold Builtin.«sorted»
  refine wpAny_bind (m := checkCount "sorted" 1 1 _) (wpAny_pure (wpAny_bind ?_))
  refine collect_set (I.ok.hd hc) ⟨_, ho, rfl, rfl⟩ F.fit (Nat.lt_trans (show es.size < 64 by omega) (by decide)) rs le fun s1 vs kp hz gn eo pm => ?_
  have hvl : vs.length = l.length := by rw [pm.length_eq, List.length_map, Array.length_toList]; exact hsz
  have shape : ∀ v ∈ vs, ∃ k t, v = Value.str k t := fun v hv => by
    obtain ⟨e, he, ev⟩ := List.mem_map.mp (pm.mem_iff.mp hv)
    obtain ⟨⟨k, hk, _⟩, _⟩ := F.el e he
    obtain ⟨t, et⟩ := Value.isStrOf_shape (x := k) (v := e.2) hk
    exact ⟨k, t, by rw [← ev]; exact et⟩
  have hS := txts_are shape
  have hks : (vs.map txtOf).Perm l := perm_in nd (fun k hk => by
    obtain ⟨e, he, hi⟩ := (F.mem k).mp hk
    obtain ⟨t, et⟩ := Value.isStrOf_shape (x := k) (v := e.2) hi
    exact List.mem_map.mpr ⟨e.2, pm.mem_iff.mpr (List.mem_map_of_mem he), by rw [et]; rfl⟩) (by rw [List.length_map, hvl])
  have e1 : s1 = { s with heap := s1.heap, gens := s1.gens, drawn := s1.drawn, toks := s1.toks } := by
    cases s1; cases s; cases eo; rfl
  refine wpAny_bind (wpAny_newList ?_ (by rw [hvl, sizeLine_eq]; omega))
  have at0 : (s1.heap.push (seqObj "list" vs.toArray 0)).get? s1.heap.objs.size = some (seqObj "list" vs.toArray 0) := Heap.get?_push_size _ rfl
  refine wpAny_bind (wpAny_holding (wpAny_call_entry slot_list_sort ⟨_, at0, rfl⟩ entry_list_sort (list_sort_treeK strKind_oneLt at0 hS.keysOf (fun v₁ v₂ rest e => keyKind_strs (by rw [← e]; exact hS)) (by rw [hvl]; exact few) fun st' hp hs => ⟨_, rfl, ?_⟩) (args_list_sort _)))
  obtain ⟨ys, g1, g2, g3⟩ := sorted_out_str hS hp hs
  obtain ⟨c, hc'⟩ := sortedHeap_at (vs := vs) (out := (arrOf st').map (·.2)) at0
  have lim : (ys.map V.str).length ≤ sizeLine := by
    rw [List.length_map, g2.length_eq, List.length_map, hvl, sizeLine_eq]; omega
  have old : ∀ b u, s.heap.get? b = some u → (sortedHeap (s1.heap.push (seqObj "list" vs.toArray 0)) s1.heap.objs.size vs ((arrOf st').map (·.2))).get? b = some u := fun b u e => by
    have z := kp b u e
    have lt := Heap.lt_size z
    rw [sortedHeap_old (Nat.ne_of_lt lt) (by rw [size_push']; exact Nat.lt_succ_of_lt lt)]
    exact Heap.get?_push_of_some _ z
  have pn : H s1.heap.objs.size = none := I.hok.fresh hz
  have J : Inv X pins σ (upd H s1.heap.objs.size (.lst (ys.map V.str))) { s with heap := sortedHeap (s1.heap.push (seqObj "list" vs.toArray 0)) s1.heap.objs.size vs ((arrOf st').map (·.2)), gens := s1.gens, drawn := s1.drawn, toks := s1.toks } :=
    I.call (ch := []) (Un.laid old hz pn) (I.hok.laid old hz ⟨lim, ((arrOf st').map (·.2)).toList, c, vals_of_strs g1, by rw [Array.toArray_toList]; exact hc'⟩) (by rw [gn]; exact I.bare) (fun _ z => nomatch z)
  rw [e1]
  exact wpAny_pure ⟨_, rfl, .ref s1.heap.objs.size, _, J, rfl, q ys _ ((g2.trans hks).nodup_iff.mpr nd) (fun x => (g2.trans hks).mem_iff) g3 pn⟩
end
/-! ### the set is no part of what is read -/
/-- no code object, no exception -/
def NoX (p : Addr) (o : HO) : Prop := ∀ q, o ≠ LamX.CodeO p q
def heapAt (p : Addr) (o : Obj) : Heap := ⟨Array.replicate (p + 1) o, {}⟩
theorem heapAt_get {p : Addr} {o : Obj} {vs : Array Value} (h : o.data = .fields vs) : (heapAt p o).get? p = some o := by
  obtain ⟨a, b, c, d⟩ := o
  simp only at h
  subst h
  unfold heapAt Heap.get?
  simp
theorem txO_nox {P : Program} {w : World} {p : Addr} {l : List Str} : NoX p (TxO P w p l) := by
  intro q z
  have z1 : HO.ext (fun h => TxA P w h p l) = LamX.CodeO p q := z
  unfold LamX.CodeO at z1
  injection z1 with z2
  have g := heapAt_get (p := p) (o := { cls := .none, data := .fields #[.none, .str q 0] }) rfl
  have z3 := congrFun z2 (heapAt p { cls := .none, data := .fields #[.none, .str q 0] })
  have z4 : TxA P w (heapAt p { cls := .none, data := .fields #[.none, .str q 0] }) p l := by rw [z3]; exact ⟨_, _, _, g, rfl, rfl⟩
  obtain ⟨D, e, _⟩ := z4.ex
  rw [g] at e
  cases e

section
variable {K : PySem.W.Frag} {ix : List Addr} {H H' : Hp} {p : Addr} {f : Heap → Prop}
theorem no_rd {a : Addr} {u : HO} (hp : H p = some (.ext f)) (hx : NoX p (.ext f)) (k : ∀ b o, b ≠ p → H b = some o → H' b = some o) (hu : ∀ g, u ≠ .ext g) (h : Rd H a u) : Rd H' a u := by
  rcases h with h | ⟨o, h⟩
  · by_cases e : a = p
    · subst e; rw [hp] at h; cases h; exact absurd rfl (hu f)
    · exact .inl (k a _ e h)
  · by_cases e : a = p
    · subst e; rw [hp] at h; cases h
    · exact .inr ⟨o, k a _ e h⟩
mutual
theorem R.off (hp : H p = some (.ext f)) (hx : NoX p (.ext f)) (k : ∀ b o, b ≠ p → H b = some o → H' b = some o) : ∀ (d : D) (v : V), R K ix H d v → R K ix H' d v
  | .non, _, h => h
  | .bl _, _, h => h
  | .int _, _, h => h
  | .str _, _, h => h
  | .tup ds, _, ⟨a, xs, e1, h1, h2⟩ => ⟨a, xs, e1, h1.imp (no_rd hp hx k (fun _ z => nomatch z)) id, RL.off hp hx k ds xs h2⟩
  | .lst ds, _, ⟨a, xs, e1, h1, h2⟩ => ⟨a, xs, e1, k a _ (fun e => by subst e; rw [hp] at h1; cases h1) h1, RL.off hp hx k ds xs h2⟩
  | .fl ds, _, ⟨a, xs, e1, h1, h2⟩ => ⟨a, xs, e1, h1.imp (no_rd hp hx k (fun _ z => nomatch z)) id, RL.off hp hx k ds xs h2⟩
  | .cell j, _, h => h
  | .ins _ _ ds, _, ⟨a, dx, fs, e1, h1, h2, h3⟩ => ⟨a, dx, fs, e1, k a _ (fun e => by subst e; rw [hp] at h1; cases h1) h1, h2, RL.off hp hx k ds _ h3⟩
  | .dct _ ds, _, ⟨a, kvs, e1, h1, h2, h3⟩ => ⟨a, kvs, e1, no_rd hp hx k (fun _ z => nomatch z) h1, h2, RL.off hp hx k ds _ h3⟩
  | .dcT _ ds, _, ⟨a, kvs, e1, h1, h2, h3⟩ => ⟨a, kvs, e1, k a _ (fun e => by subst e; rw [hp] at h1; cases h1) h1, h2, RL.off hp hx k ds _ h3⟩
  | .exc _ dd _ _ ds, _, ⟨fs, e1, h1, h5, h6⟩ => ⟨fs, e1, k dd _ (fun e => by subst e; rw [hp] at h1; cases h1) h1, h5, RL.off hp hx k ds _ h6⟩
  | .raw _, _, h => h
theorem RL.off (hp : H p = some (.ext f)) (hx : NoX p (.ext f)) (k : ∀ b o, b ≠ p → H b = some o → H' b = some o) : ∀ (ds : List D) (xs : List V), RL K ix H ds xs → RL K ix H' ds xs
  | [], _, h => h
  | d :: ds, _, ⟨x, r, e1, h1, h2⟩ => ⟨x, r, e1, R.off hp hx k d x h1, RL.off hp hx k ds r h2⟩
end
end
theorem TabK.off {m : Ad} {H : Hp} {p P : Addr} {f : Heap → Prop} {o : HO} {q : Str} (t : TabK m H P q) (hp : H p = some (.ext f)) (hx : NoX p (.ext f)) (hP : P ≠ p) : TabK m (upd H p o) P q := by
  obtain ⟨ps, h1, h2, h3⟩ := t
  refine ⟨ps, by rw [upd_ne hP]; exact h1, h2, fun pos cv hc => ?_⟩
  obtain ⟨c, e1, e2⟩ := h3 pos cv hc
  obtain ⟨h4, h5⟩ := hid_some e2
  refine ⟨c, e1, ?_⟩
  rw [hid_of h4, upd_ne]
  · exact h5
  · intro e
    subst e
    rw [hp] at h5
    exact hx q (Option.some.inj h5)
theorem CR.off {K : PySem.W.Frag} {H : Hp} {m : Ad} {c : List Cell} {p : Addr} {f : Heap → Prop} {o : HO} (C : CR K H m c) (hp : H p = some (.ext f)) (hx : NoX p (.ext f)) (hn : p ∉ m.ix ∧ p ∉ m.hd) : CR K (upd H p o) m c := by
  have hp' : hid m H p = some (.ext f) := by rw [hid_of hn]; exact hp
  have k : ∀ b u, b ≠ p → hid m H b = some u → hid m (upd H p o) b = some u := fun b u ne e => by
    obtain ⟨h1, h2⟩ := hid_some e
    rw [hid_of h1, upd_ne ne]; exact h2
  refine ⟨C.len, C.nd, fun j ce e => ?_, fun b hb => ?_, C.dj, fun q hq => ⟨(C.tk q hq).1, (C.tk q hq).2.off hp hx (fun z => hn.2 (z ▸ (C.tk q hq).1))⟩⟩
  · obtain ⟨a, h1, h2⟩ := C.at_ j ce e
    have ne : a ≠ p := fun z => hn.1 (z ▸ List.mem_of_getElem? h1)
    refine ⟨a, h1, ?_⟩
    cases ce with
    | lst ds => obtain ⟨xs, h3, h4⟩ := h2; exact ⟨xs, by rw [upd_ne ne]; exact h3, RL.off hp' hx k ds xs h4⟩
    | obj C' ns ds => obtain ⟨dx, fs, h3, h4, h5⟩ := h2; exact ⟨dx, fs, by rw [upd_ne ne]; exact h3, h4, RL.off hp' hx k ds _ h5⟩
    | dct ks ds => obtain ⟨kvs, h3, h4, h5⟩ := h2; exact ⟨kvs, by rw [upd_ne ne]; exact h3, h4, RL.off hp' hx k ds _ h5⟩
    | dcT ks ds => obtain ⟨kvs, h3, h4, h5⟩ := h2; exact ⟨kvs, by rw [upd_ne ne]; exact h3, h4, RL.off hp' hx k ds _ h5⟩
  · have ne : b ≠ p := fun z => hn.2 (z ▸ hb)
    rw [upd_ne ne]; exact C.hs b hb
theorem Le.over {H0 H : Hp} {m : Ad} {p : Addr} {f : Heap → Prop} {o : HO} (l : Le m H0 m H) (h0 : H0 p = none) (hn : p ∉ m.hd) (hp : H p = some (.ext f)) (hx : NoX p (.ext f)) : Le m H0 m (upd H p o) := by
  refine ⟨fun _ _ e => e, fun b u e => ?_, rfl, fun b hb => ?_, fun _ h => .inl h, fun a h => l.al a (upd_none h)⟩
  · obtain ⟨h1, h2⟩ := hid_some e
    have ne : b ≠ p := fun z => by rw [z, h0] at h2; cases h2
    have := l.ex b u e
    rw [hid_of h1] at this ⊢
    rw [upd_ne ne]; exact this
  · have ne : b ≠ p := fun z => hn (z ▸ hb)
    rcases l.hk b hb with z | ⟨⟨ps, ps', y1, y2⟩, y3⟩
    · exact .inl (by rw [upd_ne ne]; exact z)
    · exact .inr ⟨⟨ps, ps', y1, by rw [upd_ne ne]; exact y2⟩, fun q t => (y3 q t).off hp hx ne⟩
theorem mem1_mem {k x : Str} {l : List Str} : x ∈ mem1 k l ↔ x = k ∨ x ∈ l := by
  unfold mem1
  split
  · rename_i h
    exact ⟨.inr, fun z => z.elim (fun e => e ▸ h) id⟩
  · exact List.mem_cons
theorem mem1_len {k : Str} {l : List Str} : (mem1 k l).length ≤ l.length + 1 := by
  unfold mem1
  split
  · omega
  · exact Nat.le_refl _
section
variable {X : Cx} {iter elt : Expr} {te : TD} {pos pp tp sp : Pos} {ti : TDs} {scope : Scope} {x : Str} {i : Nat}
theorem pd_sortSet (hm : X.mg "sorted" = none) (hc : X.calm = true) (hN : X.N.Nodup) (hi : PID X (.Name x tp) iter ti) (ok : blkC X.N X.env.scope scope [(x, i)] = true)
    (hg : ∀ (s : Shared) (H : Hp) (C : Addr) (cl : List (Str × Addr)) (fp : List Addr), PG (X.blk s H scope (compEnvC scope cl C X.env) fp) (.Name x tp) (gName i))
    (he : ∀ (s : Shared) (H : Hp) (C : Addr) (cl : List (Str × Addr)) (fp : List Addr), PD (X.blk s H scope (compEnvC scope cl C X.env) fp) elt te) (hgl : Gl X "sorted" := by rfl) (hs : ∀ x, foldedSetIterable iter X.env x = pure x := by intro _; rfl)
    (he1 : starEach [.SetComp elt [⟨.Name x tp, iter, [], 0⟩] scope sp] X.env = (false, eval (.SetComp elt [⟨.Name x tp, iter, [], 0⟩] scope sp) X.env) :: starEach [] X.env := by rfl) (hpl : (backTo pos (starEach [] X.env)).any (·.1) = false := by rfl) :
    PD X (.Call (.Name "sorted" pp) [.SetComp elt [⟨.Name x tp, iter, [], 0⟩] scope sp] [] pos) (dSortSet ti i te) := by
  refine PE.imp (pe_callB (call_sortTx hc) hgl hm boot_sorted (pa_cons (tx_walk (te := lift X.K te) (own := [(x, i)]) hc hN hi (blkOk_by ok) hg (fun s H C cl fp => he s H C cl fp) hs) pa_nil he1) (by decide) (by decide) he1 hpl) fun σ H Q ⟨m, ρ, c, Φ, S, h, q⟩ => ?_
  refine ⟨m, ρ, c, _, S, h, fun ds c1 J Ha m1 ⟨ys, ln, few, hte, hz⟩ C1 wk L1 p hp => ?_⟩
  have pn := hid_new hp C1
  have S1 := S.step L1 C1
  have hl : m1.ix.length = c1.length := C1.len
  refine ⟨fun j mm Hj => mm = ds.length - j ∧ j ≤ ds.length ∧ CR X.K Hj m1 c1 ∧ Le m1 Ha m1 Hj ∧ ∃ l, Hj p = some (TxO X.prog X.w p l) ∧ (∀ z, z ∈ l ↔ z ∈ ys.take j) ∧ l.length ≤ j,
    ⟨ds.length, rfl, Nat.zero_le _, C1.new hp, Le.new hp C1, [], upd_same, by simp, Nat.le_refl _⟩, ?_⟩
  rintro j mm Hj ⟨rfl, hj, Cj, Lj, l, hpj, hmem, hlen⟩
  by_cases lt : j < ds.length
  · refine .inr ⟨wk.go j m1 Hj c1 Lj Cj lt, fun H' => CR X.K H' m1 c1 ∧ Le m1 Ha m1 H' ∧ ∃ l, H' p = some (TxO X.prog X.w p l) ∧ (∀ z, z ∈ l ↔ z ∈ ys.take (j + 1)) ∧ l.length ≤ j + 1, fun H' ⟨a, b, e⟩ => ⟨ds.length - (j + 1), by omega, rfl, lt, a, b, e⟩, fun v H2 y => ?_⟩
    obtain ⟨d, hd, C2, L2, rv⟩ := wk.yld j m1 Hj c1 v H2 Lj Cj lt y
    have hp2 : H2 p = some (TxO X.prog X.w p l) := (hid_some (L2.ex p _ (by rw [hid_of pn]; exact hpj))).2
    have hy : ys[j]? = some ys[j] := List.getElem?_eq_getElem (by omega)
    generalize ys[j] = k at hy
    have Lz := Lj.trans L2
    refine ⟨by rw [show ([(x, i)] : List (Str × Nat)).map (·.2) = [i] from rfl, wipe1, wipe1, List.set_set, List.set_set], m1, _, c1, fun d' c' => d' = .str k ∧ c' = c1, (S1.step Lz C2).blk rv, hte j d k hd hy _ ⟨rfl, rfl⟩, fun d' c' u H3 m3 ⟨ed, ec⟩ C3 R3 L3 => ?_⟩
    subst ed ec
    cases (show u = V.str k from R3)
    have em := CR.same hl.symm C3 L3
    subst em
    have hp3 : H3 p = some (TxO X.prog X.w p l) := (hid_some (L3.ex p _ (by rw [hid_of pn]; exact hp2))).2
    refine ⟨k, l, rfl, hp3, Nat.lt_trans (show l.length + 1 < 65 by omega) (by decide), C3.off hp3 txO_nox pn, (Lz.trans L3).over hp pn.2 hp3 txO_nox, mem1 k l, upd_same, fun z => ?_, ?_⟩
    · rw [mem1_mem, hmem z, List.take_add_one, hy, List.mem_append]
      simp only [Option.toList_some, List.mem_singleton]
      exact Or.comm
    · exact Nat.le_trans mem1_len (by omega)
  · have ej : j = ds.length := by omega
    subst ej
    refine .inl ⟨wk.stop _ m1 Hj c1 Lj Cj (Nat.le_refl _), p, l, rfl, hpj, by omega, fun zs a nd mz so ha => ?_⟩
    rw [List.take_of_length_le (by omega)] at hmem
    exact q _ c1 _ _ m1 (hz zs nd so fun z => (mz z).trans (hmem z)) (Cj.new ha) (RR.newL Cj ha (rl_txts zs)) ((L1.trans Lj).trans (Le.new ha Cj))
end
end Cw

namespace Cw
open PySem PySem.Spec PyProof.Rows L2 PySem.Froz

/-! ### set(x) -/
abbrev newS (w : World) : Obj := { cls := .type "set", dict := none, data := .set #[] 0 (.fresh 0 0 (!w.params.followText "set-order")) }
/-- what stands is not touched by what moves elsewhere -/
structure Kept (h0 : Heap) (a : Addr) (G : Nat → Heap → Prop) : Prop where
  run : ∀ i h h', G i h → (∀ o, h.get? a = some o → h'.get? a = some o) → (∀ b o, h0.get? b = some o → h'.get? b = some o) → G i h'
/-- the item's adding leads on -/
structure Adds (P : Program) (w : World) (h0 : Heap) (a : Addr) (items : Array Value) (G : Nat → Heap → Prop) : Prop where
  run : ∀ i v (A : Around) (E : Value → Shared → Prop) (s : Shared) (Q : Bool → Shared → Prop), items[i]? = some v → A.units < cLine → G i s.heap → (∀ b o, h0.get? b = some o → s.heap.get? b = some o) →
    (∀ b h' tk, Heap.SameBut a s.heap h' → s.toks ≤ tk → G (i + 1) h' → Q b { s with heap := h', toks := tk }) → wpAny (model P w) A (setAdd a v) Q E s
/-- the ends of it -/
structure SetEnds (w : World) (s : Shared) (n : Nat) (G : Nat → Heap → Prop) (Q : Value → Shared → Prop) : Prop where
  g0 : ∀ h', h'.get? s.heap.objs.size = some (newS w) → G 0 h'
  q : ∀ h' tk, G n h' → (∀ b o, s.heap.get? b = some o → h'.get? b = some o) → Q (.ref s.heap.objs.size) { s with heap := h', toks := tk }
section
variable {P : Program} {w : World} {A : Around} {E : Value → Shared → Prop} {s : Shared}
theorem none_at {h : Heap} {b : Addr} (hb : h.objs.size ≤ b) : h.get? b = none := by
  cases e : h.get? b with
  | none => rfl
  | some o => exact absurd (Heap.lt_size e) (Nat.not_lt.mpr hb)
theorem loopG {I : Addr} {fp wr : List Addr} {Gn : Array GenState → Array GenState → Prop} {n : Nat} {St : Nat → Shared → Prop} {R : Result → Shared → Prop} {items : Array Value}
    (W : WalksS P w A.in1 I fp wr Gn n (fun i v => items[i]? = some v) St) (a : Addr) (ha : a ∉ fp) (h0 : Heap) (G : Nat → Heap → Prop) (gk : Kept h0 a G) (ga : Adds P w h0 a items G) (hn : n = items.size) (hu : A.in1.units < cLine)
    (hz : h0.get? a = none) (hw : ∀ b ∈ wr, ¬ b < h0.objs.size) : ∀ (k i : Nat) (s : Shared), n - i = k → i ≤ n → St i s → G i s.heap → (∀ b o, h0.get? b = some o → s.heap.get? b = some o) →
      (∀ s', Moved (a :: wr) Gn s s' → G n s'.heap → (∀ b o, h0.get? b = some o → s'.heap.get? b = some o) → R (.ok (.ret .none)) s') → codeAny (model P w) A (.builtin "set.update.loop" ⟨[.ref a, .ref I], []⟩) R s := by
  have aw : a ∉ wr := fun z => ha (W.sub _ z)
  have more : ∀ b ∈ wr, b ∈ a :: wr := fun b z => List.mem_cons_of_mem _ z
  have still : ∀ {s s' : Shared}, Moved wr Gn s s' → (∀ b o, h0.get? b = some o → s.heap.get? b = some o) → ∀ b o, h0.get? b = some o → s'.heap.get? b = some o := fun mv kp b o e => mv.heap b o (fun z => hw b z (Heap.lt_size e)) (kp b o e)
  intro k
  induction k with
  | zero =>
    intro i s ek hi st g kp q
    obtain rfl : i = n := by omega
    refine codeAny_builtin F.entry_set_update_loop ?_
    rw [Around.under_plainId F.plain_set_update_loop _]
    show wpAny _ A.in1 (pyNext (.ref I) >>= _) _ _ s
    refine wpAny_bind (W.done s _ _ st fun s' mv => ?_)
    show wpAny _ A.in1 (ret Value.none) _ _ s'
    exact wpAny_pure (q s' (mv.mono more) (gk.run _ _ _ g (fun o e => mv.heap a o aw e) (still mv kp)) (still mv kp))
  | succ k ih =>
    intro i s ek hi st g kp q
    have lt : i < n := by omega
    refine codeAny_builtin F.entry_set_update_loop ?_
    rw [Around.under_plainId F.plain_set_update_loop _]
    show wpAny _ A.in1 (pyNext (.ref I) >>= _) _ _ s
    refine wpAny_bind (W.item i s _ _ lt st fun v s1 hv st1 mv => ?_)
    have kp1 := still mv kp
    show wpAny _ A.in1 (holding [v] (setAdd a v) >>= _) _ _ s1
    refine wpAny_bind (wpAny_holding (ga.run i v A.in1 _ s1 _ hv hu (gk.run _ _ _ g (fun o e => mv.heap a o aw e) kp1) kp1 fun b h' tk same le g' => ?_))
    have kp2 : ∀ b o, h0.get? b = some o → h'.get? b = some o := fun b o e => by
      by_cases z : b = a
      · subst z
        rw [hz] at e; cases e
      · rw [same.2 b z]; exact kp1 b o e
    refine wpAny_pure ⟨plainId_quiet F.plain_set_update_loop _, ih (i + 1) _ (by omega) lt (W.frame _ s1 _ _ st1 le fun b hb o e => ?_) g' kp2 fun s2 mv2 g2 kp3 => ?_⟩
    · rw [same.2 b (fun z => ha (z ▸ hb))]; exact e
    · exact q s2 (Moved.trans W.gtrans ((mv.mono more).then_heap le fun b o hb e => by rw [same.2 b (fun z => hb (z ▸ List.mem_cons_self))]; exact e) mv2) g2 kp3

/-- set(x), x a list: G says what stands behind the first i items -/
theorem set_list {l : Addr} {items : Array Value} (G : Nat → Heap → Prop) {Q : Value → Shared → Prop} (hh : A.handled = none) (hx : s.heap.IsList l items) (hu : A.in1.in1.in1.units < cLine)
    (gk : Kept s.heap s.heap.objs.size G) (ga : Adds P w s.heap s.heap.objs.size items G) (en : SetEnds w s items.size G Q) : wpAny (model P w) A (call (.type "set") [.ref l]) Q E s := by
  have ⟨_, _, mro⟩ := F.called_set.mro
  have mk := F.called_set.made
  have sb := F.called_set.sub
  have nt := F.called_set.notType
  have cc := F.called_set.canCreate
  have tc := F.typeCall_set_1 (.ref l)
  have lk := F.called_set.init.lookup
  have bd := F.called_set.init.bind (.ref s.heap.objs.size)
  refine wpAny_call (codeAny_of_tree (show wpAny _ _ (callAny (.type "set") _) _ _ _ from wpAny_pure ⟨Code.quiet_builtin _ (by decide +kernel), codeAny_builtin F.entry_type_call ?_⟩))
  rw [Around.under_plain (weight_type_call_type "set" [.ref l] []) rfl]
  repeat any_goals first | assumption | wp_step

  refine codeAny_mono (code_set_led1 (.ref l) (E := E) (Q₁ := fun u sz => u = .ref s.heap.objs.size ∧ sz = { s with heap := s.heap.push (newS w) }) ⟨rfl, rfl⟩) fun r sz hr => ?_
  rcases r with er | fl
  · exact hr
  cases fl with
  | next => exact False.elim hr
  | brk => exact False.elim hr
  | cont => exact False.elim hr
  | ret u =>
  obtain ⟨eu, es⟩ := hr
  subst eu es
  have at0 : (s.heap.push (newS w)).get? s.heap.objs.size = some (newS w) := Heap.get?_push_size _ rfl
  have ty0 : Shared.TypeIs { s with heap := s.heap.push (newS w) } (.ref s.heap.objs.size) "set" := ⟨_, at0, rfl⟩
  repeat any_goals first | assumption | wp_step

  refine codeAny_mono (codeAny_call_builtin (R := wants (fun u sz => u = .none ∧ ∃ h' tk, sz = { s with heap := h', toks := tk } ∧ G items.size h' ∧ ∀ b o, s.heap.get? b = some o → h'.get? b = some o) E) F.called_set.init.plain F.entry_set_init (check_set_init_1 ty0 ?_)) fun r2 sz2 hr2 => ?_
  · obtain ⟨⟨_, dl, _, sl⟩, hol, cl, nl, da⟩ := hx
    dsimp only at cl da
    subst cl da
    have ltl : l < s.heap.objs.size := Heap.lt_size hol
    have hol1 := Heap.get?_push_of_some (newS w) hol
    have sub1 := F.sub_list_set
    have sub2 := F.sub_list_frozenset
    have nod : (Value.type "list" == Value.type "dict") = false := by decide
    have hx1 : (s.heap.push (newS w)).IsList l items := ⟨_, hol1, rfl, nl, rfl⟩
    unfold Builtin.«set.__init__» noKeywords Builtin.Frozenset.updateFrom
    generalize hit : pyIter = it
    wp_walk
    subst hit

    refine wpAny_pyIter_list hx1 (wpAny_bind (wpAny_runValue ?_))
    have sz1 : (s.heap.push (newS w)).objs.size = s.heap.objs.size + 1 := Heap.size_push ..
    have ni : l ≠ (s.heap.push (newS w)).objs.size := by rw [sz1]; exact Nat.ne_of_lt (Nat.lt_succ_of_lt ltl)
    have hh3 : A.in1.in1.in1.handled = none := by simp [hh]
    have old : ∀ b o, s.heap.get? b = some o → b < s.heap.objs.size := fun _ _ => Heap.lt_size
    refine loopG ((Walks.list hh3 _ l ni items).toS) s.heap.objs.size (by rw [sz1]; simp only [List.mem_cons, List.not_mem_nil, or_false, not_or]; exact ⟨Nat.ne_of_lt (Nat.lt_succ_self _), Nat.ne_of_gt ltl⟩) s.heap G gk ga rfl hu (none_at (Nat.le_refl _)) (fun b hb z => ?_) items.size 0 _ rfl (Nat.zero_le _) ⟨⟨_, Heap.get?_push_size _ rfl, rfl, rfl⟩, hx1.push _⟩ (en.g0 _ (Heap.get?_push_of_some _ at0)) (fun b o e => Heap.get?_push_of_some _ (Heap.get?_push_of_some _ e)) fun s' mv g' kp => ?_
    · rw [List.mem_singleton.mp hb, sz1] at z; exact absurd z (Nat.not_lt.mpr (Nat.le_succ _))
    · obtain ⟨h', gn, dr, tk, os⟩ := s'
      cases mv.gens
      cases mv.drawn
      cases mv.os
      show wpAny _ _ (pure _) _ _ _
      refine wpAny_pure ?_
      show wpAny _ _ (ret Value.none) _ _ _
      exact wpAny_pure ⟨rfl, h', tk, rfl, g', kp⟩
  · rcases r2 with er | fl
    · exact hr2
    cases fl with
    | next => exact False.elim hr2
    | brk => exact False.elim hr2
    | cont => exact False.elim hr2
    | ret u =>
      obtain ⟨eu, h', tk, es, g', kp⟩ := hr2
      subst eu es
      repeat any_goals first | assumption | wp_step
      exact en.q _ _ g' kp

/-- set(x), x a tuple: G says what stands behind the first i items -/
theorem set_tuple {l : Addr} {items : Array Value} (G : Nat → Heap → Prop) {Q : Value → Shared → Prop} (hh : A.handled = none) (hx : s.heap.IsTuple l items) (hu : A.in1.in1.in1.units < cLine)
    (gk : Kept s.heap s.heap.objs.size G) (ga : Adds P w s.heap s.heap.objs.size items G) (en : SetEnds w s items.size G Q) : wpAny (model P w) A (call (.type "set") [.ref l]) Q E s := by
  have ⟨_, _, mro⟩ := F.called_set.mro
  have mk := F.called_set.made
  have sb := F.called_set.sub
  have nt := F.called_set.notType
  have cc := F.called_set.canCreate
  have tc := F.typeCall_set_1 (.ref l)
  have lk := F.called_set.init.lookup
  have bd := F.called_set.init.bind (.ref s.heap.objs.size)
  refine wpAny_call (codeAny_of_tree (show wpAny _ _ (callAny (.type "set") _) _ _ _ from wpAny_pure ⟨Code.quiet_builtin _ (by decide +kernel), codeAny_builtin F.entry_type_call ?_⟩))
  rw [Around.under_plain (weight_type_call_type "set" [.ref l] []) rfl]
  repeat any_goals first | assumption | wp_step

  refine codeAny_mono (code_set_led1 (.ref l) (E := E) (Q₁ := fun u sz => u = .ref s.heap.objs.size ∧ sz = { s with heap := s.heap.push (newS w) }) ⟨rfl, rfl⟩) fun r sz hr => ?_
  rcases r with er | fl
  · exact hr
  cases fl with
  | next => exact False.elim hr
  | brk => exact False.elim hr
  | cont => exact False.elim hr
  | ret u =>
  obtain ⟨eu, es⟩ := hr
  subst eu es
  have at0 : (s.heap.push (newS w)).get? s.heap.objs.size = some (newS w) := Heap.get?_push_size _ rfl
  have ty0 : Shared.TypeIs { s with heap := s.heap.push (newS w) } (.ref s.heap.objs.size) "set" := ⟨_, at0, rfl⟩
  repeat any_goals first | assumption | wp_step

  refine codeAny_mono (codeAny_call_builtin (R := wants (fun u sz => u = .none ∧ ∃ h' tk, sz = { s with heap := h', toks := tk } ∧ G items.size h' ∧ ∀ b o, s.heap.get? b = some o → h'.get? b = some o) E) F.called_set.init.plain F.entry_set_init (check_set_init_1 ty0 ?_)) fun r2 sz2 hr2 => ?_
  · obtain ⟨⟨_, dl, _, sl⟩, hol, cl, nl, da⟩ := hx
    dsimp only at cl da
    subst cl da
    have ltl : l < s.heap.objs.size := Heap.lt_size hol
    have hol1 := Heap.get?_push_of_some (newS w) hol
    have sub1 := F.sub_tuple_set
    have sub2 := F.sub_tuple_frozenset
    have nod : (Value.type "tuple" == Value.type "dict") = false := by decide
    have hx1 : (s.heap.push (newS w)).IsTuple l items := ⟨_, hol1, rfl, nl, rfl⟩
    unfold Builtin.«set.__init__» noKeywords Builtin.Frozenset.updateFrom
    generalize hit : pyIter = it
    wp_walk
    subst hit

    refine wpAny_pyIter_tuple hx1 (wpAny_bind (wpAny_runValue ?_))
    have sz1 : (s.heap.push (newS w)).objs.size = s.heap.objs.size + 1 := Heap.size_push ..
    have ni : l ≠ (s.heap.push (newS w)).objs.size := by rw [sz1]; exact Nat.ne_of_lt (Nat.lt_succ_of_lt ltl)
    have hh3 : A.in1.in1.in1.handled = none := by simp [hh]
    have old : ∀ b o, s.heap.get? b = some o → b < s.heap.objs.size := fun _ _ => Heap.lt_size
    refine loopG ((Walks.tuple hh3 _ l ni items).toS) s.heap.objs.size (by rw [sz1]; simp only [List.mem_cons, List.not_mem_nil, or_false, not_or]; exact ⟨Nat.ne_of_lt (Nat.lt_succ_self _), Nat.ne_of_gt ltl⟩) s.heap G gk ga rfl hu (none_at (Nat.le_refl _)) (fun b hb z => ?_) items.size 0 _ rfl (Nat.zero_le _) ⟨⟨_, Heap.get?_push_size _ rfl, rfl, rfl⟩, hx1.push _⟩ (en.g0 _ (Heap.get?_push_of_some _ at0)) (fun b o e => Heap.get?_push_of_some _ (Heap.get?_push_of_some _ e)) fun s' mv g' kp => ?_
    · rw [List.mem_singleton.mp hb, sz1] at z; exact absurd z (Nat.not_lt.mpr (Nat.le_succ _))
    · obtain ⟨h', gn, dr, tk, os⟩ := s'
      cases mv.gens
      cases mv.drawn
      cases mv.os
      show wpAny _ _ (pure _) _ _ _
      refine wpAny_pure ?_
      show wpAny _ _ (ret Value.none) _ _ _
      exact wpAny_pure ⟨rfl, h', tk, rfl, g', kp⟩
  · rcases r2 with er | fl
    · exact hr2
    cases fl with
    | next => exact False.elim hr2
    | brk => exact False.elim hr2
    | cont => exact False.elim hr2
    | ret u =>
      obtain ⟨eu, h', tk, es, g', kp⟩ := hr2
      subst eu es
      repeat any_goals first | assumption | wp_step
      exact en.q _ _ g' kp

end
end Cw

namespace Cw
open PySem PySem.Spec PyProof.Rows L2 PySem.Froz

/-! ### a set of tuples of ints and texts, no two alike -/
abbrev kh (P : Program) (w : World) (k : List Key) : Int := tupleKeyHash (mixKind P w) k
abbrev Ky (P : Program) (w : World) (h : Heap) (k : List Key) (b : Addr) : Prop := IsTupleKey (mixKind P w) h k b
section
variable {P : Program} {w : World} {A : Around} {E : Value → Shared → Prop} {s : Shared}
theorem cls_flat (n : Nat) {v : Value} (h : carriedByValue v = true) : ofAClassStatement n v = pure false := by
  cases v <;> first | (cases h; done) | (cases n <;> rfl)
theorem hash_flat (n : Nat) {v : Value} {k : Key} (h : keyIs k v = true) : ∃ b, hashByValue n v = pure b := by
  rcases keyIs_shape h with ⟨_, _, _, ev⟩ | ⟨_, _, _, ev⟩ <;> subst ev <;> exact ⟨_, by cases n <;> rfl⟩
theorem items_keys {k : List Key} {vs : List Value} (h : ItemsAre (mixKind P w) k vs) : ∀ v ∈ vs, ∃ x : Key, keyIs x v = true := by
  induction h with
  | nil => intro v hv; cases hv
  | @cons x u _ _ hx _ ih =>
    intro v hv
    rcases List.mem_cons.mp hv with rfl | z
    · exact ⟨x, hx⟩
    · exact ih v z
theorem Ky.noCls {k : List Key} {b : Addr} {Q : Bool → Shared → Prop} (hk : Ky P w s.heap k b) (q : Q false s) : wpAny (model P w) A (ofAClassStatement 8 (.ref b)) Q E s := by
  have ty := hk.typeIs
  obtain ⟨o, xs, n, ho, _, hd, hi⟩ := hk
  have flat := hi.byValue
  unfold ofAClassStatement
  refine wpAny_bind (wpAny_typeOf ty ?_)
  dsimp only
  simp only [show (("tuple" : String) == "tuple") = true from rfl, if_true, Bool.not_true, Bool.false_eq_true, if_false]
  try refine wpAny_bind (wpAny_pure ?_)
  try simp only [Bool.not_true, Bool.false_eq_true, if_false]
  show wpAny _ _ (seqItems? (.ref b) >>= _) _ _ s
  refine wpAny_bind (wpAny_seqItems ho hd (wpAny_bind ?_))
  show wpAny _ _ (forIn xs _ _) _ _ s
  rw [← Array.forIn_toList]
  refine wpAny_forIn_list _ (fun more b sz => b.1 = none ∧ sz = s ∧ ∀ v ∈ more, carriedByValue v = true) _ (fun v more b sz ⟨e1, e2, e3⟩ => ?_) (fun b sz ⟨e1, e2, _⟩ => ?_) _ _ ⟨rfl, rfl, flat⟩
  · subst e2
    rw [cls_flat _ (e3 v List.mem_cons_self)]
    refine wpAny_bind (wpAny_pure ?_)
    simp only [Bool.false_eq_true, if_false]
    exact wpAny_pure ⟨rfl, rfl, fun u hu => e3 u (List.mem_cons_of_mem _ hu)⟩
  · obtain ⟨b1, b2⟩ := b
    cases (show b1 = none from e1)
    subst e2
    exact wpAny_pure q
theorem Ky.hashBy {k : List Key} {b : Addr} {Q : Bool → Shared → Prop} (hk : Ky P w s.heap k b) (q : ∀ y, Q y s) : wpAny (model P w) A (hashByValue 8 (.ref b)) Q E s := by
  have ty := hk.typeIs
  obtain ⟨o, xs, n, ho, _, hd, hi⟩ := hk
  have flat := items_keys hi
  unfold hashByValue
  refine wpAny_bind (wpAny_specialOf ty F.slot_tuple_hash.lookup ?_)
  show wpAny _ _ (seqItems? (.ref b) >>= _) _ _ s
  refine wpAny_bind (wpAny_seqItems ho hd (wpAny_bind ?_))
  show wpAny _ _ (forIn xs _ _) _ _ s
  rw [← Array.forIn_toList]
  refine wpAny_forIn_list _ (fun more b sz => b.1 = none ∧ sz = s ∧ ∀ v ∈ more, ∃ x : Key, keyIs x v = true) _ (fun v more b sz ⟨e1, e2, e3⟩ => ?_) (fun b sz ⟨e1, e2, _⟩ => ?_) _ _ ⟨rfl, rfl, flat⟩
  · subst e2
    obtain ⟨x, hx⟩ := e3 v List.mem_cons_self
    obtain ⟨y, ey⟩ := hash_flat 7 hx
    rw [ey]
    refine wpAny_bind (wpAny_pure ?_)
    cases y with
    | true =>
      simp only [Bool.not_true, Bool.false_eq_true, if_false]
      exact wpAny_pure ⟨rfl, rfl, fun u hu => e3 u (List.mem_cons_of_mem _ hu)⟩
    | false =>
      simp only [Bool.not_false, if_true]
      exact wpAny_pure (wpAny_pure (q false))
  · obtain ⟨b1, b2⟩ := b
    cases (show b1 = none from e1)
    subst e2
    exact wpAny_pure (q true)
theorem Ky.unseen {k : List Key} {b : Addr} {Q : Bool → Shared → Prop} (hk : Ky P w s.heap k b) {ys : List Value} (hy : ∀ y ∈ ys, ∃ l c, y = Value.ref c ∧ Ky P w s.heap l c) (q : Q false s) :
    wpAny (model P w) A (searchCouldBeSeen (.ref b) ys) Q E s := by
  unfold searchCouldBeSeen
  refine wpAny_bind (wpAny_forIn_list _ (fun more b sz => b.1 = none ∧ sz = s ∧ ∀ y ∈ more, ∃ l c, y = Value.ref c ∧ Ky P w s.heap l c) _ (fun v more r sz ⟨e1, e2, e3⟩ => ?_) (fun b sz ⟨e1, e2, _⟩ => ?_) _ _ ⟨rfl, rfl, hy⟩)
  · subst e2
    obtain ⟨l, c, ev, hc⟩ := e3 v List.mem_cons_self
    subst ev
    have e4 := fun u hu => e3 u (List.mem_cons_of_mem _ hu)
    dsimp only
    by_cases same : (b == c || (carriedByValue (.ref b) && carriedByValue (.ref c))) = true
    · exact wp_if_pos same (wpAny_pure ⟨rfl, rfl, e4⟩)
    · refine wp_if_neg same (wpAny_bind (wpAny_eqIsQuiet_tuple hk ?_))
      simp only [Bool.not_true, Bool.false_eq_true, if_false]
      refine wpAny_bind (wpAny_eqIsQuiet_tuple hc ?_)
      simp only [Bool.not_true, Bool.false_eq_true, if_false]
      refine wpAny_bind (hk.noCls ?_)
      simp only [Bool.false_eq_true, if_false]
      refine wpAny_bind (Ky.noCls hc ?_)
      simp only [Bool.false_eq_true, if_false]
      exact wpAny_pure ⟨rfl, rfl, e4⟩
  · obtain ⟨b1, b2⟩ := b
    cases (show b1 = none from e1)
    subst e2
    exact wpAny_pure q
end
/-- the entries of the members L -/
def mrows (P : Program) (w : World) (L : List (Addr × List Key)) : List (Int × Value) := L.map fun m => (kh P w m.2, Value.ref m.1)
def mhs (P : Program) (w : World) (L : List (Addr × List Key)) : List Int := L.map fun m => kh P w m.2
structure MxS (P : Program) (w : World) (h : Heap) (a : Addr) (L : List (Addr × List Key)) (es : Array (Int × Value)) (ep : Nat) (t : SetTable) : Prop where
  ob : ∃ o, h.get? a = some o ∧ o.ExactSet ∧ o.data = .set es ep t
  en : es.toList = mrows P w L
  tab : TabOk t (mhs P w L)
  nd : (L.map (·.2)).Nodup
  ks : ∀ m ∈ L, Ky P w h m.2 m.1
  led : w.params.followText "set-order" = true ∨ t.led = true
  wide : L.length * 5 < t.mask * 3
  few : L.length < 64
section
variable {P : Program} {w : World} {A : Around} {E : Value → Shared → Prop} {s : Shared} {a : Addr} {L : List (Addr × List Key)} {es : Array (Int × Value)} {ep : Nat} {t : SetTable}
theorem mrows_len (h : es.toList = mrows P w L) : es.size = L.length := by
  rw [← Array.length_toList, h]; exact List.length_map ..
theorem mhs_len : (mhs P w L).length = L.length := List.length_map ..
theorem MxS.fits (R : MxS P w s.heap a L es ep t) : t.fits es.size = true := by
  have h1 := R.tab.sz
  rw [mhs_len] at h1
  have h2 := mrows_len R.en
  have h3 := R.wide
  simp only [SetTable.fits, SetTable.fill, R.tab.dm, Bool.and_eq_true, beq_iff_eq, decide_eq_true_eq]
  show t.place.size = es.size ∧ t.place.size + 0 ≤ t.mask
  omega
theorem MxS.at (R : MxS P w s.heap a L es ep t) {i : Nat} {m : Addr × List Key} (h : L[i]? = some m) : es[i]? = some (kh P w m.2, Value.ref m.1) := by
  have z : es.toList[i]? = some (kh P w m.2, Value.ref m.1) := by rw [R.en, mrows, List.getElem?_map, h]; rfl
  rw [← Array.getElem?_toList]; exact z
/-- the c-th stop on the way of the hash h -/
abbrev stop (m : Nat) (h : Int) (c : Nat) : SetTable.Probe := nth m (runAt m (SetTable.bits h % (m + 1)) (SetTable.bits h)) c
theorem stop_on (m : Nat) (h : Int) (c q : Nat) : nth m (stop m h c) q = stop m h (c + q) := (nth_add m c _ q).symm
theorem nth_plain (m : Nat) : ∀ (n : Nat) (p : SetTable.Probe), p.dummy = none → (nth m p n).dummy = none
  | 0, _, h => h
  | n + 1, p, h => nth_plain m n (adv m p) (by unfold adv; split <;> exact h)
/-- a new member is found nowhere -/
theorem MxS.search (R : MxS P w s.heap a L es ep t) {x : Addr} {k : List Key} (hx : Ky P w s.heap k x) (hu : A.units < cLine) (new : ∀ m ∈ L, m.2 ≠ k) {K : Nat} (lim : K < 10 * SetTable.turns t.mask)
    (gap : way t.mask (kh P w k) K ∉ t.place.toList) (ahead : ∀ c, c < K → way t.mask (kh P w k) c ∈ t.place.toList) {Q : SetFound → Shared → Prop} (q : Q (.free (way t.mask (kh P w k) K) false) s) :
    ∀ (f c : Nat) (from? : Option SetTable.Probe), from?.getD (t.probeStart (kh P w k)) = stop t.mask (kh P w k) c → c ≤ K → K - c < f → wpAny (model P w) A (setSearchFrom a (.ref x) (kh P w k) true f from?) Q E s
  | 0, c, _, _, _, z => absurd z (Nat.not_lt_zero _)
  | f + 1, c, from?, est, hc, hf => by
    obtain ⟨o, ho, hex, hd⟩ := R.ob
    rw [setSearchFrom_succ]
    refine wpAny_bind (wpAny_setState_of ho hd R.fits ?_)
    dsimp only
    refine wp_if_neg (by unfold SetTable.gaveWay; rw [mask_odd R.tab.mok]; decide) ?_
    try refine wpAny_bind (wpAny_pure ?_)
    have jj : ∀ q, (nth t.mask (stop t.mask (kh P w k) c) q).j = way t.mask (kh P w k) (c + q) := fun q => congrArg SetTable.Probe.j (stop_on ..)
    rw [est]
    rcases go_spec t R.tab.ris R.tab.dm (fun i => (es[i]?.map (·.1)).getD 0) (kh P w k) (10 * SetTable.turns t.mask) (K - c) (stop t.mask (kh P w k) c) (nth_plain _ _ _ rfl) (by omega)
      (fun q hq => by rw [jj]; exact ahead _ (by omega)) (by rw [jj, show c + (K - c) = K by omega]; exact gap) with ⟨q', i, hq, hi, _, _, hp⟩ | ⟨_, hp⟩
    · have hp' : t.probe (fun i => (es[i]?.map (·.1)).getD 0) (kh P w k) (stop t.mask (kh P w k) c) = some (.candidate (way t.mask (kh P w k) (c + q')) i (stop t.mask (kh P w k) (c + (q' + 1)))) := by
        rw [← jj, ← stop_on]; exact hp
      rw [hp']
      dsimp only
      rw [jj] at hi
      have il : i < L.length := by
        have h1 := (List.getElem?_eq_some_iff.mp hi).1
        have h2 := R.tab.sz
        rw [mhs_len] at h2
        rw [Array.length_toList] at h1
        omega
      obtain ⟨m, hm⟩ : ∃ m, L[i]? = some m := ⟨_, List.getElem?_eq_getElem il⟩
      have mm := List.mem_of_getElem? hm
      have ne := new m mm
      have rest : wpAny (model P w) A (searchRest a (.ref x) (kh P w k) true f es t (way t.mask (kh P w k) (c + q')) i (stop t.mask (kh P w k) (c + (q' + 1)))) Q E s := by
        unfold searchRest
        rw [R.at hm]
        dsimp only
        refine wpAny_bind (wpAny_holding (wpAny_eqBool_tuple hu (R.ks m mm) hx ?_))
        rw [decide_eq_false ne]
        refine wpAny_bind (wpAny_setState_of ho hd R.fits ?_)
        dsimp only
        refine wp_if_neg (by decide) ?_
        try refine wpAny_bind (wpAny_pure ?_)
        rw [sameMem]
        dsimp only
        simp only [if_true, slot_live R.tab.ris hi, R.at hm]
        refine wpAny_bind (wpAny_isSame_ref_self (wpAny_bind (wpAny_pure ?_)))
        simp only [if_true]
        refine wp_if_neg (by decide) ?_
        exact MxS.search R hx hu new lim gap ahead q f _ _ rfl (by omega) (by omega)
      by_cases hl : t.led = true
      · refine wp_if_neg (by rw [hl]; decide) ?_
        try refine wpAny_bind (wpAny_pure ?_)
        exact rest
      · refine wp_if_pos (by rw [Bool.eq_false_iff.mpr hl]; rfl) (wpAny_bind (hx.unseen (fun y hy => ?_) ?_))
        · obtain ⟨e, he, ey⟩ := List.mem_map.mp hy
          have he2 : e ∈ es.toList := by
            have : e ∈ es ∧ e.1 = kh P w k := by simpa using he
            simpa using this.1
          rw [R.en] at he2
          obtain ⟨m2, hm2, e2⟩ := List.mem_map.mp he2
          exact ⟨m2.2, m2.1, by rw [← ey, ← e2], R.ks m2 hm2⟩
        · refine wp_if_neg (by decide) ?_
          try refine wpAny_bind (wpAny_pure ?_)
          exact rest
    · have hp' : t.probe (fun i => (es[i]?.map (·.1)).getD 0) (kh P w k) (stop t.mask (kh P w k) c) = some (.empty (way t.mask (kh P w k) K) none) := by
        have e2 : way t.mask (kh P w k) K = (nth t.mask (stop t.mask (kh P w k) c) (K - c)).j := by rw [jj, show c + (K - c) = K by omega]
        rw [e2]; exact hp
      rw [hp']
      exact wpAny_pure q
/-! adding -/
theorem tab_unplain {hs : List Int} (T : TabOk t hs) : TabOk { t with plain := false } hs := ⟨T.ris, T.dm, T.sz, T.mok, T.bd, T.reach⟩
theorem Ky.off {h h' : Heap} {k : List Key} {b : Addr} {o : Obj} (hb : Ky P w h k b) (ho : h.get? a = some o) (hd : o.data = .set es ep t) (same : Heap.SameBut a h h') : Ky P w h' k b := by
  obtain ⟨u, xs, n, hu, hc, hx, hi⟩ := hb
  refine ⟨u, xs, n, (same.2 b fun z => ?_).trans hu, hc, hx, hi⟩
  subst z
  rw [ho] at hu
  cases hu
  rw [hd] at hx
  cases hx
theorem range_all : ∀ (L : List (Addr × List Key)), (List.range L.length).filterMap (fun i => L[i]?) = L
  | [] => rfl
  | x :: L => by
    rw [List.length_cons, List.range_succ_eq_map, List.filterMap_cons_some (f := fun i => (x :: L)[i]?) (a := 0) (b := x) rfl, List.filterMap_map]
    have e : ((fun i => (x :: L)[i]?) ∘ Nat.succ) = fun i => L[i]? := by funext i; simp
    rw [e, range_all L]
theorem reorder (en : es.toList = mrows P w L) {order : Array Nat} (pm : order.toList.Perm (List.range L.length)) :
    ∃ L2, (order.filterMap (es[·]?)).toList = mrows P w L2 ∧ L2.Perm L ∧ mhs P w L2 = order.toList.map fun i => (es.map (·.1)).getD i 0 := by
  have ent : ∀ (i : Nat) (m : Addr × List Key), L[i]? = some m → es[i]? = some (kh P w m.2, Value.ref m.1) := fun i m h => by
    have z : es.toList[i]? = some (kh P w m.2, Value.ref m.1) := by rw [en, mrows, List.getElem?_map, h]; rfl
    rw [← Array.getElem?_toList]; exact z
  have go : ∀ l : List Nat, (∀ i ∈ l, i < L.length) → l.filterMap (fun i => es[i]?) = mrows P w (l.filterMap fun i => L[i]?) ∧ mhs P w (l.filterMap fun i => L[i]?) = l.map fun i => (es.map (·.1)).getD i 0 := by
    intro l
    induction l with
    | nil => intro _; exact ⟨rfl, rfl⟩
    | cons i l ih =>
      intro h
      obtain ⟨h1, h2⟩ := ih fun j hj => h j (List.mem_cons_of_mem _ hj)
      obtain ⟨m, hm⟩ : ∃ m, L[i]? = some m := ⟨_, List.getElem?_eq_getElem (h i List.mem_cons_self)⟩
      have e := ent i m hm
      rw [List.filterMap_cons_some e, List.filterMap_cons_some hm, h1, List.map_cons, ← h2]
      refine ⟨rfl, ?_⟩
      have e5 : (es.map (·.1))[i]? = some (kh P w m.2) := by rw [Array.getElem?_map, e]; rfl
      have e6 : (es.map (·.1)).getD i 0 = kh P w m.2 := by simp [Array.getD_eq_getD_getElem?, e5]
      rw [e6]; rfl
  obtain ⟨h1, h2⟩ := go order.toList fun i hi => List.mem_range.mp (pm.mem_iff.mp hi)
  refine ⟨_, by first | (rw [Array.toList_filterMap]; exact h1) | simpa using h1, ?_, h2⟩
  have := pm.filterMap fun i => L[i]?
  rwa [range_all] at this
theorem relayM {o : Obj} (ho : s.heap.get? a = some o) (hex : o.ExactSet) (hd : o.data = .set es ep t) (en : es.toList = mrows P w L) (sz : t.place.size = es.size) (dm : t.dummies = #[]) (fl : es.size ≤ t.mask)
    (nd : (L.map (·.2)).Nodup) (ks : ∀ m ∈ L, Ky P w s.heap m.2 m.1) (led : w.params.followText "set-order" = true ∨ t.led = true) (few : L.length < 64) {wanted M : Nat}
    (hw : SetTable.sizeAbove wanted - 1 = M) (hM : MaskOk M) (hw2 : SetTable.sizeAbove wanted ≤ 128) (wide : L.length * 5 < M * 3) {Q : Unit → Shared → Prop}
    (q : ∀ h' L' es' ep' t', Heap.SameBut a s.heap h' → MxS P w h' a L' es' ep' t' → L'.Perm L → Q () { s with heap := h' }) : wpAny (model P w) A (setRelay a wanted) Q E s := by
  have len := mrows_len en
  have fits : t.fits es.size = true := by
    simp only [SetTable.fits, SetTable.fill, dm, Bool.and_eq_true, beq_iff_eq, decide_eq_true_eq]
    show t.place.size = es.size ∧ t.place.size + 0 ≤ t.mask
    omega
  obtain ⟨t', order, er, pm, T, em, el, _, _⟩ := relaid_ok t (hs := es.map (·.1)) (wanted := wanted) hw hM (by rw [Array.size_map, len]; omega)
  rw [Array.size_map, len] at pm
  obtain ⟨L2, r1, r2, r3⟩ := reorder en pm
  rw [← r3] at T
  have s2 : (order.filterMap (es[·]?)).size = es.size := by rw [mrows_len r1, r2.length_eq, len]
  rw [setRelay_eq]
  refine wpAny_bind (wpAny_setState_of ho hd fits ?_)
  dsimp only
  refine wp_if_neg (by rw [sizeLine_eq]; omega) ?_
  try refine wpAny_bind (wpAny_pure ?_)
  rw [er]
  dsimp only
  refine wpAny_bind (wp_if_neg (by rw [s2]; simp) ?_)
  try refine wpAny_bind (wpAny_pure ?_)
  refine wpAny_pure ?_
  dsimp only
  refine wpAny_storeSet_of ho hd ?_ (by rw [s2, len, sizeLine_eq]; omega)
  have same : Heap.SameBut a s.heap (s.heap.update a (Obj.putSet (order.filterMap (es[·]?)) t')) := Heap.SameBut.update ..
  exact q _ L2 _ (ep + 1) t' same ⟨⟨_, store_at ho hd, ⟨hex.1, hex.2.1, hex.2.2⟩, rfl⟩, r1, T, (r2.map (·.2)).nodup_iff.mpr nd, fun m hm => (ks m (r2.mem_iff.mp hm)).off ho hd same, by rw [el]; exact led, by rw [r2.length_eq, em]; exact wide, by rw [r2.length_eq]; exact few⟩ r2
/-- behind the search -/
theorem addTail {o : Obj} (ho : s.heap.get? a = some o) (hex : o.ExactSet) (hd : o.data = .set es ep t) {L1 : List (Addr × List Key)} {es1 : Array (Int × Value)} {t1 : SetTable} (en : es1.toList = mrows P w L1) (tab : TabOk t1 (mhs P w L1)) (fill : t1.fill = L1.length) (mask : t1.mask = t.mask)
    (nd : (L1.map (·.2)).Nodup) (ks : ∀ m ∈ L1, Ky P w s.heap m.2 m.1) (led : w.params.followText "set-order" = true ∨ t1.led = true) (few : L1.length < 64) (len : L1.length = es.size + 1) (wide : es.size * 5 < t.mask * 3) {Q : Bool → Shared → Prop}
    (q : ∀ h' L' es' ep' t', Heap.SameBut a s.heap h' → MxS P w h' a L' es' ep' t' → L'.Perm L1 → Q true { s with heap := h' }) :
    wpAny (model P w) A (do
      storeSet a es1 t1
      if !false && t1.tooFull then setRelay a (SetTable.grown (es.size + 1))
      return true) Q E s := by
  have n1 := mrows_len en
  refine wpAny_bind (wpAny_storeSet_of ho hd ?_ (by rw [n1, sizeLine_eq]; omega))
  have same : Heap.SameBut a s.heap (s.heap.update a (Obj.putSet es1 t1)) := Heap.SameBut.update ..
  have ho1 := store_at (es' := es1) (t' := t1) ho hd
  generalize s.heap.update a (Obj.putSet es1 t1) = h1 at same ho1 ⊢
  have ks1 : ∀ m ∈ L1, Ky P w h1 m.2 m.1 := fun m hm => (ks m hm).off ho hd same
  by_cases full : t1.tooFull = true
  · have big : L1.length * 5 ≥ t1.mask * 3 := by
      have z := full
      unfold SetTable.tooFull at z
      rw [decide_eq_true_eq, fill] at z
      exact z
    have sz1 : t1.place.size = es1.size := by rw [n1, ← mhs_len (P := P) (w := w)]; exact tab.sz
    have go : ∀ M, SetTable.sizeAbove (SetTable.grown (es.size + 1)) - 1 = M → MaskOk M → SetTable.sizeAbove (SetTable.grown (es.size + 1)) ≤ 128 → L1.length * 5 < M * 3 → es1.size ≤ t1.mask →
        wpAny (model P w) A (setRelay a (SetTable.grown (es.size + 1))) (fun _ sz => wpAny (model P w) A (pure true) Q E sz) E { s with heap := h1 } := fun M g1 g2 g3 g4 g5 =>
      relayM (s := { s with heap := h1 }) ho1 ⟨hex.1, hex.2.1, hex.2.2⟩ rfl en sz1 tab.dm g5 nd ks1 led few g1 g2 g3 g4 fun h2 L2 es2 ep2 t2 same2 R2 pm2 => wpAny_pure (q h2 L2 es2 ep2 t2 (same.trans same2) R2 pm2)
    have two : (t1.mask = 7 ∧ es.size = 4) ∨ (t1.mask = 31 ∧ es.size = 18) := by
      rcases tab.mok with e | e | e
      · exact .inl ⟨e, by omega⟩
      · exact .inr ⟨e, by omega⟩
      · omega
    first
      | (refine wpAny_bind ?_; refine wp_if_pos (by rw [full]; rfl) ?_)
      | (refine wp_if_pos (by rw [full]; rfl) ?_; refine wpAny_bind ?_)
    rcases two with ⟨e1, e2⟩ | ⟨e1, e2⟩
    · exact go 31 (by rw [e2]; exact congrArg (· - 1) size_20) (.inr (.inl rfl)) (by rw [e2]; exact Nat.le_trans (Nat.le_of_eq size_20) (by decide)) (by omega) (by omega)
    · exact go 127 (by rw [e2]; exact congrArg (· - 1) size_76) (.inr (.inr rfl)) (by rw [e2]; exact Nat.le_of_eq size_76) (by omega) (by omega)
  · first
      | refine wp_if_neg (by rw [Bool.eq_false_iff.mpr full]; decide) ?_
      | (refine wpAny_bind ?_; refine wp_if_neg (by rw [Bool.eq_false_iff.mpr full]; decide) ?_; refine wpAny_pure ?_)
    refine wpAny_pure (q h1 L1 es1 (ep + 1) t1 same ⟨⟨_, ho1, ⟨hex.1, hex.2.1, hex.2.2⟩, rfl⟩, en, tab, nd, ks1, led, ?_, few⟩ (.refl _))
    have z : ¬ (L1.length * 5 ≥ t1.mask * 3) := fun y => full (by unfold SetTable.tooFull; rw [decide_eq_true_eq, fill]; exact y)
    omega
theorem MxS.add (R : MxS P w s.heap a L es ep t) {x : Addr} {k : List Key} (hx : Ky P w s.heap k x) (hu : A.units < cLine) (new : ∀ m ∈ L, m.2 ≠ k) (few : L.length + 1 < 64) {Q : Bool → Shared → Prop}
    (q : ∀ b h' L' es' ep' t', Heap.SameBut a s.heap h' → MxS P w h' a L' es' ep' t' → L'.Perm ((x, k) :: L) → Q b { s with heap := h' }) : wpAny (model P w) A (setAddHashed a (.ref x) (kh P w k)) Q E s := by
  obtain ⟨o, ho, hex, hd⟩ := R.ob
  have len := mrows_len R.en
  have wide := R.wide
  unfold setAddHashed
  refine wpAny_holding ?_
  rw [show (100000 : Nat) = 99999 + 1 from rfl, setAddHashedIn_succ]
  refine wpAny_bind (wpAny_setState_of ho hd R.fits ?_)
  dsimp only
  refine wp_if_neg (by simp [byScan, Value.scannable]) ?_
  try refine wpAny_bind (wpAny_pure ?_)
  obtain ⟨K, lim, gap, ahead⟩ := R.tab.first (by rw [mhs_len]; omega) (kh P w k)
  have lim2 : K < 100000 := by
    have : 10 * SetTable.turns t.mask ≤ 1420 := by
      unfold SetTable.turns
      rcases R.tab.mok with e | e | e <;> omega
    omega
  refine wpAny_bind (m := setSearch a (.ref x) (kh P w k) true) ?_
  unfold setSearch
  refine R.search hx hu new lim gap ahead ?_ 100000 0 none rfl (Nat.zero_le _) (by omega)
  dsimp only
  refine wpAny_bind (wpAny_setState_of ho hd R.fits ?_)
  dsimp only
  obtain ⟨p1, p2, p3, p4, p5, p6, p7, p8, p9⟩ := R.tab.put gap ahead
  generalize epp : SetTable.below t.place (way t.mask (kh P w k) K) = i at p1 p2 p3
  have hin : (SetTable.insertAt es i (kh P w k, Value.ref x)).toList = mrows P w (L.take i ++ (x, k) :: L.drop i) := by
    rw [SetTable.toList_insertAt, R.en]
    simp [mrows]
  have hhs : mhs P w (L.take i ++ (x, k) :: L.drop i) = (mhs P w L).take i ++ kh P w k :: (mhs P w L).drop i := by simp [mhs]
  rw [← hhs] at p3
  have pm := put_perm L i (x, k)
  have pl : (L.take i ++ (x, k) :: L.drop i).length = L.length + 1 := pm.length_eq
  have nd1 : ((L.take i ++ (x, k) :: L.drop i).map (·.2)).Nodup := (pm.map (·.2)).nodup_iff.mpr (List.nodup_cons.mpr ⟨fun z => by
    obtain ⟨m, hm, e⟩ := List.mem_map.mp z
    exact new m hm e, R.nd⟩)
  have ks1 : ∀ m ∈ L.take i ++ (x, k) :: L.drop i, Ky P w s.heap m.2 m.1 := fun m hm => by
    rcases List.mem_cons.mp (pm.mem_iff.mp hm) with e | hm
    · rw [e]; exact hx
    · exact R.ks m hm
  generalize L.take i ++ (x, k) :: L.drop i = L1 at hin hhs p3 pm pl nd1 ks1
  rw [mhs_len] at p9
  generalize t.put (way t.mask (kh P w k) K) = pt at p1 p3 p4 p5 p6 p7 p8 p9 ⊢
  obtain ⟨t1, i1⟩ := pt
  dsimp only at p1 p3 p4 p5 p6 p7 p8 p9 ⊢
  subst p1
  have led1 : w.params.followText "set-order" = true ∨ t1.led = true := by rw [p5]; exact R.led
  have tail : ∀ y : Bool, wpAny (model P w) A (do
      storeSet a (SetTable.insertAt es i1 (kh P w k, Value.ref x)) (if y = true then t1 else { t1 with plain := false })
      if !false && (if y = true then t1 else { t1 with plain := false }).tooFull then setRelay a (SetTable.grown (es.size + 1))
      return true) Q E s := fun y => by
    refine addTail ho hex hd hin (by cases y <;> first | exact p3 | exact tab_unplain p3) (by cases y <;> exact p9.trans pl.symm) (by cases y <;> exact p4) nd1 ks1 (by cases y <;> exact led1) (by omega) (by omega) (by omega) fun h' L' es' ep' t' same R' pm' => q true h' L' es' ep' t' same R' (pm'.trans pm)
  by_cases pt1 : t1.plain = true
  · first
      | (refine wpAny_bind ?_; refine wp_if_pos pt1 ?_; exact hx.hashBy tail)
      | exact wp_if_pos pt1 (wpAny_bind (hx.hashBy tail))
  · first
      | (refine wpAny_bind ?_; refine wp_if_neg pt1 ?_; exact wpAny_pure (tail true))
      | exact wp_if_neg pt1 (wpAny_bind (wpAny_pure (tail true)))
      | exact wp_if_neg pt1 (tail true)
end
end Cw

namespace Cw
open PySem PySem.Spec PyProof.Rows L2 PySem.Froz

/-! ### set(t), t a tuple of tuples, no two alike; its len -/
theorem MxS.keep {P : Program} {w : World} {h h' : Heap} {a : Addr} {L : List (Addr × List Key)} {es : Array (Int × Value)} {ep : Nat} {t : SetTable} (R : MxS P w h a L es ep t) (k : ∀ o, h.get? a = some o → h'.get? a = some o) (ks : ∀ m ∈ L, Ky P w h' m.2 m.1) : MxS P w h' a L es ep t := by
  obtain ⟨o, ho, r⟩ := R.ob
  exact ⟨⟨o, k o ho, r⟩, R.en, R.tab, R.nd, ks, R.led, R.wide, R.few⟩
theorem MxS.fresh {P : Program} {w : World} {h : Heap} {a : Addr} (ho : h.get? a = some (newS w)) : MxS P w h a [] #[] 0 (.fresh 0 0 (!w.params.followText "set-order")) where
  ob := ⟨_, ho, ⟨rfl, rfl, rfl⟩, rfl⟩
  en := rfl
  tab := ⟨.nil, rfl, rfl, .inl rfl, fun x z => absurd z (by simp [SetTable.fresh]), fun i _ _ z => absurd z (by simp [mhs])⟩
  nd := .nil
  ks := fun m z => absurd z (by simp)
  led := by
    show _ ∨ (!w.params.followText "set-order") = true
    cases w.params.followText "set-order"
    · exact .inr rfl
    · exact .inl rfl
  wide := by show 0 * 5 < 7 * 3; decide
  few := by show 0 < 64; decide
theorem ky_keep {P : Program} {w : World} {h h' : Heap} {k : List Key} {b : Addr} (x : Ky P w h k b) (kp : ∀ c o, h.get? c = some o → h'.get? c = some o) : Ky P w h' k b := by
  obtain ⟨o, xs, n, ho, r⟩ := x
  exact ⟨o, xs, n, kp b o ho, r⟩
theorem items_mix {P : Program} {w : World} : ∀ {k : List Key} {us : List Value}, Vals (k.map kV) us → ItemsAre (mixKind P w) k us
  | [], _, .nil => .nil
  | .inl i :: k, _, .cons r t => by
    obtain ⟨tk, rfl⟩ := r
    exact .cons (by show keyIs (.inl i) (.int i tk) = true; simp [keyIs, Value.isInt]) (items_mix t)
  | .inr x :: k, _, .cons r t => by
    obtain ⟨tk, rfl⟩ := r
    exact .cons (by show keyIs (.inr x) (.str x tk) = true; simp [keyIs, Value.isStrOf]) (items_mix t)
theorem refs_at {ms : List (Addr × List Key)} : ∀ {us : List Value}, Vals (ms.map fun m => V.ref m.1) us → us = ms.map fun m => Value.ref m.1 := by
  induction ms with
  | nil => intro us r; cases r; rfl
  | cons m ms ih =>
    intro us r
    cases r with
    | cons r t => cases r; rw [ih t]; rfl
/-- a set of so many members -/
def SzO (a : Addr) (n : Nat) : HO := .ext fun h => ∃ (o : Obj) (es : Array (Int × Value)) (ep : Nat) (t : SetTable), h.get? a = some o ∧ o.ExactSet ∧ o.data = .set es ep t ∧ t.fits es.size = true ∧ es.size = n
section
variable {X : Cx}
def rLenSz : List V → Hp → VK → Prop := fun xs H Q => ∃ (a : Addr) (n : Nat), xs = [.ref a] ∧ H a = some (SzO a n) ∧ n < 64 ∧ Q (.int n) H
theorem call_lenSz : CallR X (.builtin "len") rLenSz := by
  intro pins s σ H xs us Q I r ⟨a, n, ex, ha, few, q⟩
  subst ex
  rw [Vals.ref1 r]
  obtain ⟨o, es, ep, t, ho, hex, hd, hf, en⟩ := (I.hok a _ ha).1
  exact call_len_set ho hex hd hf (by rw [en]; omega) ⟨.int n, H, I.tok _, ⟨_, by rw [en]⟩, q⟩
/-! set(xs), xs a list of texts -/
def rSetTx (K : PySem.W.Frag) (P : Program) (w : World) : List V → Hp → VK → Prop := fun xs H Q => ∃ (l : Addr) (ys : List Str), xs = [.ref l] ∧ SqL K H l (ys.map V.str) ∧ ys.length < 64 ∧
  ∀ a m, (∀ z, z ∈ m ↔ z ∈ ys) → m.length ≤ ys.length → H a = none → Q (.ref a) (upd H a (TxO P w a m))
theorem call_setTx (hc : X.calm = true) (hu : X.A.units + 64 < cLine) : CallR X (.type "set") (rSetTx X.K X.prog X.w) := by
  intro pins s σ H xs us Q I r ⟨l, ys, ex, hl, few, q⟩
  subst ex
  rw [Vals.ref1 r]
  obtain ⟨its, rv, pl, _⟩ := I.list hl
  have hn : H s.heap.objs.size = none := I.hok.fresh (Nat.le_refl _)
  have hS := rv.strs
  have sz : its.length = ys.length := by have := rv.length; rw [List.length_map] at this; exact this.symm
  refine set_list (fun i h => ∃ m, TxA X.prog X.w h s.heap.objs.size m ∧ (∀ z, z ∈ m ↔ z ∈ ys.take i) ∧ m.length ≤ i) (I.ok.hd hc) pl.isList (show X.A.units + 3 < cLine by omega) ⟨?_⟩ ⟨?_⟩ ⟨?_, ?_⟩
  · rintro i h h' ⟨m, R, mem, len⟩ k kp
    exact ⟨m, R.keep k, mem, len⟩
  · rintro i v A E s1 Q1 hv un ⟨m, R, mem, len⟩ kp q1
    have hv' : its[i]? = some v := by simpa using hv
    obtain ⟨k, tk, e1, e2⟩ : ∃ k tk, ys[i]? = some k ∧ v = .str k tk := by
      have il : i < ys.length := by rw [← sz]; exact (List.getElem?_eq_some_iff.mp hv').1
      obtain ⟨tk, e⟩ := SS.strs_at hS i v hv'
      exact ⟨_, tk, List.getElem?_eq_getElem il, by rw [e, List.getD_eq_getElem?_getD, List.getElem?_eq_getElem il]; rfl⟩
    subst e2
    have il := (List.getElem?_eq_some_iff.mp e1).1
    have tk2 : ∀ z, (z ∈ (if k ∈ m then m else k :: m)) ↔ z ∈ ys.take (i + 1) := fun z => by
      rw [List.take_add_one, e1, List.mem_append, ← mem z]
      show z ∈ mem1 k m ↔ _
      rw [mem1_mem]
      simp only [Option.toList_some, List.mem_singleton]
      exact Or.comm
    unfold setAdd
    refine wpAny_holding (wpAny_bind ((PySem.strKind X.prog X.w).pyHash (is_str k tk) ?_))
    refine TxA.put (s := { s1 with toks := s1.toks + 1 }) R (Nat.lt_trans (show m.length + 1 < 65 by omega) (by decide)) (fun hk h' same R' => q1 true h' _ same (Nat.le_succ _) ⟨k :: m, R', fun z => ?_, by rw [List.length_cons]; omega⟩) fun hk => ?_
    · rw [← tk2 z, if_neg hk]
    · have := q1 false s1.heap (s1.toks + 1) (Heap.SameBut.refl _ _) (Nat.le_succ _) ⟨m, R, fun z => by rw [← tk2 z, if_pos hk], by omega⟩
      exact this
  · intro h' e
    exact ⟨[], ⟨⟨(#[], 0, .fresh 0 0 (!X.w.params.followText "set-order")), e, TxOk.nil (by rfl), .nil, by
      show _ ∨ (!X.w.params.followText "set-order") = true
      cases X.w.params.followText "set-order"
      · exact .inr rfl
      · exact .inl rfl⟩, .nil⟩, fun z => by simp, Nat.le_refl _⟩
  · rintro h' tk ⟨m, R, mem, len⟩ kp
    have e : its.toArray.size = ys.length := by simpa using sz
    rw [e] at mem len
    rw [List.take_length] at mem
    exact ⟨.ref _, _, I.laid (a := s.heap.objs.size) (t' := tk) kp (Nat.le_refl _) (txO_new R), rfl, q _ m mem len hn⟩
end
end Cw

namespace Cw
open PySem PySem.Spec PyProof.Rows L2 PySem.Froz

/-! ### targets: a list's items, an attribute -/
section
variable {X : Cx} {pos : Pos}
def gLs (k : Nat) (t : TGDs) : TGD := fun d ρ c Φ => match seqOf d with
  | some ds => (match d with
    | .tup _ => False
    | _ => ds.length = k ∧ t ds ρ c Φ)
  | none => False
theorem pgd_lst {es : List Expr} {k : Nat} {t : TGDs} {n : Nat} (hc : X.calm = true) (h : PGDs X es t) (hn : (assignEach es X.env).length = n := by rfl) (hst : (assignEach es X.env).findIdx? (·.1) = none := by rfl) : PGD X (.Tuple es k pos) (gLs n t) :=
  PG.imp (pg_lst hc h hn hst) fun v σ H Q ⟨m, ρ, c, d, Φ, S, r, h, nn⟩ => by
    cases d <;> first | exact h.elim | skip
    · obtain ⟨a, xs, rfl, h1, h2⟩ := r
      exact ⟨a, xs, rfl, .inl (.inl (ex_hid m H _ _ h1)), by rw [rlen h2]; exact h.1, m, ρ, c, _, Φ, S, h2, h.2, nn⟩
    · obtain ⟨a, xs, rfl, h1, h2⟩ := r
      exact ⟨a, xs, rfl, ex_l (ex_hid m H) h1, by rw [rlen h2]; exact h.1, m, ρ, c, _, Φ, S, h2, h.2, nn⟩
def gFld (C : Addr) (f : Str) (ta : TD) : TGD := fun d ρ c Φ => ta ρ c fun x c1 => ∃ k ns ds, x = .cell k ∧ c1[k]? = some (.obj C ns ds) ∧ ns.length < 1000 ∧ Φ ρ (c1.set k (.obj C (setF f d ns ds).1 (setF f d ns ds).2))
theorem pgd_fld {C : Addr} {f : Str} {o : Expr} {ta : TD} (cl : Cls X.K C) (na : NoAttr X.K C f) (ha : PD X o ta) : PGD X (.Attribute o f pos) (gFld C f ta) := by
  refine ⟨fun pins s σ H v u Q I r ⟨m, ρ, c, d, Φ, S, rv, h, n⟩ => ?_⟩
  rw [PySem.assign_Attribute]
  refine wpAny_bind (wpAny_holding (thn (ha.run pins s σ H (fun x H' => ∃ m' c' D', D' = x ∧ (∃ k ns ds, ∃ a, m'.ix[k]? = some a ∧ x = .ref a ∧ c'[k]? = some (.obj C ns ds) ∧ ns.length < 1000 ∧ Φ ρ (c'.set k (.obj C (setF f d ns ds).1 (setF f d ns ds).2))) ∧ CR X.K H' m' c' ∧ Le m H m' H') I ⟨m, ρ, c, _, S, h, fun x c1 w H1 m1 ⟨k, ns, ds, ex, h1, h2, h3⟩ C1 R1 L1 => ?_⟩) fun ov s1 ⟨x, H1, I1, rx, m1, c1, D', eD, ⟨k, ns, ds, a, h4, ex, h1, h2, h3⟩, C1, L1⟩ => ?_))
  · subst ex
    obtain ⟨a, h4, ew⟩ := R1
    exact ⟨m1, c1, w, rfl, ⟨k, ns, ds, a, h4, ew, h1, h2, h3⟩, C1, L1⟩
  · subst ex
    obtain rfl : ov = Value.ref a := rx
    obtain ⟨a', h5, dx, fs, h6, h7, h8⟩ := C1.at_ k _ h1
    rw [h4] at h5; cases h5
    have hm : a ∈ m1.ix := List.mem_of_getElem? h4
    have z1 := setF_at (f := f) (L1.r rv) h7 h8
    have z := cell_put (o := .ins C dx (putF f v fs)) (ce := .obj C (setF f d ns ds).1 (setF f d ns ds).2) C1 h4 ⟨dx, _, upd_same, z1.1, by show RL _ _ (hid m1 _) _ _; rw [hid_mut hm]; exact z1.2⟩
    refine wpAny_bind (wpAny_standAt (wpAny_bind (wpAny_holding (setattr_ok I1 h6 cl na (by rw [← List.length_map (f := (·.1)), h7]; exact h2) r fun s2 I2 => wpAny_release ⟨σ, _, I2, ?_⟩))))
    exact n σ _ m1 ρ _ h3 ((S.step L1 C1).step z.2 z.1) (L1.trans z.2)
end
/-! ### f'{a}{b}' -/
def fmtS : D → Option Str
  | .int i => if i.natAbs.log2 < 1920 then some (toString i) else none
  | .str x => if x.length ≤ sizeLine then some x else none
  | _ => none
def dFs2 (ta tb : TD) : TD := fun ρ c Φ => ta ρ c fun x c1 => ∃ a, fmtS x = some a ∧ a.length ≤ sizeLine ∧ tb ρ c1 fun y c2 => ∃ b, fmtS y = some b ∧ a.length + b.length ≤ sizeLine ∧ Φ (.str (a ++ b)) c2
section
variable {X : Cx} {a b : Expr} {ta tb : TD} {pos : Pos}
theorem fmt_lift {K : PySem.W.Frag} {H : Hp} {m : Ad} {d : D} {v : V} {y : Str} {Q : VK} (h : fmtS d = some y) (r : RR K H m d v) (q : Q (.str y) H) : (∃ x : Str, v = .str x ∧ x.length ≤ sizeLine ∧ Q (.str x) H) ∨ ∃ i : Int, v = .int i ∧ i.natAbs.log2 < 1920 ∧ Q (.str (toString i)) H := by
  cases d <;> first | (cases h; done) | skip
  · rename_i i
    have h : (if i.natAbs.log2 < 1920 then some (toString i : Str) else none) = some y := h
    by_cases c : i.natAbs.log2 < 1920
    · rw [if_pos c] at h; cases h
      exact .inr ⟨i, r, c, q⟩
    · rw [if_neg c] at h; cases h
  · rename_i x
    have h : (if x.length ≤ sizeLine then some x else none) = some y := h
    by_cases c : x.length ≤ sizeLine
    · rw [if_pos c] at h; cases h
      exact .inl ⟨_, r, c, q⟩
    · rw [if_neg c] at h; cases h
theorem str_nil_app (x : Str) : Str.empty ++ x = x := by cases x with | mk l => show (⟨#[] ++ l⟩ : Str) = ⟨l⟩; simp
theorem pd_fs2 {p1 p2 : Pos} (ha : PD X a ta) (hb : PD X b tb) : PD X (.JoinedStr [.FormattedValue a (-1) none p1, .FormattedValue b (-1) none p2] pos) (dFs2 ta tb) :=
  PE.imp (pe_joined (.cons (pe_fmt ha) (.cons (pe_fmt hb) .nil))) fun σ H Q ⟨m, ρ, c, Φ, S, h, q⟩ =>
    ⟨m, ρ, c, _, S, h, fun x c1 u H1 m1 ⟨xa, ea, la, hx⟩ C1 R1 L1 => fmt_lift (Q := fun v H' => ∃ y : Str, v = .str y ∧ (Str.empty ++ y).length ≤ sizeLine ∧ tJs [tFmt (lift X.K tb)] (Str.empty ++ y) σ H' fun out H1 => Q (.str out) H1) ea R1
      ⟨xa, rfl, by rw [str_nil_app]; exact la, m1, ρ, c1, _, S.step L1 C1, hx, fun y c2 v H2 m2 ⟨xb, eb, lb, hy⟩ C2 R2 L2 => fmt_lift (Q := fun v H' => ∃ y : Str, v = .str y ∧ (Str.empty ++ xa ++ y).length ≤ sizeLine ∧ tJs [] (Str.empty ++ xa ++ y) σ H' fun out H1 => Q (.str out) H1) eb R2
        ⟨xb, rfl, by rw [str_nil_app, Str.length_append]; exact lb, by
          show Q (.str (Str.empty ++ xa ++ xb)) H2
          rw [str_nil_app]
          exact q (.str (xa ++ xb)) c2 _ H2 m2 hy C2 rfl (L1.trans L2)⟩⟩⟩
end
end Cw

namespace Cw
open PySem PySem.Spec PyProof.Rows L2 PySem.Froz

/-! ### [e for x in .. for y in ..], no cells around it -/
def dLc2 (ti : TDs) (i : Nat) (tj : TDs) (j : Nat) (te : TD) : TD := fun ρ c Φ => ti ρ c fun ds c1 => ∃ (es : D → List D) (f : D → D → D), c1 = [] ∧
  (∀ d ∈ ds, ∀ acc (Ψ : List D → List Cell → Prop), Ψ (es d) [.lst acc] → tj (((ρ.set j none).set i none).set i (some d)) [.lst acc] Ψ) ∧
  (∀ d ∈ ds, ∀ e ∈ es d, okD 0 (f d e) = true ∧ ∀ acc (Ψ : D → List Cell → Prop), Ψ (f d e) [.lst acc] → te ((((ρ.set j none).set i none).set i (some d)).set j (some e)) [.lst acc] Ψ) ∧
  (ds.flatMap fun d => (es d).map (f d)).length ≤ sizeLine ∧ Φ (.lst (ds.flatMap fun d => (es d).map (f d))) []
theorem SR.wipe {K : PySem.W.Frag} {σ : L2.St} {H : Hp} {m : Ad} {ρ : Env} {c : List Cell} (S : SR K σ H m ρ c) (i : Nat) : SR K (σ.set i none) H m (ρ.set i none) c :=
  ⟨S.cr, by rw [List.length_set, List.length_set]; exact S.len, fun k d e => by
    by_cases hk : i = k
    · subst hk
      rw [List.getElem?_set_self'] at e
      cases h : ρ[i]? with
      | none => rw [h] at e; cases e
      | some x => rw [h] at e; cases e
    · rw [List.getElem?_set_ne hk] at e
      obtain ⟨v, h1, h2⟩ := S.sl k d e
      exact ⟨v, by rw [List.getElem?_set_ne hk]; exact h1, h2⟩⟩
theorem okDs_flat {es : D → List D} {f : D → D → D} : ∀ {ds : List D}, (∀ d ∈ ds, ∀ e ∈ es d, okD 0 (f d e) = true) → okDs 0 (ds.flatMap fun d => (es d).map (f d)) = true := fun {ds} h => okDs_of fun x hx => by
  obtain ⟨d, hd, hx⟩ := List.mem_flatMap.mp hx
  obtain ⟨e, he, rfl⟩ := List.mem_map.mp hx
  exact h d hd e he
theorem lc2_walk {K : PySem.W.Frag} {J : It} {m : Ad} {H1 : Hp} {ds : List D} {σ : L2.St} {ρ : Env} {i j : Nat} {tj : TDs} {te : TD} {Qd : Addr → Hp → Prop} {es : D → List D} {f : D → D → D} (wk : Walks K J m H1 ds) (S : SR K σ H1 m ρ [])
    (hj : ∀ d ∈ ds, ∀ acc (Ψ : List D → List Cell → Prop), Ψ (es d) [.lst acc] → tj (((ρ.set j none).set i none).set i (some d)) [.lst acc] Ψ)
    (he : ∀ d ∈ ds, ∀ e ∈ es d, okD 0 (f d e) = true ∧ ∀ acc (Ψ : D → List Cell → Prop), Ψ (f d e) [.lst acc] → te ((((ρ.set j none).set i none).set i (some d)).set j (some e)) [.lst acc] Ψ)
    (hl : (ds.flatMap fun d => (es d).map (f d)).length ≤ sizeLine)
    (q : ∀ p H', CR K H' m [] → RR K H' m (.lst (ds.flatMap fun d => (es d).map (f d))) (.ref p) → Le m H1 m H' → Qd p H') : ∀ p, H1 p = none → ∃ W : Nat → Nat → Hp → Prop, (∃ mm, W 0 mm (upd H1 p (.lst []))) ∧ ∀ n mm H, W n mm H →
      (J.stop n H ∧ Qd p H) ∨ (J.go n H ∧ ∃ Nx : Hp → Prop, (∀ H', Nx H' → ∃ m', m' < mm ∧ W (n + 1) m' H') ∧ ∀ x H', J.yld n H x H' → gName i x (L2.wipe σ [i, j]) H' fun σ2 H2 => L2.wipe σ2 [i, j] = L2.wipe σ [i, j] ∧
        liftI K tj σ2 H2 fun J1 H4 => ∃ W1 : Nat → Nat → Hp → Prop, (∃ mm, W1 0 mm H4) ∧ ∀ n1 k H, W1 n1 k H →
          (J1.stop n1 H ∧ Nx H) ∨ (J1.go n1 H ∧ ∃ Nx1 : Hp → Prop, (∀ H', Nx1 H' → ∃ k', k' < k ∧ W1 (n1 + 1) k' H') ∧ ∀ x H', J1.yld n1 H x H' → gName j x (L2.wipe σ2 [j]) H' fun σ3 H5 => L2.wipe σ3 [j] = L2.wipe σ2 [j] ∧
            lift K te σ3 H5 fun y H7 => ∃ acc, H7 p = some (.lst acc) ∧ acc.length < sizeLine ∧ Nx1 (upd H7 p (.lst (acc ++ [y]))))) := by
  intro p hp
  have z0 := cell_new (ce := .lst []) (o := .lst []) S.cr hp ⟨[], upd_same, rfl⟩
  have ix0 : m.ix = [] := List.eq_nil_of_length_eq_zero S.cr.len
  have last : (m.push p).ix[0]? = some p := by show (m.ix ++ [p])[0]? = _; rw [ix0]; rfl
  have inp : p ∈ (m.push p).ix := List.mem_of_getElem? last
  have S0 := (S.wipe j).wipe i
  refine ⟨fun n mm H => mm = ds.length - n ∧ n ≤ ds.length ∧ CR K H (m.push p) [.lst ((ds.take n).flatMap fun d => (es d).map (f d))] ∧ Le m H1 (m.push p) H, ⟨ds.length, rfl, Nat.zero_le _, z0.1, z0.2.1⟩, ?_⟩
  rintro n mm H ⟨rfl, hn, C, l⟩
  by_cases lt : n < ds.length
  · refine .inr ⟨wk.go n (m.push p) H _ l C lt, fun H' => CR K H' (m.push p) [.lst ((ds.take (n + 1)).flatMap fun d => (es d).map (f d))] ∧ Le m H1 (m.push p) H', fun H' w => ⟨ds.length - (n + 1), by omega, rfl, lt, w⟩, fun x H2 y => ?_⟩
    obtain ⟨d, hd, C2, l2, rx⟩ := wk.yld n (m.push p) H _ x H2 l C lt y
    have dm := List.mem_of_getElem? hd
    have S2 : SR K ((L2.wipe σ [i, j]).set i (some x)) H2 (m.push p) (((ρ.set j none).set i none).set i (some d)) [.lst ((ds.take n).flatMap fun d => (es d).map (f d))] := (S0.step (l.trans l2) C2).set rx
    refine ⟨?_, m.push p, _, _, fun t c' => t = es d ∧ c' = [.lst ((ds.take n).flatMap fun d => (es d).map (f d))], S2, hj d dm _ _ ⟨rfl, rfl⟩, fun t c' J1 H4 m4 ⟨et, ec⟩ C4 wk1 l4 => ?_⟩
    · show ((((σ.set j none).set i none).set i (some x)).set j none).set i none = (σ.set j none).set i none
      by_cases ij : i = j
      · subst ij; simp [List.set_set]
      · rw [List.set_set, List.set_comm (some x) none ij, List.set_set, List.set_set]
    subst et ec
    have em := CR.same (by simp [Ad.push, ix0]) C4 l4
    subst em
    have grow : (ds.take (n + 1)).flatMap (fun d => (es d).map (f d)) = (ds.take n).flatMap (fun d => (es d).map (f d)) ++ (es d).map (f d) := by
      rw [List.take_add_one, hd]; simp
    have lim : ((ds.take n).flatMap fun d => (es d).map (f d)).length + (es d).length ≤ sizeLine := by
      have h1 : ((ds.take (n + 1)).flatMap fun d => (es d).map (f d)).length ≤ (ds.flatMap fun d => (es d).map (f d)).length := by
        conv => rhs; rw [← List.take_append_drop (n + 1) ds, List.flatMap_append, List.length_append]
        exact Nat.le_add_right _ _
      rw [grow, List.length_append, List.length_map] at h1
      omega
    refine ⟨fun n1 k H => k = (es d).length - n1 ∧ n1 ≤ (es d).length ∧ CR K H (m.push p) [.lst ((ds.take n).flatMap (fun d => (es d).map (f d)) ++ ((es d).take n1).map (f d))] ∧ Le (m.push p) H4 (m.push p) H, ⟨_, rfl, Nat.zero_le _, by simpa using C4, Le.refl _ _⟩, ?_⟩
    rintro n1 k H5 ⟨rfl, hn1, C5, l5⟩
    by_cases lt1 : n1 < (es d).length
    · refine .inr ⟨wk1.go n1 (m.push p) H5 _ l5 C5 lt1, fun H' => CR K H' (m.push p) [.lst ((ds.take n).flatMap (fun d => (es d).map (f d)) ++ ((es d).take (n1 + 1)).map (f d))] ∧ Le (m.push p) H4 (m.push p) H', fun H' w => ⟨(es d).length - (n1 + 1), by omega, rfl, lt1, w⟩, fun x1 H6 y1 => ?_⟩
      obtain ⟨e, hee, C6, l6, rx1⟩ := wk1.yld n1 (m.push p) H5 _ x1 H6 l5 C5 lt1 y1
      have S3 := (S2.step (l4.trans (l5.trans l6)) C6).wipe j
      have S4 := S3.set (i := j) rx1
      rw [show ((((ρ.set j none).set i none).set i (some d)).set j none).set j (some e) = (((ρ.set j none).set i none).set i (some d)).set j (some e) from List.set_set ..] at S4
      refine ⟨?_, m.push p, _, _, fun t c' => t = f d e ∧ c' = [.lst ((ds.take n).flatMap (fun d => (es d).map (f d)) ++ ((es d).take n1).map (f d))], S4, (he d dm e (List.mem_of_getElem? hee)).2 _ _ ⟨rfl, rfl⟩, fun t c' u H7 m7 ⟨et, ec⟩ C7 R7 l7 => ?_⟩
      · show (((((L2.wipe σ [i, j]).set i (some x)).set j none).set j (some x1)).set j none) = ((L2.wipe σ [i, j]).set i (some x)).set j none
        rw [List.set_set, List.set_set]
      subst et ec
      have em := CR.same (by simp [Ad.push, ix0]) C7 l7
      subst em
      obtain ⟨a, h5, xs, h6, h7⟩ := C7.at_ 0 _ rfl
      rw [last] at h5; cases h5
      have hx := rlen h7
      have zl : xs.length < sizeLine := by
        rw [hx, List.length_append, List.length_map, List.length_take]; omega
      have z := cell_put (o := .lst (xs ++ [u])) (ce := .lst (((ds.take n).flatMap (fun d => (es d).map (f d)) ++ ((es d).take n1).map (f d)) ++ [f d e])) C7 last ⟨_, upd_same, by show RL _ _ (hid (m.push p) _) _ _; rw [hid_mut inp]; exact RL.append h7 ⟨u, [], rfl, R7, rfl⟩⟩
      refine ⟨xs, h6, zl, ?_, (l5.trans (l6.trans l7)).trans z.2⟩
      have z1 := z.1
      rw [List.take_add_one, hee, Option.toList_some, List.map_append, ← List.append_assoc]
      exact z1
    · have e1 : n1 = (es d).length := by omega
      subst e1
      rw [List.take_length] at C5
      exact .inl ⟨wk1.stop _ (m.push p) H5 _ l5 C5 (Nat.le_refl _), by rw [grow]; exact C5, (l.trans (l2.trans l4)).trans l5⟩
  · have en : n = ds.length := by omega
    subst en
    rw [List.take_length] at C
    obtain ⟨C', _, ⟨xs, h4, h5⟩, hp1, hp2⟩ := CR.pop (c := []) C rfl
    exact .inl ⟨wk.stop _ (m.push p) H _ l C (Nat.le_refl _), q p H C' ⟨p, xs, rfl, by rw [hid_of ⟨hp1, hp2⟩]; exact h4, RL.low ex_pop (low_push C'.len) _ xs (okDs_flat fun d hd e he' => (he d hd e he').1) h5⟩ ⟨fun _ _ e => e, l.ex.trans ex_pop, rfl, l.hk' ex_pop, fun _ h => .inl h, l.al⟩⟩
section
variable {X : Cx} {iter iter1 elt : Expr} {te : TD} {pos tp tp1 : Pos} {ti tj : TDs} {scope : Scope} {x y : Str} {i j : Nat}
theorem pd_lc2 (hc : X.calm = true) (hN : X.N.Nodup) (hi : PID X (.Name x tp) iter ti) (ok : blkC X.N X.env.scope scope [(x, i), (y, j)] = true)
    (hg : ∀ (s : Shared) (H : Hp) (C : Addr) (cl : List (Str × Addr)) (fp : List Addr), PG (X.blk s H scope (compEnvC scope cl C X.env) fp) (.Name x tp) (gName i))
    (hi1 : ∀ (s : Shared) (H : Hp) (C : Addr) (cl : List (Str × Addr)) (fp : List Addr), PID (X.blk s H scope (compEnvC scope cl C X.env) fp) (.Name y tp1) iter1 tj)
    (hg1 : ∀ (s : Shared) (H : Hp) (C : Addr) (cl : List (Str × Addr)) (fp : List Addr), PG (X.blk s H scope (compEnvC scope cl C X.env) fp) (.Name y tp1) (gName j))
    (he : ∀ (s : Shared) (H : Hp) (C : Addr) (cl : List (Str × Addr)) (fp : List Addr), PD (X.blk s H scope (compEnvC scope cl C X.env) fp) elt te) (hs : ∀ x, foldedSetIterable iter X.env x = pure x := by intro _; rfl) (hs1 : ∀ env x, foldedSetIterable iter1 env x = pure x := by intro _ _; rfl) :
    PD X (.ListComp elt [⟨.Name x tp, iter, [], 0⟩, ⟨.Name y tp1, iter1, [], 0⟩] scope pos) (dLc2 ti i tj j te) :=
  PE.imp (pe_lc2 (own := [(x, i), (y, j)]) (vs1 := [j]) (te := lift X.K te) (wi1 := liftI X.K tj) hc hN hi (blkOk_by ok) (by simp) hg (fun _ _ _ _ _ => pts_nil) (fun s H C cl fp => hi1 s H C cl fp) hg1 (fun _ _ _ _ _ => pts_nil) (fun s H C cl fp => he s H C cl fp) hs hs1) fun σ H Q ⟨m, ρ, c, Φ, S, h, q⟩ =>
    ⟨m, ρ, c, _, S, h, fun ds c1 J H1 m1 ⟨es, f, ec, h1, h2, h3, h4⟩ C1 wk L1 => by
      subst ec
      exact lc2_walk wk (S.step L1 C1) h1 h2 h3 fun p H' C' R' l' => q _ [] _ H' m1 h4 C' R' (L1.trans l')⟩
end
end Cw

namespace Cw
open PySem PySem.Spec PyProof.Rows L2 PySem.Froz

/-! ### len(set(t)), sorted(set(l)) -/
def kD : Key → D
  | .inl i => .int i
  | .inr x => .str x
def keyD (k : List Key) : D := .tup (k.map kD)
theorem rl_keys {K : PySem.W.Frag} {ix : List Addr} {H : Hp} : ∀ {k : List Key} {xs : List V}, RL K ix H (k.map kD) xs → xs = k.map kV
  | [], _, h => h
  | .inl i :: k, _, ⟨x, r, e, h1, h2⟩ => by subst e; rw [rl_keys h2]; cases h1; rfl
  | .inr z :: k, _, ⟨x, r, e, h1, h2⟩ => by subst e; rw [rl_keys h2]; cases h1; rfl
theorem rl_rows {K : PySem.W.Frag} {ix : List Addr} {H : Hp} : ∀ {ks : List (List Key)} {xs : List V}, RL K ix H (ks.map keyD) xs → ∃ ms : List (Addr × List Key), xs = ms.map (fun m => .ref m.1) ∧ ms.map (·.2) = ks ∧ ∀ m ∈ ms, SqT K H m.1 (m.2.map kV)
  | [], _, h => ⟨[], h, rfl, fun m z => absurd z (by simp)⟩
  | k :: ks, _, ⟨x, r, e, ⟨b, ys, ex, h1, h2⟩, h3⟩ => by
    subst e ex
    obtain ⟨ms, e1, e2, e3⟩ := rl_rows h3
    have ey := rl_keys h2
    subst ey
    exact ⟨(b, k) :: ms, by rw [e1]; rfl, by rw [List.map_cons, e2], fun m z => by
      rcases List.mem_cons.mp z with e | z
      · subst e; exact h1
      · exact e3 m z⟩
theorem txts_eq {K : PySem.W.Frag} {ix : List Addr} {H : Hp} : ∀ {ys : List Str} {xs : List V}, RL K ix H (ys.map D.str) xs → xs = ys.map V.str
  | [], _, h => h
  | z :: ys, _, ⟨x, r, e, h1, h2⟩ => by subst e; rw [txts_eq h2]; cases h1; rfl
def dSortL (te : TD) : TD := fun ρ c Φ => te ρ c fun d c1 => ∃ ys : List Str, d = .lst (ys.map .str) ∧ ys.length < 64 ∧ ∀ zs : List Str, zs.Nodup → sortedS zs = true → (∀ x, x ∈ zs ↔ x ∈ ys) → Φ (.lst (zs.map .str)) c1
section
variable {X : Cx} {e : Expr} {te : TD} {pos pp p1 p2 : Pos}
theorem pd_sortL (hu : X.A.units + 64 < cLine) (hc : X.calm = true) (he : PD X e te) (hm : X.mg "sorted" = none) (hm2 : X.mg "set" = none) (hg : Gl X "sorted" := by rfl) (hg2 : Gl X "set" := by rfl)
    (h1 : starEach [e] X.env = (false, eval e X.env) :: starEach [] X.env := by rfl) (h2 : (backTo p1 (starEach [] X.env)).any (·.1) = false := by rfl)
    (h3 : starEach [.Call (.Name "set" p2) [e] [] p1] X.env = (false, eval (.Call (.Name "set" p2) [e] [] p1) X.env) :: starEach [] X.env := by rfl) (h4 : (backTo pos (starEach [] X.env)).any (·.1) = false := by rfl) :
    PD X (.Call (.Name "sorted" pp) [.Call (.Name "set" p2) [e] [] p1] [] pos) (dSortL te) :=
  PE.imp (pe_callB (call_sortTx hc) hg hm boot_sorted (pa_cons (pe_callTy (call_setTx hc hu) hg2 hm2 boot_set (pa_cons he pa_nil h1) (by decide) (by decide) h1 h2) pa_nil h3) (by decide) (by decide) h3 h4) fun σ H Q ⟨m, ρ, c, Φ, S, h, q⟩ =>
    ⟨m, ρ, c, _, S, h, fun d c1 u H1 m1 ⟨ys, ed, few, hΦ⟩ C1 R1 L1 => by
      subst ed
      obtain ⟨l, xs, eu, s1, s2⟩ := R1
      have ex : xs = ys.map .str := txts_eq s2
      subst eu ex
      exact ⟨l, ys, rfl, .inl (.inl (ex_hid m1 H1 _ _ s1)), few, fun a z mz ml ha => ⟨a, z, rfl, upd_same, by omega, fun zs b nd mb so hb => by
        have C2 := C1.new (o := TxO X.prog X.w a z) ha
        have L2 := Le.new (o := TxO X.prog X.w a z) ha C1
        exact q _ c1 _ _ m1 (hΦ zs nd so fun x => (mb x).trans (mz x)) (C2.new hb) (RR.newL C2 hb (rl_txts zs)) ((L1.trans L2).trans (Le.new hb C2))⟩⟩⟩
end
/-! ### bool(x) of an object without a truth of its own -/
section
variable {prog : Program} {w : World} {A : Around} {E : Value → Shared → Prop} {s : Shared} {K : PySem.W.Frag} {x C : Addr} {ox : Obj} {od : Option Obj}
end
section
variable {X : Cx} {C : Addr} {e : Expr} {te : TD} {pos p : Pos}
end
end Cw

namespace Cw
open PySem PySem.Spec PyProof.Rows L2 PySem.Froz

/-! ### t[::-1] of a tuple -/
section
variable {prog : Program} {w : World} {A : Around} {E : Value → Shared → Prop} {s : Shared}
end
section
variable {X : Cx} {e : Expr} {te : TD} {k : Nat} {p1 p2 p3 pos : Pos}
end
end Cw

namespace Cw
open PySem PySem.Spec PyProof.Rows L2

/-! ### a def called by keywords alone, in any order -/
section
variable {X : Cx} {CX : CXT} {k np : Nat} {f : Addr} {fd : FuncData} {ps ks : List Str} {S : Pm} {E : XK} {x : Str} {p pos : Pos} {kws : List Keyword} {tks : TDs} {sp : Sp} {tk : TA} {g : List Value → List Value → List Value} {gV : List V → List V → List V}
end

/-! ### str * int -/
section
variable {X : Cx} {a b : Expr} {ta tb : TD} {pos : Pos}
end

/-! ### s[::-1] of a str -/
section
variable {X : Cx} {e : Expr} {te : TD} {k : Nat} {p1 p2 p3 pos : Pos}
end
end Cw

namespace Cw
open PySem PySem.Spec PyProof.Rows L2

/-! ### for over a mutable list that no turn changes -/
section
variable {X : Cx} {tg iter : Expr} {ta : TD} {pos : Pos}
end

/-! ### name += e -/
section
variable {X : Cx} {te : TD} {e : Expr} {pos pos' : Pos} {x : Str} {i : Nat}
end

/-! ### while -/
section
variable {X : Cx} {e : Expr} {pos : Pos} {tc : TDt} {tb : TSD} {body : List Stmt}
end
end Cw

namespace Cw
open PySem PySem.Spec PyProof.Rows L2
open PySem.Sem (wp)

/-! ### enumerate of a tuple -/
section
variable {prog : Program} {w : World} {A : Around} {E : Value → Shared → Prop} {s : Shared}
end
section
variable {prog : Program} {w : World} {A : Around} {E : Value → Shared → Prop} {s : Shared}
end
section
variable {X : Cx} {e : Expr} {te : TD} {p pos tpos : Pos} {elts : List Expr} {kk : Nat}
end
end Cw

namespace Cw
open PySem PySem.Spec PyProof.Rows L2

/-! ### {k: v for x in ..}, keys texts or ints, each once -/
section
variable {X : Cx} {iter kx vx : Expr} {tk tv : TD} {tt : TDt} {pos pp tp : Pos} {ti : TDs} {ifs : List Expr} {scope : Scope} {x : Str} {i : Nat}
end

section
variable {X : Cx} {iter kx vx : Expr} {tk tv : TD} {tt : TDt} {pos pp tp : Pos} {ti : TDs} {ifs : List Expr} {scope : Scope} {x y : Str} {i j : Nat}
end

/-! ### d[k] -/
section
variable {X : Cx} {o i : Expr} {pos : Pos} {td ty : TD} {k : Nat}
end
end Cw

namespace Cw
open PySem PySem.Spec PyProof.Rows L2
section
variable {X : Cx}
end
section
variable {X : Cx} {e : Expr} {ta : TD} {pos pp : Pos}
end
/-! ### a + b, lists, as a new mutable list; list * int -/
section
variable {X : Cx} {a b : Expr} {ta tb : TD} {pos : Pos}
end
/-! ### a def that knows of no repr around it, nothing mutable handed in -/
section
variable {X : Cx} {k np : Nat} {f : Addr} {fd : FuncData} {ps : List Str} {S : Pm} {E : XK} {x : Str} {p pos : Pos} {e : Expr} {es : List Expr} {tas : TDs}
end
end Cw

namespace Cw
open PySem PySem.Spec PyProof.Rows L2
/-! ### tuple * int, also by 0 and 1 -/
/-! the reading -/
section
variable {X : Cx} {a b : Expr} {ta tb : TD} {pos : Pos}
end
end Cw

namespace Cw
open PySem PySem.Spec PyProof.Rows L2

/-! ### a dict is locked, and unlocked -/
structure Exr (H H' : Hp) : Prop where
  rd : ∀ a u, (∀ od w, u ≠ .frz od w) → Rd H a u → Rd H' a u
  pl : ∀ a o, H a = some o → (∀ kvs, o ≠ .dK kvs) → (∀ od w, o ≠ .frz od w) → H' a = some o
section
variable {K : PySem.W.Frag} {m : List Addr} {H H' : Hp}
end
section
variable {K : PySem.W.Frag} {m m' : Ad} {H H' : Hp} {σ : L2.St} {ρ : Env} {c c' : List Cell} {a : Addr} {u : HO}
end

/-! ### {k: v for x in d}, d a dict that stands -/
section
variable {X : Cx} {kx vx : Expr} {tk tv : TD} {pos pp tp : Pos} {scope : Scope} {x y : Str} {i j : Nat}
end

/-! ### [e for a, b, .. in ..] -/
section
variable {α : Type}
end
section
variable {K : PySem.W.Frag} {H : Hp} {m : Ad} {ρ : Env} {c : List Cell} {σ : L2.St}
end
section
variable {X : Cx} {iter elt : Expr} {te : TD} {tt : TDt} {pos tp : Pos} {ti : TDs} {ifs : List Expr} {scope : Scope} {own : List (Str × Nat)} {elts : List Expr} {kk : Nat}
end
end Cw

namespace Cw
open PySem PySem.Spec PyProof.Rows L2

/-! ### min(xs), max(xs) of a list of ints -/
section
variable {X : Cx} {e e2 o a b : Expr} {ta tb : TD} {pos pp apos : Pos}
/-! ### xs + ys as a new list that stands -/
/-! ### xs[::-1] of a list -/
/-! ### == of dicts of ints -/
/-! ### xs[i] += e, xs a mutable list of the def -/
/-! ### whether a list has items -/
/-! ### o.m(e, ..), o an instance that stands -/
end
end Cw

namespace Cw
open PySem PySem.Spec PyProof.Rows L2

/-! ### {k: [..] for x in ..}: the new dict is mutable, the values may be -/
section
variable {X : Cx} {iter kx vx : Expr} {tk tv : TD} {pos pp tp : Pos} {ti : TDs} {scope : Scope} {x y : Str} {i j : Nat}
end
end Cw

namespace Cw
open PySem PySem.Spec PyProof.Rows L2

/-! ### divmod by a wide divisor -/
section
variable {X : Cx} {e e2 : Expr} {ta tb : TD} {pos pp : Pos}
end
end Cw

namespace Cw
open PySem PySem.Spec PyProof.Rows L2
/-! ### sum(xs) of a list of ints -/
section
variable {X : Cx} {e e2 o a b : Expr} {ta tb : TD} {pos pp apos : Pos}
end
end Cw

namespace Cw
open PySem PySem.Spec PyProof.Rows L2
/-! ### [e for x in xs if ..] over a mutable list that stands -/
structure WalksC (K : PySem.W.Frag) (J : It) (m : Ad) (H : Hp) (ds : List D) (k : Nat) (all : List D) : Prop where
  go : ∀ (i : Nat) m' H' c', Le m H m' H' → CR K H' m' c' → c'[k]? = some (.lst all) → i < ds.length → J.go i H'
  stop : ∀ (i : Nat) m' H' c', Le m H m' H' → CR K H' m' c' → c'[k]? = some (.lst all) → ds.length ≤ i → J.stop i H'
  yld : ∀ (i : Nat) m' H' c' x H2, Le m H m' H' → CR K H' m' c' → c'[k]? = some (.lst all) → i < ds.length → J.yld i H' x H2 → ∃ d, ds[i]? = some d ∧ CR K H2 m' c' ∧ Le m' H' m' H2 ∧ RR K H2 m' d x
theorem walksC_cell {K : PySem.W.Frag} {m : Ad} {H : Hp} {k : Nat} {a : Addr} {all : List D} (ha : m.ix[k]? = some a) : WalksC K (Itl K a) m H all k all := by
  have here : ∀ {m' H' c'}, Le m H m' H' → CR K H' m' c' → c'[k]? = some (.lst all) → ∃ xs, H' a = some (.lst xs) ∧ RRL K H' m' all xs := fun {m' H' c'} l C e => by
    obtain ⟨b, h1, xs, h2, h3⟩ := C.at_ k _ e
    rw [l.pre k a ha] at h1; cases h1
    exact ⟨xs, h2, h3⟩
  refine ⟨fun i m' H' c' l C e hi => ?_, fun i m' H' c' l C e hi => ?_, fun i m' H' c' x H2 l C e hi y => ?_⟩
  · obtain ⟨xs, h1, r⟩ := here l C e
    obtain ⟨d, x, _, h2, _⟩ := RL.at r hi
    exact ⟨xs, x, SqL.of h1, h2⟩
  · obtain ⟨xs, h1, r⟩ := here l C e
    exact ⟨xs, SqL.of h1, by rw [rlen r]; exact hi⟩
  · obtain ⟨e2, y⟩ := y
    subst e2
    obtain ⟨xs, h1, r⟩ := here l C e
    obtain ⟨d, z, h3, h4, h5⟩ := RL.at r hi
    have := y xs (SqL.of h1)
    rw [h4] at this; cases this
    exact ⟨d, h3, C, Le.refl _ _, h5⟩
def lcK (k : Nat) (all : List D) (i : Nat) (tt : TDt) (te : TD) : List D → List D → Env → List Cell → (List D → List Cell → Prop) → Prop
  | [], acc, _, c, Φ => c[k]? = some (.lst all) ∧ okCs c.length c = true ∧ okDs c.length acc = true ∧ Φ acc c
  | d :: ds, acc, ρ, c, Φ => c[k]? = some (.lst all) ∧ tt (ρ.set i (some d)) (c ++ [.lst acc]) fun b c2 => match b with
    | true => te (ρ.set i (some d)) c2 fun y c3 => acc.length < sizeLine ∧ inner c.length acc y c3 fun c4 => lcK k all i tt te ds (acc ++ [y]) ρ c4 Φ
    | false => inner c.length acc .non c2 fun c4 => lcK k all i tt te ds acc ρ c4 Φ
def dLcC (ta : TD) (i : Nat) (tt : TDt) (te : TD) : TD := fun ρ c Φ => ta ρ c fun x c1 => ∃ k all, x = .cell k ∧ c1[k]? = some (.lst all) ∧ lcK k all i tt te all [] ρ c1 fun xs c2 => Φ (.lst xs) c2
/-- the loop of a comprehension -/
theorem lc_walkC {K : PySem.W.Frag} {J : It} {k : Nat} {all : List D} {m : Ad} {H1 : Hp} {ds : List D} {σ : L2.St} {ρ : Env} {c : List Cell} {i : Nat} {tt : TDt} {te : TD} {Φ : List D → List Cell → Prop} {Qd : Addr → Hp → Prop} (wk : WalksC K J m H1 ds k all) (S : SR K σ H1 m ρ c) (h : lcK k all i tt te ds [] ρ c Φ)
    (q : ∀ p xs c' H', Φ xs c' → CR K H' m c' → RR K H' m (.lst xs) (.ref p) → Le m H1 m H' → Qd p H') : ∀ p, H1 p = none → ∃ W : Nat → Nat → Hp → Prop, (∃ mm, W 0 mm (upd H1 p (.lst []))) ∧ ∀ j mm H, W j mm H →
      (J.stop j H ∧ Qd p H) ∨ (J.go j H ∧ ∃ Nx : Hp → Prop, (∀ H', Nx H' → ∃ m', m' < mm ∧ W (j + 1) m' H') ∧ ∀ x H', J.yld j H x H' → gName i x (wipe σ [i]) H' fun σ2 H2 => wipe σ2 [i] = wipe σ [i] ∧ liftT K tt σ2 H2 fun b H3 =>
        if b = true then lift K te σ2 H3 fun y H4 => ∃ acc, H4 p = some (.lst acc) ∧ acc.length < sizeLine ∧ Nx (upd H4 p (.lst (acc ++ [y]))) else Nx H3) := by
  intro p hp
  have z0 := cell_new (ce := .lst []) (o := .lst []) S.cr hp ⟨[], upd_same, rfl⟩
  -- the state behind a number of turns
  refine ⟨fun j mm H => mm = ds.length - j ∧ j ≤ ds.length ∧ ∃ c' acc, c'.length = c.length ∧ CR K H (m.push p) (c' ++ [.lst acc]) ∧ Le m H1 (m.push p) H ∧ lcK k all i tt te (ds.drop j) acc ρ c' Φ,
    ⟨ds.length, by simp, Nat.zero_le _, c, [], rfl, z0.1, z0.2.1, by simpa using h⟩, ?_⟩
  rintro j mm H ⟨rfl, hj, c', acc, hl, C, l, hf⟩
  by_cases hlt : j < ds.length
  · have hk : (c' ++ [Cell.lst acc])[k]? = some (.lst all) := by
      rw [List.drop_eq_getElem_cons hlt] at hf
      rw [List.getElem?_append_left (List.getElem?_eq_some_iff.mp hf.1).1]; exact hf.1
    refine .inr ⟨wk.go j (m.push p) H _ l C hk hlt, fun H' => ∃ c' acc, c'.length = c.length ∧ CR K H' (m.push p) (c' ++ [.lst acc]) ∧ Le m H1 (m.push p) H' ∧ lcK k all i tt te (ds.drop (j + 1)) acc ρ c' Φ, fun H' w => ⟨ds.length - (j + 1), by omega, rfl, hlt, w⟩, fun x H2 y => ?_⟩
    obtain ⟨d, hd, C2, l2, rx⟩ := wk.yld j (m.push p) H _ x H2 l C hk hlt y
    have e : ds.drop j = d :: ds.drop (j + 1) := by
      rw [List.drop_eq_getElem_cons hlt]
      congr 1
      have := List.getElem?_eq_getElem hlt
      rw [hd] at this
      exact (Option.some.inj this).symm
    rw [e] at hf
    obtain ⟨_, hf⟩ := hf
    have L2 := l.trans l2
    have S2 : SR K ((wipe σ [i]).set i (some x)) H2 (m.push p) (ρ.set i (some d)) (c' ++ [.lst acc]) := (S.step L2 C2).blk rx
    refine ⟨by rw [wipe1, wipe1, List.set_set, List.set_set], m.push p, _, _, _, S2, hf, fun b c2 H3 m3 hb C3 l3 => ?_⟩
    have hmn : (m.push p).ix.length = c'.length + 1 := by
      have := C2.len
      simp at this
      exact this
    cases b with
    | false =>
      dsimp only
      rw [if_neg (by decide)]
      obtain ⟨z1, _, z2, z3, z4⟩ := inner_ok (v := .non) hmn hb C3 rfl l3
      exact ⟨c2.take c'.length, acc, by rw [z4, hl], z1, L2.trans z2, z3⟩
    | true =>
      dsimp only
      rw [if_pos rfl]
      refine ⟨m3, _, c2, _, S2.step l3 C3, hb, fun y c3 v H4 m4 hy C4 R4 l4 => ?_⟩
      obtain ⟨hsz, hin⟩ := hy
      obtain ⟨z1, z5, z2, z3, z4⟩ := inner_ok hmn hin C4 R4 (l3.trans l4)
      obtain ⟨a, h5, xs, h6, h7⟩ := z1.at_ c'.length (.lst acc) (by rw [List.getElem?_append_right (by omega), z4]; simp)
      have last : (m.push p).ix[c'.length]? = some p := by
        show (m.ix ++ [p])[c'.length]? = some p
        rw [hl, ← S.cr.len]; simp
      rw [last] at h5; cases h5
      refine ⟨xs, h6, by rw [rlen h7]; exact hsz, ?_⟩
      have hm : p ∈ (m.push p).ix := List.mem_of_getElem? last
      have z := cell_put (o := .lst (xs ++ [v])) (ce := .lst (acc ++ [y])) z1 last ⟨_, upd_same, by show RL _ _ (hid (m.push p) _) _ _; rw [hid_mut hm]; exact RL.append h7 ⟨v, [], rfl, z5, rfl⟩⟩
      have ec : (c3.take c'.length ++ [Cell.lst acc]).set c'.length (.lst (acc ++ [y])) = c3.take c'.length ++ [.lst (acc ++ [y])] := by
        rw [List.set_append_right _ _ (by omega), z4]; simp
      rw [ec] at z
      exact ⟨c3.take c'.length, acc ++ [y], by rw [z4, hl], z.1, (L2.trans z2).trans z.2, z3⟩
  · have ej : j = ds.length := by omega
    subst ej
    rw [List.drop_length] at hf
    obtain ⟨hk, h1, h2, h3⟩ := hf
    have hk' : (c' ++ [Cell.lst acc])[k]? = some (.lst all) := by
      rw [List.getElem?_append_left (List.getElem?_eq_some_iff.mp hk).1]; exact hk
    obtain ⟨C', _, ⟨xs, h4, h5⟩, hp1, hp2⟩ := C.pop h1
    refine .inl ⟨wk.stop _ (m.push p) H _ l C hk' (Nat.le_refl _), q p acc c' H h3 C' ⟨p, xs, rfl, by rw [hid_of ⟨hp1, hp2⟩]; exact h4, RL.low ex_pop (low_push C'.len) acc xs h2 h5⟩ ⟨fun _ _ e => e, l.ex.trans ex_pop, rfl, l.hk' ex_pop, fun _ h => .inl h, l.al⟩⟩
section
variable {X : Cx} {tg iter e elt : Expr} {ta te : TD} {tt : TDt} {pos pp tp : Pos} {ifs : List Expr} {scope : Scope} {x y : Str} {i j : Nat}
theorem pd_lcC (hc : X.calm = true) (hN : X.N.Nodup) (hi : PD X iter ta) (ok : blkC X.N X.env.scope scope [(x, i)] = true)
    (hg : ∀ (s : Shared) (H : Hp) (C : Addr) (cl : List (Str × Addr)) (fp : List Addr), PG (X.blk s H scope (compEnvC scope cl C X.env) fp) (.Name x tp) (gName i))
    (ht : ∀ (s : Shared) (H : Hp) (C : Addr) (cl : List (Str × Addr)) (fp : List Addr), PTD (X.blk s H scope (compEnvC scope cl C X.env) fp) ifs tt)
    (he : ∀ (s : Shared) (H : Hp) (C : Addr) (cl : List (Str × Addr)) (fp : List Addr), PD (X.blk s H scope (compEnvC scope cl C X.env) fp) elt te) (hs : ∀ x, foldedSetIterable iter X.env x = pure x := by intro _; rfl) :
    PD X (.ListComp elt [⟨.Name x tp, iter, ifs, 0⟩] scope pos) (dLcC ta i tt te) :=
  PE.imp (pe_lc (own := [(x, i)]) hc hN (pi_list hi) (blkOk_by ok) hg ht he hs) fun σ H Q ⟨m, ρ, c, Φ, S, h, q⟩ =>
    ⟨m, ρ, c, _, S, h, fun d c1 v H1 m1 hx C1 R1 L1 => by
      obtain ⟨k, all, rfl, hk, hf⟩ := hx
      obtain ⟨a, ha, rfl⟩ := R1
      obtain ⟨b, h1, xs, h2, h3⟩ := C1.at_ k _ hk
      rw [ha] at h1; cases h1
      exact ⟨a, rfl, ⟨xs, SqL.of h2⟩, lc_walkC (walksC_cell ha) (S.step L1 C1) hf fun p xs c' H' h' C' R' l' => q _ c' _ H' m1 h' C' R' (L1.trans l')⟩⟩
end
end Cw

namespace Cw
open PySem PySem.Spec PyProof.Rows L2
/-! ### dict(xs) of a list of pairs whose keys are tuples -/
section
variable {prog : Program} {w : World}
variable {A : Around} {E : Value → Shared → Prop}
end
section
variable {X : Cx}
end
end Cw

namespace Cw
open PySem PySem.Spec PyProof.Rows L2
/-! ### == of dicts whose keys are tuples -/
section
variable {prog : Program} {w : World} {A : Around} {E : Value → Shared → Prop} {s : Shared}
inductive KqT (A : Around) (s : Shared) (xb : List (List Key × Addr × Value)) : List (List Key × Addr × Value) → Bool → Prop
  | nil : KqT A s xb [] true
  | miss {k : List Key} {p : Addr × Value} {r} : atKey xb k = none → KqT A s xb ((k, p) :: r) false
  | hit {k : List Key} {p y : Addr × Value} {r} {e b : Bool} : atKey xb k = some y → SeqAt.EqAt A s p.2 y.2 e → KqT A s xb r b → KqT A s xb ((k, p) :: r) (e && b)
end
end Cw

namespace Cw
open PySem PySem.Spec PyProof.Rows L2
/-! ### dict([((a, b), v) for x in ..]) -/
end Cw

namespace Cw
open PySem PySem.Spec PyProof.Rows L2
/-! ### dict(..) of pairs -/
section
variable {X : Cx} {a b v : Expr} {ta tb tv : TD} {p1 p2 : Pos} {x1 x2 : Nat}
end
section
variable {X : Cx} {iter elt : Expr} {ta tb tv : TD} {pos pp tp cp : Pos} {ti : TDs} {scope : Scope} {x : Str} {i : Nat}
end
end Cw

namespace Cw
open PySem PySem.Spec PyProof.Rows L2
/-! ### d[k], d.get(k), d.get(k, x), list(d), d[k] = v; keys are tuples -/
section
variable {X : Cx} {o i e f : Expr} {pos apos cpos : Pos} {td ty ta tb tx : TD}
end
end Cw

namespace Cw
open PySem PySem.Spec PyProof.Rows L2
/-! ### d[a, b] = v -/
section
variable {X : Cx} {o i e value : Expr} {pos pos' : Pos} {td ta tb tv : TD} {k : Nat}
end
/-! ### a def that tells a list of dicts -/
section
variable {P : Program} {w : World} {K : PySem.W.Frag} {mg : Str → Option Value} {base : Heap}
end
end Cw

namespace Cw
open PySem PySem.Spec PyProof.Rows L2
/-! ### == of two dicts of ints whose keys are tuples -/
section
variable {prog : Program} {w : World} {A : Around} {E : Value → Shared → Prop} {s : Shared}
end
section
variable {X : Cx} {a b : Expr} {ta tb : TD} {pos : Pos}
end
end Cw

namespace Cw
open PySem PySem.Spec PyProof.Rows L2
/-! ### dict(xs) of a list of pairs whose keys are ints and texts -/
theorem mergeK_nodup : ∀ (more kvs : List (Key × V)), ((kvs ++ more).map (·.1)).Nodup → mergeK kvs more = kvs ++ more
  | [], kvs, _ => by simp [mergeK]
  | p :: more, kvs, h => by
    have hn : valV kvs p.1 = none := by
      unfold valV
      rw [List.find?_eq_none.mpr, Option.map_none]
      intro x hx hk
      have e : x.1 = p.1 := by simpa using hk
      rw [List.map_append, List.nodup_append] at h
      exact h.2.2 x.1 (List.mem_map_of_mem hx) p.1 (by simp) e
    show mergeK (putK kvs p.1 p.2) more = _
    rw [putK_new _ hn, mergeK_nodup more (kvs ++ [(p.1, p.2)]) (by rw [List.append_assoc]; exact h), List.append_assoc]
    rfl
section
variable {X : Cx} {e : Expr} {ta : TD} {pos : Pos}
end
end Cw

namespace Cw
open PySem PySem.Spec PyProof.Rows L2
/-! ### k not in d -/
section
variable {X : Cx} {o i : Expr} {pos : Pos} {td ty : TD}
end
end Cw

/-! # Exceptions over data: what may be raised, beside what comes out -/
namespace Cw
open PySem PySem.Spec PyProof.Rows L2

/-- an exception that is raised: its class, its attributes -/
structure XD where
  C : Addr
  ns : List Str
  ds : List D
abbrev XW := XD → List Cell → Prop
def IsX (K : PySem.W.Frag) (H : Hp) (m : Ad) (x : XD) (cls : Value) (d : Option Addr) : Prop := cls = .ref x.C ∧ ∃ dd fs, d = some dd ∧ hid m H dd = some (.xd fs) ∧ fs.map (·.1) = x.ns ∧ RRL K H m x.ds (fs.map (·.2))
abbrev KX (K : PySem.W.Frag) (H : Hp) (m : Ad) (Ξ : XW) (E : XK) : Prop := ∀ x c' cls d H' m', Ξ x c' → CR K H' m' c' → IsX K H' m' x cls d → Le m H m' H' → E cls d H'
theorem KX.le {K : PySem.W.Frag} {H H1 : Hp} {m m1 : Ad} {Ξ : XW} {E : XK} (k : KX K H m Ξ E) (l : Le m H m1 H1) : KX K H1 m1 Ξ E := fun x c' cls d H' m' h C R l' => k x c' cls d H' m' h C R (l.trans l')
abbrev TDX := Env → List Cell → (D → List Cell → Prop) → XW → Prop
def liftX (K : PySem.W.Frag) (E : XK) (t : TDX) : TE := fun σ H Q => ∃ (m : Ad) (ρ : Env) (c : List Cell) (Φ : D → List Cell → Prop) (Ξ : XW), SR K σ H m ρ c ∧ t ρ c Φ Ξ ∧ KQ K H m Φ Q ∧ KX K H m Ξ E
abbrev PDX (X : Cx) (E : XK) (e : Expr) (t : TDX) : Prop := PE X e (liftX X.K E t)
structure DEX where
  nx : Env → List Cell → Prop
  rt : D → List Cell → Prop
  bk : Env → List Cell → Prop := fun _ _ => False
  ct : Env → List Cell → Prop := fun _ _ => False
  ex : XW := fun _ _ => False
abbrev TSX := DEX → Env → List Cell → Prop
def DEX.plain (De : DEX) : DEnds := ⟨De.nx, De.rt, De.bk, De.ct⟩
def liftSX (K : PySem.W.Frag) (E : XK) (t : TSX) : TS := fun Dn σ H => ∃ (m : Ad) (ρ : Env) (c : List Cell) (De : DEX), SR K σ H m ρ c ∧ t De ρ c ∧
  KN K H m De.nx Dn.nx ∧ KQ K H m De.rt Dn.rt ∧ KN K H m De.bk Dn.bk ∧ KN K H m De.ct Dn.ct ∧ KX K H m De.ex E
abbrev PSX (X : Cx) (E : XK) (s : Stmt) (t : TSX) : Prop := PS X s (liftSX X.K E t)
abbrev PSXs (X : Cx) (E : XK) (s : List Stmt) (t : TSX) : Prop := PSs X s (liftSX X.K E t)
section
variable {X : Cx} {E : XK} {st : Stmt} {rest a b : List Stmt} {e cE iter tg : Expr} {pos : Pos} {t u : TSX} {ts : TSD} {ta : TD} {tx : TDX} {tA : TDt}
theorem psx_of (h : PSD X st ts) : PSX X E st (fun De => ts De.plain) := PS.imp h fun Dn σ H ⟨m, ρ, c, De, S, h, n, r, b, k, _⟩ => ⟨m, ρ, c, De.plain, S, h, n, r, b, k⟩
def xNext : TSX := fun De ρ c => De.nx ρ c
def xSeq (t u : TSX) : TSX := fun De ρ c => t { De with nx := u De } ρ c
theorem psx_nil : PSXs X E [] xNext := PSs.imp pss_nil fun Dn σ H ⟨m, ρ, c, De, S, h, n, _⟩ => n σ H m ρ c h S (Le.refl _ _)
theorem psx_cons (h1 : PSX X E st t) (h2 : PSXs X E rest u) : PSXs X E (st :: rest) (xSeq t u) := PSs.imp (pss_cons h1 h2) fun Dn σ H ⟨m, ρ, c, De, S, h, n, r, b, k, x⟩ =>
  ⟨m, ρ, c, { De with nx := u De }, S, h, fun σ' H' m' ρ' c' h' S' l => ⟨m', ρ', c', De, S', h', n.le l, r.le l, b.le l, k.le l, x.le l⟩, r, b, k, x⟩
theorem psx_one (h1 : PSX X E st t) : PSXs X E [st] t := pss_one h1
def xIf (tc : TDt) (t u : TSX) : TSX := fun De ρ c => tc ρ c fun b c1 => match b with | true => t De ρ c1 | false => u De ρ c1
theorem psx_if (hc : PDt X cE tA) (ha : PSXs X E a t) (hb : PSXs X E b u) : PSX X E (.If cE a b pos) (xIf tA t u) := PS.imp (ps_if hc ha hb) fun Dn σ H ⟨m, ρ, c, De, S, h, n, r, b, k, x⟩ =>
  ⟨m, ρ, c, _, S, h, fun bo c1 H1 m1 hx C1 L1 => by
    cases bo with
    | true => rw [if_pos rfl]; exact ⟨m1, ρ, c1, De, S.step L1 C1, hx, n.le L1, r.le L1, b.le L1, k.le L1, x.le L1⟩
    | false => rw [if_neg (by decide)]; exact ⟨m1, ρ, c1, De, S.step L1 C1, hx, n.le L1, r.le L1, b.le L1, k.le L1, x.le L1⟩⟩
end

/-! ### own exceptions with one attribute -/
/-- what __init__(self, x): self.f = x promises -/
def spI (C : Addr) (f : Str) : Sp := fun vs H Q _ => ∃ (a : Addr) (y : V), vs = [.ref a, y] ∧ H a = some (exo a C none) ∧ ∀ dx, H dx = none → dx ≠ a → Q .non (upd (upd H dx (exd dx [(f, y)])) a (exo a C (some dx)))
def xRaise (C : Addr) (f : Str) (te : TD) : TSX := fun De ρ c => te ρ c fun y c1 => De.ex ⟨C, [f], [y]⟩ c1
section
variable {X : Cx} {CX : CXT} {E : XK} {x f : Str} {e : Expr} {te : TD} {p pos pos' : Pos} {C fI : Addr} {k : Nat} {fd : FuncData} {ps : List Str}
theorem psx_raise (hc : X.calm = true) (tk : Takes X fun cls d _ H => E cls d H) (T : OexC X.K C) (iC : PySem.W.findIn X.K (.ref C) "__init__" = some (some (.ref fI))) (tI : PySem.W.typeIn X.K (.ref fI) = some (.type "function"))
    (F1 : FnOk X.prog X.w X.K X.mg X.base CX k fI fd ps (spI C f)) (hr : Room (k + 1) X.A) (hb : Binds X.K fd ps []) (hx : Passes CX X (fun _ _ _ => False)) (hm : X.mg x = some (.ref C)) (he : PD X e te) (hg : Gl X x := by rfl)
    (hdb : (x == ("__debug__" : Str)) = false := by decide) (hs : starEach [e] X.env = (false, eval e X.env) :: starEach [] X.env := by rfl) (hpl : (backTo pos (starEach [] X.env)).any (·.1) = false := by rfl) :
    PSX X E (.Raise (some (.Call (.Name x p) [e] [] pos)) none pos') (xRaise C f te) := by
  refine PS.imp (ps_raise hc tk (pmk_oex (pos := pos) T iC tI F1 hr hb .nil hx hg hm (pds_cons he pds_nil hs) hdb hs hpl)) fun Dn σ H ⟨m, ρ, c, De, S, h, n, r, b, k, x⟩ => ?_
  refine ⟨m, ρ, c, (fun ds c1 => ∃ y, ds = [y] ∧ De.ex ⟨C, [f], [y]⟩ c1), S, ?_, ?_⟩
  · show te ρ c fun y c1 => ∃ z, [y] = [z] ∧ De.ex ⟨C, [f], [z]⟩ c1
    have e : (fun y c1 => ∃ z, [y] = [z] ∧ De.ex ⟨C, [f], [z]⟩ c1) = fun y c1 => De.ex ⟨C, [f], [y]⟩ c1 := by
      funext y c1
      apply propext
      constructor
      · rintro ⟨z, hz, q⟩; cases hz; exact q
      · intro q; exact ⟨y, rfl, q⟩
    rw [e]; exact h
  · rintro ds c1 vs H1 m1 ⟨y, rfl, q⟩ C1 R1 L1
    obtain ⟨v, t, rfl, rv, rt⟩ := R1
    cases (show t = [] from rt)
    refine ⟨by show 1 ≤ 1000; decide, fun a ha => ⟨a, v, rfl, upd_same, fun dx hdx hne => ⟨rfl, dx, [(f, v)], upd_same, ?_, ?_, ?_⟩⟩⟩
    · rw [upd_ne hne, upd_same]
    · rw [upd_ne hne] at hdx; exact hdx
    · have hdx' : H1 dx = none := by rw [upd_ne hne] at hdx; exact hdx
      have eH : upd (del (upd (upd (upd H1 a (exo a C none)) dx (exd dx [(f, v)])) a (exo a C (some dx))) a) dx (.xd [(f, v)]) = upd H1 dx (.xd [(f, v)]) := by
        funext b
        by_cases h1 : b = dx
        · subst h1; rw [upd_same, upd_same]
        · rw [upd_ne h1, upd_ne h1]
          by_cases h2 : b = a
          · subst h2; rw [del_same, ha]
          · rw [del_ne h2, upd_ne h2, upd_ne h1, upd_ne h2]
      rw [eH]
      exact x _ c1 _ _ _ m1 q (C1.new hdx') ⟨rfl, dx, _, rfl, new_at hdx' C1, rfl, v, [], rfl, (Le.new hdx' C1).r rv, rfl⟩ (L1.trans (Le.new hdx' C1))
end
section
variable {P : Program} {w : World} {K : PySem.W.Frag} {mg : Str → Option Value} {base : Heap}
/-- def __init__(self, f): self.f = f -/
theorem init_of {C fI : Addr} {fd : FuncData} {f qual : Str} {st : Stmt} {ps : List Str} (F : Fun K "__init__" qual st fI fd) (Sc : FnScope ps ps (defScope st)) (T : OexC K C) (na : PySem.W.findIn K (.ref C) f = some none)
    (hl : ps.length = 2) (hb : ∀ X : Cx, X.K = K → X.N = ps → X.env.scope = defScope st → PSs X (defBody st) (tOst K f (tVar 0) (tVar 1))) : FnOk P w K mg base CX0 1 fI fd ps (spI C f) := by
  refine F.ok Sc (fun vs H Q E ⟨a, y, e, _⟩ => by subst e; exact hl.symm) (fun cdv A outer s H vs Q E hr ⟨a, y, e, h1, h2⟩ => ⟨_, (hb _ rfl rfl rfl).nox, ?_⟩)
  subst e
  match ps, hl with
  | [p0, p1], _ => exact ⟨y, rfl, .ref a, rfl, a, C, rfl, T, na, .inl ⟨h1, fun dx n ne => h2 dx n ne⟩⟩
end

/-! ### defs that may raise -/
section
variable {P : Program} {w : World} {K : PySem.W.Frag} {mg : Str → Option Value} {base : Heap}
end
section
variable {K : PySem.W.Frag} {m : Ad} {H : Hp} {c : List Cell}
end
section
variable {X : Cx} {E : XK} {k np : Nat} {f : Addr} {fd : FuncData} {ps : List Str} {S : Pmx} {x : Str} {p pos : Pos} {e : Expr} {es : List Expr} {tas : TDs}
end
/-! ### for loops that may raise -/
section
variable {X : Cx} {E : XK} {tg iter : Expr} {pos : Pos} {ti : TDs}
end
end Cw

/-! # Defs that are called while an exception is held, what they ask of it -/
namespace Cw
open PySem PySem.Spec PyProof.Rows L2

structure FnE (P : Program) (w : World) (K : PySem.W.Frag) (mg : Str → Option Value) (base : Heap) (k : Nat) (f : Addr) (fd : FuncData) (ps : List Str) (sp : Addr × Obj → Sp) : Prop where
  ln : ∀ p vs H Q E, sp p vs H Q E → vs.length = ps.length
  rn : ∀ (A : Around) (outer : List PySem.Env) (s : Shared) (H : Hp) (args : Args) (us : List Value) (vs : List V) (Q : VK) (E : XK) (p : Addr × Obj), L2H.RoomH k A → L2H.PinOk outer H s p → Env0 P w K mg base A outer s H → BindsTo s fd args (ps.zip us) → Vals vs us → sp p vs H Q E →
    codeAny (model P w) A (.call (.ref f) args) (L2.CR CX0 outer P w H s Q E) s
section
variable {P : Program} {w : World} {K : PySem.W.Frag} {mg : Str → Option Value} {base : Heap}
theorem fnE {x qual : Str} {st : Stmt} {f : Addr} {fd : FuncData} {N ps : List Str} {k : Nat} {sp : Addr × Obj → Sp} (F : Fun K x qual st f fd) (Sc : FnScope N ps (defScope st)) (ln : ∀ p vs H Q E, sp p vs H Q E → vs.length = ps.length)
    (hbody : ∀ (cdv : Value) (A : Around) (outer : List PySem.Env) (s : Shared) (H : Hp) (vs : List V) (Q : VK) (E : XK) (p : Addr × Obj), L2H.RoomH k (A.deeper (envOfC qual (defScope st) s.heap.objs.size f cdv)) → sp p vs H Q E →
      ∃ t, PSs (L2H.cxH CX0 P w K mg base N qual (defScope st) f cdv A outer s H E p).nox (defBody st) t ∧ t { nx := fun _ H' => Q .non H', rt := Q } (L2.start N vs) H) : FnE P w K mg base (k + 1) f fd ps sp := by
  obtain ⟨oc, od, kV, doc, pm, an, cdv, ct, osl, rfl, lk, hcd⟩ := F.ex
  refine ⟨ln, fun A outer s H args us vs Q E p hr hpin e0 hb r hsp => ?_⟩
  have inK : K.In s.heap := e0.mod.kin.keeps fun b o e => (e0.bs b o e).1
  have nl : s.heap.NoLimit := e0.mod.nolimit.keeps fun b o e => (e0.bs b o e).1
  obtain ⟨t, ht', hq⟩ := hbody cdv A outer s H vs Q E p (hr.deeper _) hsp
  have ht := ht'.nox
  have kinds : ∀ y ∈ ps.zip us, (defScope st).names.lookup y.1 = some .local ∨ ((defScope st).names.lookup y.1 = some .cell ∧ ((cellsFrom (s.heap.objs.size + 1) (defScope st).names []).lookup y.1).isSome = true) := fun ⟨n, v⟩ hy => (Sc.par n (List.of_mem_zip hy).1).imp id fun q => ⟨q, PySem.W.cellsFrom_some _ _ _ (.inl q)⟩
  refine codeAny_call_function hr.depth (inK _ _ lk) rfl Sc.co Sc.gen rfl (PySem.W.codeRec_of inK hcd) (hb _ _ _ _ (wpAny_newFunctionEnv_cells Sc.kind kinds fun env he s1 x => ?_))
  subst he
  refine ⟨nl.keeps x.toInCall.keep, codeAny_func ?_⟩
  have I : Inv (L2H.cxH CX0 P w K mg base N qual (defScope st) f cdv A outer s H E p) [] (L2.start N vs) H s1 := L2H.inv_startH Sc hpin e0 (ln _ _ _ _ _ hsp) r x
  refine wpAny_mono (ht.run [] s1 (L2.start N vs) H _ I hq) (fun fl s' hs => ?_) fun e s' hs => hs
  cases fl with
  | ret u =>
    obtain ⟨v, σ', H', J, rv, q⟩ := hs
    exact ⟨v, H', J.os, J.bare, J.base, J.hok, rv, q⟩
  | next =>
    obtain ⟨σ', H', J, q⟩ := hs
    exact ⟨V.non, H', J.os, J.bare, J.base, J.hok, rfl, q⟩
  | brk => exact hs.elim fun _ z => z.elim fun _ z => z.2.elim
  | cont => exact hs.elim fun _ z => z.elim fun _ z => z.2.elim
abbrev spE (K : PySem.W.Frag) (n0 np : Nat) (S : Addr × Obj → Pm) : Addr × Obj → Sp := fun p => spD K n0 np (S p)
theorem fnED {x qual : Str} {st : Stmt} {f : Addr} {fd : FuncData} {N ps : List Str} {k n0 : Nat} {S : Addr × Obj → Pm} (F : Fun K x qual st f fd) (Sc : FnScope N ps (defScope st))
    (hbody : ∀ (cdv : Value) (A : Around) (outer : List PySem.Env) (s : Shared) (H : Hp) (E : XK) (p : Addr × Obj), L2H.RoomH k (A.deeper (envOfC qual (defScope st) s.heap.objs.size f cdv)) → (∃ c ds Φ, S p c ds Φ) →
      ∃ ts, PSDs (L2H.cxH CX0 P w K mg base N qual (defScope st) f cdv A outer s H E p).nox (defBody st) ts ∧
        ∀ c ds Φ, c.length = n0 → ds.length = ps.length → S p c ds Φ → ts ⟨fun _ c' => retD n0 Φ .non c', retD n0 Φ, fun _ _ => False, fun _ _ => False⟩ (startD N ds) c) :
    FnE P w K mg base (k + 1) f fd ps (spE K n0 ps.length S) := by
  refine fnE F Sc (fun p vs H Q E ⟨m, c, ds, Φ, h1, h2, C, r, _⟩ => by rw [← RL.length r]; exact h2) (fun cdv A outer s H vs Q E p hr ⟨m, c, ds, Φ, h1, h2, C, r, hS, q⟩ => ?_)
  obtain ⟨ts, hp, ht⟩ := hbody cdv A outer s H E p hr ⟨c, ds, Φ, hS⟩
  have hn : m.ix.length = n0 := by rw [C.len]; exact h1
  exact ⟨_, hp, m, startD N ds, c, _, start_slots C r, ht c ds Φ h1 h2 hS, fun σ' H' m' ρ' c' h' S' l => ret_ok hn q h' S'.cr rfl l, fun d c' v H' m' h' C' r' l => ret_ok hn q h' C' r' l, fun _ _ _ _ _ z => z.elim, fun _ _ _ _ _ z => z.elim⟩
end

/-! ### calls of such defs -/
section
variable {X : Cx} {k np : Nat} {f : Addr} {fd : FuncData} {ps : List Str} {sp : Addr × Obj → Sp} {S : Addr × Obj → Pm} {p : Addr × Obj} {x : Str} {q pos : Pos} {e : Expr} {es : List Expr} {ta : TA} {tas : TDs}
theorem run_fnE {pins : List (Addr × Obj)} {σ : L2.St} {H : Hp} {s : Shared} {Q : VK} {us : List Value} {vs : List V} (F : FnE X.prog X.w X.K X.mg X.base k f fd ps sp) (hr : L2H.RoomH k X.A) (hp : p ∈ X.pn) (hb : Binds X.K fd ps [])
    (I : Inv X pins σ H s) (r : Vals vs us) (h : sp p vs H Q E0) : wpAny (model X.prog X.w) X.A (call (.ref f) us) (EP X pins σ Q) X.xe s := by
  have hl : us.length = ps.length := by rw [← r.length]; exact F.ln _ _ _ _ _ h
  have bt : BindsTo s fd ⟨us, []⟩ (ps.zip us) := by simpa using hb s us I.kIn (by simpa using hl)
  have P1 := I.pin p (List.mem_append_left _ hp)
  have pin : L2H.PinOk X.stack H s p := ⟨P1.1, P1.2.1, fun z => (List.mem_cons.mp (I.stkSub p.1 z)).elim P1.2.2.1 P1.2.2.2.1, P1.2.2.2.2⟩
  refine wpAny_call (codeAny_mono (F.rn X.A X.stack s H ⟨us, []⟩ us vs Q E0 p hr pin I.env0 bt r h) fun z s' hq => ?_)
  cases z with
  | error e => exact (show False from hq).elim
  | ok fl =>
    cases fl with
    | ret u => exact I.after hq
    | next => exact False.elim hq
    | brk => exact False.elim hq
    | cont => exact False.elim hq
theorem pe_callE (F : FnE X.prog X.w X.K X.mg X.base k f fd ps sp) (hr : L2H.RoomH k X.A) (hp : p ∈ X.pn) (hg : Gl X x) (hm : X.mg x = some (.ref f)) (hk : PySem.W.keepIn X.K (.ref f) = true) (hb : Binds X.K fd ps [])
    (ha : PA X (e :: es) ta) (hdb : (x == ("__debug__" : Str)) = false) (he : starEach (e :: es) X.env = (false, eval e X.env) :: starEach es X.env) (hpl : (backTo pos (starEach es X.env)).any (·.1) = false) :
    PE X (.Call (.Name x q) (e :: es) [] pos) (tCall (sp p) [] E0 ta) := ⟨fun pins s σ H Q I h =>
  wpAny_Call_Name_kw (ld_glob I hg hm (PySem.W.callWith_K (h₀ := X.base) I.ok.mod.kin hk (thn (ha.run pos pins s σ H _ I h) fun us s1 ⟨vs, H1, I1, r, z⟩ => ⟨I1.kIn, run_fnE F hr hp hb I1 r (by simpa using z)⟩) he hpl) hdb)⟩
theorem pe_callE0 (F : FnE X.prog X.w X.K X.mg X.base k f fd ps sp) (hr : L2H.RoomH k X.A) (hp : p ∈ X.pn) (hg : Gl X x) (hm : X.mg x = some (.ref f)) (hk : PySem.W.keepIn X.K (.ref f) = true) (hb : Binds X.K fd ps [])
    (hdb : (x == ("__debug__" : Str)) = false) : PE X (.Call (.Name x q) [] [] pos) (tCall (sp p) [] E0 tNil) := ⟨fun pins s σ H Q I h =>
  wpAny_Call_Name_kw (ld_glob I hg hm (PySem.W.callWith_K0 I.kIn hk (run_fnE F hr hp hb I .nil (show sp p ([] ++ []) H Q E0 from h))) hdb)⟩
theorem pd_callE (F : FnE X.prog X.w X.K X.mg X.base k f fd ps (spE X.K 0 np S)) (hr : L2H.RoomH k X.A) (hp : p ∈ X.pn) (hm : X.mg x = some (.ref f)) (hk : PySem.W.keepIn X.K (.ref f) = true) (hb : Binds X.K fd ps [])
    (ha : PDs X (e :: es) tas) (hg : Gl X x := by rfl) (hdb : (x == ("__debug__" : Str)) = false := by decide) (he : starEach (e :: es) X.env = (false, eval e X.env) :: starEach es X.env := by rfl) (hpl : (backTo pos (starEach es X.env)).any (·.1) = false := by rfl) :
    PD X (.Call (.Name x q) (e :: es) [] pos) (dCallP (S p) np tas) := PE.imp (pe_callE F hr hp hg hm hk hb ha hdb he hpl) fun σ H Q ⟨m, ρ, c, Φ, S', h, q⟩ =>
    ⟨m, ρ, c, _, S', h, fun ds c1 vs H1 m1 ⟨hl, hc⟩ C1 R1 L1 => by show spD _ _ _ _ (_ ++ []) _ _ _; rw [List.append_nil]; exact sp_pure C1 R1 hl hc (KQ.le (K := X.K) q L1)⟩
theorem pd_callE0 (F : FnE X.prog X.w X.K X.mg X.base k f fd ps (spE X.K 0 0 S)) (hr : L2H.RoomH k X.A) (hp : p ∈ X.pn) (hm : X.mg x = some (.ref f)) (hk : PySem.W.keepIn X.K (.ref f) = true) (hb : Binds X.K fd ps [])
    (hg : Gl X x := by rfl) (hdb : (x == ("__debug__" : Str)) = false := by decide) :
    PD X (.Call (.Name x q) [] [] pos) (dCallP (S p) 0 dNil) := PE.imp (pe_callE0 F hr hp hg hm hk hb hdb) fun σ H Q ⟨m, ρ, c, Φ, S', ⟨hl, hc⟩, q⟩ => by
    show spD X.K 0 0 (S p) ([] ++ []) H Q E0
    exact sp_pure S'.cr (show RRL X.K H m [] [] from rfl) hl hc (KQ.le (K := X.K) q (Le.refl _ _))
end

/-! ### what is asked of the held exception -/
/-- the held exception's object: its class, its dict -/
structure HeldO (p : Addr × Obj) (dd C : Addr) : Prop where
  cls : p.2.cls = .ref C
  dict : p.2.dict = some dd
  flds : ∃ vs, p.2.data = .fields vs
/-- of which classes it is -/
structure ExcA (K : PySem.W.Frag) (C : Addr) : Prop where
  cl : (PySem.W.clsIn K C).isSome = true
  dc : PySem.W.hasDictIn K C = true
  ga : PySem.W.findIn K (.ref C) "__getattribute__" = some (some (.builtin "BaseException.__getattribute__"))
  gt : PySem.W.findIn K (.ref C) "__getattr__" = some none
  su : PySem.W.subIn K (.ref C) (.type "BaseException") = some true
  hc : PySem.W.findIn K (.ref C) "__class__" = some (some (.builtin "object.__class__"))
  hs : PySem.W.specialIn K (.builtin "object.__class__") "__get__" = some (some (.builtin "getset_descriptor.__get__"))
  ht : PySem.W.takesIn K (.builtin "object.__class__") = some true
  hm : PySem.W.mroIn K C (.type "object") = some true
section
variable {X : Cx} {pins : List (Addr × Obj)} {σ : L2.St} {H : Hp} {s : Shared} {p : Addr × Obj} {dd C : Addr}
theorem held_inst (I : Inv X pins σ H s) (hp : p ∈ X.pn) (h : HeldO p dd C) {fs : List (Str × V)} (hx : H dd = some (.xd fs)) : ∃ (od : Obj) (mA : Str → Option Value), PySem.W.InstAt s.heap p.1 p.2 C (some od) ∧ (∀ n, PySem.W.lookIn n od = some (mA n)) ∧ ∀ f, RelO (fs.lookup f) (mA f) := by
  obtain ⟨mA, hns, hr⟩ := (show ObjOk X.prog X.w H s.heap dd (.xd fs) from I.hok dd _ hx)
  obtain ⟨od, ho, hl⟩ := lookIn_ns hns
  obtain ⟨vs, hd⟩ := h.flds
  exact ⟨od, mA, ⟨(I.pin p (List.mem_append_left _ hp)).1, h.cls, by unfold PySem.W.notCls; rw [hd] <;> rfl, by rw [h.dict]; exact ho⟩, hl, hr⟩
def rIsX (K : PySem.W.Frag) (p : Addr × Obj) (dd C : Addr) (u0 : Value) (b : Bool) (v0 : V) : List V → Hp → VK → Prop := fun xs H Q => xs = [.ref p.1, v0] ∧ (∃ fs, H dd = some (.xd fs)) ∧ Q (.bl b) H
theorem call_isX {u0 : Value} {v0 : V} {b : Bool} (hp : p ∈ X.pn) (h : HeldO p dd C) (A : ExcA X.K C) (cv : ClsV v0 u0) (e : PySem.W.kitOne X.K (.ref C) u0 = some b) : CallR X (.builtin "isinstance") (rIsX X.K p dd C u0 b v0) := by
  rintro pins s σ H xs us Q I r ⟨rfl, ⟨fs, hx⟩, q⟩
  obtain ⟨u1, u2, rfl, r1, r2⟩ := vals2 r
  cases (show u1 = Value.ref p.1 from r1)
  have e2 := cv.eq r2
  subst e2
  obtain ⟨od, mA, J, _⟩ := held_inst I hp h hx
  exact PySem.W.kia_one (PySem.W.kitx_exc A.cl A.ga A.gt A.su A.hc A.hs A.ht A.hm) I.kIn J e (fun z => nomatch z) fun tk => ⟨.bl b, H, I.tok tk, rfl, q⟩
def dIsX (p : Addr × Obj) (dd : Addr) (b : Bool) (ta : TD) : TD := fun ρ c Φ => ta ρ c fun x c1 => (∃ C ns ds, x = .exc p.1 dd C ns ds) ∧ Φ (.bl b) c1
variable {e e2 : Expr} {ta : TD} {pp pos : Pos}
theorem pd_isX {u0 : Value} {v0 : V} {b : Bool} (hp : p ∈ X.pn) (h : HeldO p dd C) (A : ExcA X.K C) (cv : ClsV v0 u0) (e1 : PySem.W.kitOne X.K (.ref C) u0 = some b) (ha : PD X e ta) (hb : PE X e2 (tC v0)) (hm : X.mg "isinstance" = none) (hg : Gl X "isinstance" := by rfl)
    (he : starEach [e, e2] X.env = (false, eval e X.env) :: starEach [e2] X.env := by rfl) (he2 : starEach [e2] X.env = (false, eval e2 X.env) :: starEach [] X.env := by rfl) (hpl : (backTo pos (starEach [e2] X.env)).any (·.1) = false := by rfl) :
    PD X (.Call (.Name "isinstance" pp) [e, e2] [] pos) (dIsX p dd b ta) :=
  PE.imp (pe_callB (call_isX hp h A cv e1) hg hm boot_isinstance (pa_cons ha (pa_cons hb pa_nil he2) he) (by decide) (by decide) he hpl) fun σ H Q ⟨m, ρ, c, Φ, S, hh, q⟩ =>
  ⟨m, ρ, c, _, S, hh, fun x c1 u H1 m1 ⟨⟨C', ns, ds, ex⟩, hx⟩ C1 R1 L1 => by
    subst ex
    obtain ⟨fs, rfl, h1, h2, h3⟩ := R1
    exact ⟨rfl, ⟨fs, (hid_some h1).2⟩, q (.bl b) c1 (.bl b) H1 m1 hx C1 rfl L1⟩⟩
/-- an attribute of the held exception -/
def dXf (p : Addr × Obj) (dd : Addr) (f : Str) (ta : TD) : TD := fun ρ c Φ => ta ρ c fun x c1 => ∃ C ns ds d, x = .exc p.1 dd C ns ds ∧ lookF f ns ds = some d ∧ Φ d c1
theorem pd_xf {n : Str} (hp : p ∈ X.pn) (h : HeldO p dd C) (A : ExcA X.K C) (hno : PySem.W.findIn X.K (.ref C) n = some none) (ha : PD X e ta) (hb : attributeBase e n X.env (eval e X.env) = eval e X.env := by rfl) :
    PD X (.Attribute e n pos) (dXf p dd n ta) := by
  refine ⟨fun pins s σ H Q I ⟨m, ρ, c, Φ, S, hh, q⟩ => ?_⟩
  refine attr_of hb (thn (ha.run pins s σ H (fun u H1 => ∃ fs v, u = .ref p.1 ∧ H1 dd = some (.xd fs) ∧ fs.lookup n = some v ∧ Q v H1) I ⟨m, ρ, c, _, S, hh, fun x c1 u H1 m1 ⟨C', ns, ds, d, ex, hl, hx⟩ C1 R1 L1 => ?_⟩) fun u s1 hh => ?_)
  · subst ex
    obtain ⟨fs, rfl, h1, h2, h3⟩ := R1
    obtain ⟨v, e1, rv⟩ := lookF_at h2 h3 hl
    exact ⟨fs, v, rfl, (hid_some h1).2, e1, q d c1 v H1 m1 hx C1 rv L1⟩
  · obtain ⟨x, H1, I1, rx, fs, v, ex, hx, hl, qq⟩ := hh
    subst ex
    obtain rfl : u = Value.ref p.1 := rx
    obtain ⟨od, mA, J, lo, hr⟩ := held_inst I1 hp h hx
    obtain ⟨u, hu, ru⟩ := RelO.some_of (v := v) (o := mA n) (by rw [← hl]; exact hr n)
    exact HandSPX.exc_get I1.kIn J A.ga A.gt A.su (PySem.W.findObj_own A.dc hno rfl (by rw [lo, hu])) (handed_of ru) ⟨v, H1, I1.tok _, ru, qq⟩
end

/-! ### lists of booleans: count, index -/
theorem reads_bools {h : Heap} : ∀ bs : List Bool, ReadsAll h (bs.map Value.bool) (bs.map PyData.bool) []
  | [] => .nil
  | b :: bs => .cons (as := []) (bs := []) (.bool b) (reads_bools bs)
theorem vals_bools : ∀ {bs : List Bool} {us : List Value}, Vals (bs.map V.bl) us → us = bs.map Value.bool
  | [], _, r => by cases r; rfl
  | b :: bs, _, r => by
    cases r with
    | cons r1 r2 =>
      cases r1
      rw [vals_bools r2]; rfl
theorem rl_bools {K : PySem.W.Frag} {ix : List Addr} {H : Hp} : ∀ {bs : List Bool} {xs : List V}, RL K ix H (bs.map D.bl) xs → xs = bs.map V.bl
  | [], _, h => h
  | b :: bs, _, ⟨x, r, e, h1, h2⟩ => by
    subst e
    cases (show x = V.bl b from h1)
    rw [rl_bools h2]; rfl
def cntB (k : Bool) : List Bool → Int
  | [] => 0
  | b :: bs => (if b = k then 1 else 0) + cntB k bs
def rCntB (K : PySem.W.Frag) : V → List V → Hp → VK → Prop := fun x xs H Q => ∃ (a : Addr) (bs : List Bool) (k : Bool), x = .ref a ∧ xs = [.bl k] ∧ SqL K H a (bs.map V.bl) ∧ Q (.int (cntB k bs)) H
theorem cnt_in (k : Bool) : ∀ bs : List Bool, countIn (.bool k) (bs.map PyData.bool) = cntB k bs
  | [] => rfl
  | b :: bs => by
    show (if same (.bool b) (.bool k) then 1 else 0) + countIn (.bool k) (bs.map PyData.bool) = _
    rw [cnt_in k bs]
    cases b <;> cases k <;> rfl
def idxB (k : Bool) : List Bool → Option Nat
  | [] => none
  | b :: bs => if b = k then some 0 else (idxB k bs).map (· + 1)
theorem idxB_at {k : Bool} : ∀ {bs : List Bool} {j : Nat}, idxB k bs = some j → bs[j]? = some k ∧ ∀ m z, m < j → bs[m]? = some z → z ≠ k
  | [], _, h => by cases h
  | b :: bs, j, h => by
    unfold idxB at h
    by_cases hb : b = k
    · rw [if_pos hb] at h
      cases h
      exact ⟨by simp [hb], fun m z hm => absurd hm (Nat.not_lt_zero _)⟩
    · rw [if_neg hb] at h
      obtain ⟨i, hi, rfl⟩ := Option.map_eq_some_iff.mp h
      obtain ⟨h1, h2⟩ := idxB_at hi
      refine ⟨by simpa using h1, fun m z hm hz => ?_⟩
      cases m with
      | zero => simp at hz; subst hz; exact hb
      | succ m => exact h2 m z (by omega) (by simpa using hz)
theorem mt_cntB {X : Cx} : MtR X "list.count" (rCntB X.K) := by
  intro pins s σ H x xs v us Q I rx rxs h
  obtain ⟨a, bs, k, rfl, rfl, hs, q⟩ := h
  cases rx
  cases rxs with
  | cons ry rt =>
    cases rt
    cases ry
    obtain ⟨its, rv, hl, hlen⟩ := I.list hs
    have e := vals_bools rv
    subst e
    obtain ⟨o, n, ho, hc, hdn, hd⟩ := hl
    exact count_list_bools ⟨o, ho, hc, n, hd⟩ (reads_bools (h := s.heap) bs) (by rw [List.all_map]; exact List.all_eq_true.mpr fun b _ => by cases b <;> rfl) ⟨.int (countIn (.bool k) (bs.map PyData.bool)), H, I.tok _, ⟨_, rfl⟩, by rw [cnt_in]; exact q⟩
/-! ### xs.count(e), xs.index(e) over booleans -/
def dCntB (to te : TD) : TD := fun ρ c Φ => to ρ c fun x c1 => ∃ bs : List Bool, x = .lst (bs.map .bl) ∧ te ρ c1 fun y c2 => ∃ k, y = .bl k ∧ Φ (.int (cntB k bs)) c2
def dIdxB (to te : TD) : TD := fun ρ c Φ => to ρ c fun x c1 => ∃ bs : List Bool, x = .lst (bs.map .bl) ∧ te ρ c1 fun y c2 => ∃ k j, y = .bl k ∧ idxB k bs = some j ∧ Φ (.int (j : Nat)) c2
section
variable {X : Cx} {o e : Expr} {ta tb : TD} {apos pos : Pos}
theorem one_arg {P : D → List Cell → Prop} : (fun x c1 => dNil (.nil : Env) c1 fun xs c2 => ∃ y, x :: xs = [y] ∧ P y c2) = P := by
  funext y c2
  apply propext
  constructor
  · rintro ⟨z, hz, r⟩; cases hz; exact r
  · intro r; exact ⟨y, rfl, r⟩
theorem pd_cntB (ho : PD X o ta) (he : PD X e tb)
    (hbase : attributeBase o "count" X.env (eval o X.env) = eval o X.env := by rfl)
    (hfew : ((backTo pos (starEach [e] X.env)).all (fun x => !x.1) && (backToKw pos (keywordEach [] X.env)).all (fun x => x.1.isSome) && decide ([e].length + ([] : List Keyword).length + (if ([] : List Keyword).isEmpty then 0 else 1) < 30)) = true := by rfl)
    (hline : (apos.endLine == pos.line) = true := by rfl) (hs : starEach [e] X.env = (false, eval e X.env) :: starEach [] X.env := by rfl) (hplain : (backTo pos (starEach [] X.env)).any (·.1) = false := by rfl) :
    PD X (.Call (.Attribute o "count" apos) [e] [] pos) (dCntB ta tb) :=
  PE.imp (pe_bm PySem.F.plainAttrs_list PySem.F.slot_list_count PySem.F.type_list_count mt_cntB ho (pds_cons he pds_nil hs) hbase hfew hline hs hplain) fun σ H Q ⟨m, ρ, c, Φ, S, h, q⟩ =>
  ⟨m, ρ, c, _, S, h, fun x c1 u H1 m1 hx C1 R1 L1 => by
    obtain ⟨bs, rfl, hx⟩ := hx
    obtain ⟨a, xs, rfl, h1, h2⟩ := R1
    cases rl_bools h2
    refine ⟨.inl ⟨rfl, _, SqL.of (hid_some h1).2⟩, m1, ρ, c1, (fun ys c2 => ∃ y, ys = [y] ∧ ∃ k, y = .bl k ∧ Φ (.int (cntB k bs)) c2), S.step L1 C1, ?_, fun ys c2 vs H2 m2 hy C2 R2 L2 => ?_⟩
    · have hx' := hx
      rw [← one_arg (P := fun y c2 => ∃ k, y = .bl k ∧ Φ (.int (cntB k bs)) c2)] at hx'
      exact hx'
    · obtain ⟨y, rfl, k, rfl, hq⟩ := hy
      obtain ⟨v, r, rfl, rv, rr⟩ := R2
      cases (show r = [] from rr)
      cases (show v = _ from rv)
      exact ⟨a, bs, k, rfl, rfl, SqL.of (hid_some (L2.ex a _ h1)).2, q _ c2 _ H2 m2 hq C2 rfl (L1.trans L2)⟩⟩
theorem pd_idxB (ho : PD X o ta) (he : PD X e tb)
    (hbase : attributeBase o "index" X.env (eval o X.env) = eval o X.env := by rfl)
    (hfew : ((backTo pos (starEach [e] X.env)).all (fun x => !x.1) && (backToKw pos (keywordEach [] X.env)).all (fun x => x.1.isSome) && decide ([e].length + ([] : List Keyword).length + (if ([] : List Keyword).isEmpty then 0 else 1) < 30)) = true := by rfl)
    (hline : (apos.endLine == pos.line) = true := by rfl) (hs : starEach [e] X.env = (false, eval e X.env) :: starEach [] X.env := by rfl) (hplain : (backTo pos (starEach [] X.env)).any (·.1) = false := by rfl) :
    PD X (.Call (.Attribute o "index" apos) [e] [] pos) (dIdxB ta tb) :=
  PE.imp (pe_bm PySem.F.plainAttrs_list PySem.F.slot_list_index PySem.F.type_list_index mt_index ho (pds_cons he pds_nil hs) hbase hfew hline hs hplain) fun σ H Q ⟨m, ρ, c, Φ, S, h, q⟩ =>
  ⟨m, ρ, c, _, S, h, fun x c1 u H1 m1 hx C1 R1 L1 => by
    obtain ⟨bs, rfl, hx⟩ := hx
    obtain ⟨a, xs, rfl, h1, h2⟩ := R1
    cases rl_bools h2
    refine ⟨.inl ⟨rfl, _, SqL.of (hid_some h1).2⟩, m1, ρ, c1, (fun ys c2 => ∃ y, ys = [y] ∧ ∃ k j, y = .bl k ∧ idxB k bs = some j ∧ Φ (.int (j : Nat)) c2), S.step L1 C1, ?_, fun ys c2 vs H2 m2 hy C2 R2 L2 => ?_⟩
    · have hx' := hx
      rw [← one_arg (P := fun y c2 => ∃ k j, y = .bl k ∧ idxB k bs = some j ∧ Φ (.int (j : Nat)) c2)] at hx'
      exact hx'
    · obtain ⟨y, rfl, k, j, rfl, hj, hq⟩ := hy
      obtain ⟨v, r, rfl, rv, rr⟩ := R2
      cases (show r = [] from rr)
      cases (show v = _ from rv)
      obtain ⟨i1, i2⟩ := idxB_at hj
      refine ⟨a, bs.map V.bl, .bl k, j, .bl k, rfl, rfl, SqL.of (hid_some (L2.ex a _ h1)).2, rfl, ?_, by rw [List.getElem?_map, i1]; rfl, by cases k <;> rfl, fun mm z' hm hz => ?_, q _ c2 _ H2 m2 hq C2 rfl (L1.trans L2)⟩
      · rw [List.all_map]; exact List.all_eq_true.mpr fun b _ => rfl
      · rw [List.getElem?_map] at hz
        obtain ⟨b, hb, rfl⟩ := Option.map_eq_some_iff.mp hz
        have := i2 mm b hm hb
        cases b <;> cases k <;> first | exact absurd rfl this | rfl⟩
end
end Cw

/-! # try .. except (A, B, C) as n; a lambda that is handed to a def which calls it so -/
namespace Cw
open PySem PySem.Spec PyProof.Rows L2

/-! ### the catch of three classes -/
abbrev TSP := Addr × Obj → Value → Option Addr → TS
def wAs3 (K : PySem.W.Frag) (nN : Nat) (c1 c2 c3 : Value) (i : Nat) (ts : TSP) (De : Ends) : WX := fun cls d σ H => σ.length = nN → PySem.W.exmAny K cls [c1, c2, c3] = some true ∧
  ∀ p : Addr × Obj, H p.1 = none → Zc cls d p.2 → (∃ vs, p.2.data = .fields vs) → ts p cls d { nx := fun σ' H' => De.nx (σ'.set i none) H', rt := De.rt, bk := fun σ' H' => De.bk (σ'.set i none) H', ct := fun σ' H' => De.ct (σ'.set i none) H' } (σ.set i (some (.ref p.1))) H
theorem flying_push {B h : Heap} {l : List PySem.Env} {a : Addr} {Z : Obj → Prop} {o : Obj} (f : HandSPX.FlyingZ B l a Z h) : HandSPX.FlyingZ B l a Z (h.push o) := by
  obtain ⟨z1, z2, z3, oe, vs, T, oT, ts, y1, y2, y3, y4, y5, y6, y7, y8, y9⟩ := f
  exact ⟨fun b u e => Heap.get?_push_of_some _ (z1 b u e), z2, z3.of_keeps fun b u e _ => ⟨u, Heap.get?_push_of_some _ e, rfl⟩, oe, vs, T, oT, ts, Heap.get?_push_of_some _ y1, y2, y3, y4, y5, y6, Heap.get?_push_of_some _ y7, y8, y9⟩
theorem slots_push {h : Heap} {o : Obj} : h.UpToSlots (h.push o) := fun b u e _ => ⟨u.slots, Heap.get?_push_of_some _ e⟩
section
variable {X : Cx} {i : Nat} {n x1 x2 x3 : Str} {c1 c2 c3 : Value} {body suite : List Stmt} {b0 : Stmt} {tb : WX → TS} {ts : TSP} {q1 q2 q3 tp pos pos' : Pos} {kt : Nat}
theorem ps_try_as3 (hst : X.stack = X.env :: X.outer) (hfr : X.env.frame = some X.env.locals) (hN : X.N.Nodup) (hi : X.N[i]? = some n) (hln : X.env.kindOf n = some .local)
    (g1 : Gl X x1) (m1 : X.mg x1 = some c1) (d1 : (x1 == ("__debug__" : Str)) = false) (g2 : Gl X x2) (m2 : X.mg x2 = some c2) (d2 : (x2 == ("__debug__" : Str)) = false) (g3 : Gl X x3) (m3 : X.mg x3 = some c3) (d3 : (x3 == ("__debug__" : Str)) = false)
    (hb : ∀ (W : WX) (pn : List (Addr × Obj)) (xe : Value → Shared → Prop), Takes (X.tr pn xe) W → PassesOwn (model X.prog X.w) X.A X.env xe → PSs (X.tr pn xe) body (tb W))
    (hsu : ∀ (p : Addr × Obj) (cls : Value) (d : Option Addr) (pn : List (Addr × Obj)), Zc cls d p.2 → (∃ vs, p.2.data = .fields vs) → PSs (X.suite p.1 (p :: pn)) (b0 :: suite) (ts p cls d)) :
    PS X (.Try body [.ExceptHandler (some (.Tuple [.Name x1 q1, .Name x2 q2, .Name x3 q3] kt tp)) (some n) (b0 :: suite) pos'] [] [] pos) (fun De σ H => tb (wAs3 X.K X.N.length c1 c2 c3 i ts De) De σ H) := by
  refine ⟨fun pins s σ H De I hT => wpAny_Try_except ?_⟩
  have okX := I.ok
  have frames : X.A.frames = some (X.env :: X.outer) := by rw [okX.frames, hst]
  refine wpAny_mono ((hb (wAs3 X.K X.N.length c1 c2 c3 i ts De) (X.pn ++ pins) (fun e sa => wpAny (model X.prog X.w) X.A (noteFrame e X.env) (fun _ sb => wpAny (model X.prog X.w) X.A (setFlight e none) (fun _ sc =>
    wpAny (model X.prog X.w) X.A (handleBy e X.env [.ExceptHandler (some (.Tuple [.Name x1 q1, .Name x2 q2, .Name x3 q3] kt tp)) (some n) (b0 :: suite) pos']) (SP X pins De) X.xe sc) X.xe sb) X.xe sa) (fun u sx air => ?_) PassesOwn.looking).run [] s σ H De (I.toTry _) hT) (fun fl sy end_ => ?_) (fun e sy bad => bad)
  · obtain ⟨a, B, sI, pinsI, σI, HI, cls, d, rfl, Jt, nb, up, sky, na, os, ag, wish⟩ := air
    have J : Inv X pins σI HI sI := Jt.ofTry okX
    obtain ⟨mat, yes⟩ := wish J.len
    have skyX : Sky B (X.env :: X.outer) a (Zc cls d) X.env.locals sx.heap := by rw [← hst]; exact sky
    show wpAny (model X.prog X.w) X.A (noteFrame (.ref a) X.env) _ _ _
    refine Sky.land Zc.steady frames hfr skyX fun hA flA upA => ?_
    obtain ⟨oA, vA, gA, zA, dA⟩ := flA.there
    have notframe : a ∉ frs (X.env :: X.outer) := fun hm => by
      obtain ⟨_, o', e', hnf⟩ := flA.2.2.1.mem hm
      rw [gA] at e'; cases e'
      exact hnf _ dA
    have nL : a ≠ X.env.locals := fun z => notframe (List.mem_filterMap.mpr ⟨X.env, List.mem_cons_self, by rw [hfr, z]⟩)
    have nF : a ∉ X.fs := fun hm => by
      obtain ⟨e, he, q⟩ := List.mem_filterMap.mp hm
      exact notframe (List.mem_filterMap.mpr ⟨e, List.mem_cons_of_mem _ he, q⟩)
    have JA : Inv X pins σI HI { sx with heap := hA } := J.landed nb flA.1 (up.trans upA) os ag
    have SA := JA.suite gA dA na nL nF
    refine wpAny_handleBy_cons (codeAny_handlers_test ?_) (by intro q; cases q)
    have ld : ∀ {x : Str} {c : Value} {q : Pos} {Q E : _}, Gl X x → X.mg x = some c → (x == ("__debug__" : Str)) = false → Q c { sx with heap := hA } → wpAny (model X.prog X.w) (X.A.mark (some (.ref a))) (eval (.Name x q) X.env) Q E { sx with heap := hA } :=
      fun {x c q Q E} g m dbg h => ld_glob (X := X.suite a ((a, oA) :: (X.pn ++ pins))) SA g m h dbg
    refine wpAny_Tuple_spliced (Calls.spliced_cons (ld g1 m1 d1 (Calls.spliced_cons (ld g2 m2 d2 (Calls.spliced_cons (ld g3 m3 d3 (Calls.spliced_nil ⟨by show 3 ≤ sizeLine; decide, ?_⟩)))))))
    generalize hB : hA.push { cls := .type "tuple", data := .seq [c1, c2, c3].toArray } = hBv
    have flB : HandSPX.FlyingZ B (X.env :: X.outer) a (Zc cls d) hBv := by rw [← hB]; exact flying_push flA
    have upB : hA.UpToSlots hBv := by rw [← hB]; exact slots_push
    have gB : hBv.get? a = some oA := by rw [← hB]; exact Heap.get?_push_of_some _ gA
    have kB : X.K.In hBv := by rw [← hB]; exact JA.kIn.keeps fun b o e => Heap.get?_push_of_some _ e
    have LT : PySem.W.Looks (model X.prog X.w) hBv (typeOf (.ref a)) cls := fun A Q E s k q => wpAny_typeOf_ref (k _ _ gB) (by rw [zA.1]; exact q)
    have tupB : hBv.get? hA.objs.size = some { cls := .type "tuple", data := .seq [c1, c2, c3].toArray } := by rw [← hB]; exact Heap.get?_push_size _ rfl
    refine (PySem.W.exm_tup3 (M := model X.prog X.w) kB LT tupB mat).here ?_
    refine codeAny_handlers_suite_as ?_
    refine HandSPX.lands_againZ flB fun hC flC upC => ?_
    obtain ⟨oC, vC, gC, zC, dC⟩ := flC.there
    have JC : Inv X pins σI HI { sx with heap := hC } := J.landed nb flC.1 (((up.trans upA).trans upB).trans upC) os ag
    have SC := JC.suite gC dC na nL nF
    refine store_ok (X := X.suite a ((a, oC) :: (X.pn ++ pins))) (v := .ref a) SC hN hi (.inl hln) rfl (fun s5 S5 => ?_) (.inr hln)
    refine wpAny_mono ((hsu (a, oC) cls d (X.pn ++ pins) zC ⟨_, dC⟩).run [] s5 _ HI _ S5 (yes (a, oC) na zC ⟨_, dC⟩)) (fun fl s6 end6 => ?_) (fun _ _ z => False.elim z)
    have off : ∀ {σ6 : L2.St} {H6 : Hp} {Q : Shared → Prop}, Inv (X.suite a ((a, oC) :: (X.pn ++ pins))) [] σ6 H6 s6 → (∀ s7, Inv X pins (σ6.set i none) H6 s7 → Q s7) →
        wpAny (model X.prog X.w) X.A (do bindName X.env n .none; unbindBehindTheSuite X.env n pos') (fun _ s7 => Q s7) X.xe s6 := fun {σ6 H6 Q} S6 hq => gone_ok (S6.unsuite okX) hN hi hln hq
    cases fl with
    | next => obtain ⟨σ6, H6, S6, q6⟩ := end6; exact off S6 fun s7 J7 => ⟨_, _, J7, q6⟩
    | brk => obtain ⟨σ6, H6, S6, q6⟩ := end6; exact off S6 fun s7 J7 => ⟨_, _, J7, q6⟩
    | cont => obtain ⟨σ6, H6, S6, q6⟩ := end6; exact off S6 fun s7 J7 => ⟨_, _, J7, q6⟩
    | ret u => obtain ⟨v6, σ6, H6, S6, r6, q6⟩ := end6; exact off S6 fun s7 J7 => ⟨_, _, _, J7, r6, q6⟩
  · cases fl with
    | next => obtain ⟨σ', H', J', q⟩ := end_; exact wpAny_execs_nil ⟨σ', H', J'.ofTry okX, q⟩
    | brk => obtain ⟨σ', H', J', q⟩ := end_; exact ⟨σ', H', J'.ofTry okX, q⟩
    | cont => obtain ⟨σ', H', J', q⟩ := end_; exact ⟨σ', H', J'.ofTry okX, q⟩
    | ret u => obtain ⟨v, σ', H', J', r, q⟩ := end_; exact ⟨v, σ', H', J'.ofTry okX, r, q⟩
end
end Cw

/-! # x(lambda: e), x the def that tells what a call raises or returns -/
namespace Cw
open PySem PySem.Spec PyProof.Rows L2

/-- the table is as it was, or has one code object more, which is new -/
def Grown (H H1 : Hp) (P c' : Addr) (q : Str) : Prop := H1 = H ∨ ∃ ps more, H P = some (.tbl ps) ∧ H c' = none ∧ H1 = upd (upd H P (.tbl (ps ++ more))) c' (LamX.CodeO c' q) ∧ TriplesOk (ps ++ more).toList ∧ ∀ (pos : Pos) (cv : Value), codeAmong pos (ps ++ more).toList = some cv → codeAmong pos ps.toList = some cv ∨ cv = .ref c'
section
variable {X : Cx} {pins : List (Addr × Obj)} {σ : L2.St} {H : Hp} {s : Shared}
theorem lam_makeP {c P : Addr} {params : Arguments} {body : Expr} {scope : Scope} {pos : Pos} {E Q : Value → Shared → Prop} (I : Inv X pins σ H s) (TB : LamX.TabB X.base X.mg c P) (hcode : X.env.code = .ref c)
    (tab : LamX.TabS H P (X.env.qual ++ "<lambda>")) (hdef : defaultsOf params X.env = ([], [])) (hfree : ∀ y ∈ scope.names, y.2 = .free → ∃ c, X.env.cells.lookup y.1 = some c)
    (h : ∀ (f c' : Addr) (pm ctv : Value) (H1 : Hp) (s' : Shared), Inv X pins σ H1 s' → Grown H H1 P c' (X.env.qual ++ "<lambda>") → LamX.TabS H1 P (X.env.qual ++ "<lambda>") →
      s'.heap.get? f = some (PySem.W.kla_obj "<lambda>" (X.env.qual ++ "<lambda>") params body scope (cloFrom X.env.cells scope.names []) pm c' ctv) → H1 f = none → f ∉ frs X.stack → H1 c' = some (LamX.CodeO c' (X.env.qual ++ "<lambda>")) → Q (.ref f) s') :
    wpAny (model X.prog X.w) X.A (eval (.Lambda params body scope pos) X.env) Q E s := by
  obtain ⟨ps, tP, tri, ent⟩ := tab
  have blt := TB.bm.keeps I.bk
  have getP : s.heap.get? P = some { cls := .none, data := .fields ps } := I.hok P _ tP
  have outside : ∀ f, s.heap.objs.size ≤ f → f ∉ frs X.stack := fun f hf z => (List.mem_cons.mp (I.stkSub _ z)).elim (fun e => by
    have lt := I.lt
    rw [← e] at lt
    exact absurd (Nat.lt_of_lt_of_le lt hf) (Nat.lt_irrefl _)) fun e => I.nofs hf e
  refine PySem.W.kla_eval hdef ?_
  cases hit : codeAmong pos ps.toList with
  | some cv =>
    obtain ⟨c', ec, hco⟩ := ent pos cv hit
    subst ec
    exact PySem.W.kla_makeFunctionHit (mg := X.mg) (c := c) (P := P) (ps := ps) (closure_ok hfree) I.ok.glob (I.mod.glob.keeps I.bk) hcode (TB.code.keeps I.bk) getP tri hit blt fun ctv h' tk hx hsz =>
      h h'.objs.size c' ((X.mg "__name__").getD .none) ctv H _ (I.kept fun b o e => Heap.get?_push_of_some _ (hx b o e)) (.inl rfl) ⟨ps, tP, tri, ent⟩ (Heap.get?_push_size _ rfl) (I.hok.fresh hsz) (outside _ hsz) hco
  | none =>
    refine PySem.W.kla_makeFunction (mg := X.mg) (c := c) (P := P) (ps := ps) (closure_ok hfree) I.ok.glob (I.mod.glob.keeps I.bk) hcode (TB.code.keeps I.bk) getP tri hit TB.gP blt fun c' ctv h' tk hx hge hlt hrec htb => ?_
    obtain ⟨c2, oc, vs, t, e2, hoc, hd, hv⟩ := hrec
    cases e2
    have big : s.heap.objs.size ≤ h'.objs.size := Nat.le_trans hge (Nat.le_of_lt hlt)
    have fresh : H c' = none := I.hok.fresh hge
    have J := LamX.inv_table (t' := tk) (more := #[rawInt pos.line, rawInt pos.col, .ref c']) (h' := h'.push (PySem.W.kla_obj "<lambda>" (X.env.qual ++ "<lambda>") params body scope (cloFrom X.env.cells scope.names []) ((X.mg "__name__").getD .none) c' ctv)) I tP
      (fun b o hb e => Heap.get?_push_of_some _ (hx b o hb e)) (Heap.get?_push_of_some _ htb) hge ⟨oc, vs, t, Heap.get?_push_of_some _ hoc, hd, hv⟩
    have toL : (ps ++ #[rawInt pos.line, rawInt pos.col, .ref c']).toList = ps.toList ++ [rawInt pos.line, rawInt pos.col, .ref c'] := by simp
    refine h h'.objs.size c' ((X.mg "__name__").getD .none) ctv _ _ J (.inr ⟨ps, _, tP, fresh, rfl, by rw [toL]; exact PySem.TriplesOk_snoc _ _ _ _ tri, fun p' cv hcv => by rw [toL] at hcv; exact LamX.among_app _ tri hcv⟩) ⟨_, by rw [upd_ne (ne_of_none tP fresh), upd_same], by rw [toL]; exact PySem.TriplesOk_snoc _ _ _ _ tri, fun p' cv hcv => ?_⟩ (Heap.get?_push_size _ rfl) ?_ (outside _ big) upd_same
    · rw [toL] at hcv
      rcases LamX.among_app _ tri hcv with z | z
      · obtain ⟨c0, e1, e3⟩ := ent p' cv z
        refine ⟨c0, e1, ?_⟩
        rw [upd_ne (ne_of_none e3 fresh), upd_ne (fun z => by rw [z, tP] at e3; exact LamX.codeO_ne ps (Option.some.inj e3).symm)]
        exact e3
      · exact ⟨c', z, upd_same⟩
    · have n1 : h'.objs.size ≠ c' := Nat.ne_of_gt hlt
      have n2 : h'.objs.size ≠ P := Nat.ne_of_gt (Nat.lt_of_lt_of_le (Heap.lt_size getP) big)
      rw [upd_ne n1, upd_ne n2]
      exact I.hok.fresh big
end
section
variable {K : PySem.W.Frag} {m : Ad} {H H1 : Hp} {σ : L2.St} {ρ : Env} {c : List Cell} {P c' : Addr}
theorem TabK.tabS {q : Str} (t : TabK m H P q) : LamX.TabS H P q := by
  obtain ⟨ps, h1, h2, h3⟩ := t
  exact ⟨ps, h1, h2, fun pos cv hc => let ⟨c, e1, e2⟩ := h3 pos cv hc; ⟨c, e1, (hid_some e2).2⟩⟩
theorem grown_le (C : CR K H m c) (hP : P ∈ m.hd) (t : TabK m H P lamQ) (g : Grown H H1 P c' lamQ) : CR K H1 m c ∧ Le m H m H1 := by
  rcases g with rfl | ⟨ps, more, hp, hn, rfl, htri, hent⟩
  · exact ⟨C, Le.refl _ _⟩
  · have hc := hid_new hn C
    have nPc : P ≠ c' := ne_of_none hp hn
    have at_ : ∀ b, b ≠ P → b ≠ c' → upd (upd H P (.tbl (ps ++ more))) c' (LamX.CodeO c' lamQ) b = H b := fun b h1 h2 => by rw [upd_ne h2, upd_ne h1]
    have ex : Ex (hid m H) (hid m (upd (upd H P (.tbl (ps ++ more))) c' (LamX.CodeO c' lamQ))) := fun b o e => by
      obtain ⟨h1, h2⟩ := hid_some e
      rw [hid_of h1, at_ b (fun z => h1.2 (z ▸ hP)) (ne_of_none h2 hn)]
      exact h2
    have tk : TabK m (upd (upd H P (.tbl (ps ++ more))) c' (LamX.CodeO c' lamQ)) P lamQ := by
      obtain ⟨qs, e1, e2, e3⟩ := t
      rw [hp] at e1
      cases e1
      refine ⟨ps ++ more, by rw [upd_ne nPc, upd_same], htri, fun pos cv hcv => ?_⟩
      rcases hent pos cv hcv with z | z
      · obtain ⟨d, y1, y2⟩ := e3 pos cv z
        exact ⟨d, y1, ex d _ y2⟩
      · exact ⟨c', z, by rw [hid_of hc]; exact upd_same⟩
    have l : Le m H m (upd (upd H P (.tbl (ps ++ more))) c' (LamX.CodeO c' lamQ)) := by
      refine ⟨fun _ _ e => e, ex, rfl, fun b hb => ?_, fun _ h => .inl h, fun a e => ?_⟩
      · by_cases hbP : b = P
        · subst hbP
          exact .inr ⟨⟨ps, ps ++ more, hp, by rw [upd_ne nPc, upd_same]⟩, fun q _ => by rw [q.2]; exact tk⟩
        · exact .inl (at_ b hbP fun z => hc.2 (z ▸ hb))
      · exact upd_none (upd_none e)
    refine ⟨⟨C.len, C.nd, fun k ce e => ?_, fun b hb => l.hs hb (C.hs b hb), C.dj, C.tk' l⟩, l⟩
    obtain ⟨a, h1, h2⟩ := C.at_ k ce e
    have ha : a ∈ m.ix := List.mem_of_getElem? h1
    exact ⟨a, h1, h2.step l fun o e' => by rw [at_ a (fun z => C.dj a ha (z ▸ hP)) (fun z => hc.1 (z ▸ ha))]; exact e'⟩
end

/-! ### the def that tells -/
def dLam (tell : XD → Option D) (tx : TDX) : TD := fun ρ c Φ => tx ρ c (fun d c1 => Φ (.tup [.str "told", .tup [d]]) c1) fun y c1 => ∃ r, tell y = some r ∧ okDs 0 y.ds = true ∧ Φ r c1
theorem pd_lam {X : Cx} {x a nf ne nw x1 x2 x3 : Str} {c1 c2 c3 : Value} {g cL P : Addr} {fdg : FuncData} {st b0 : Stmt} {suite : List Stmt} {k : Nat} {params : Arguments} {body : Expr} {scope : Scope} {tell : XD → Option D} {tx : TDX} {tsu : Addr × Obj → TSD}
    {p1 p2 p3 p4 p5 p6 p7 p8 p9 p10 p11 q1 q2 q3 tp px lpos pos : Pos} {kt k1 k2 jk : Nat}
    (F : Fun X.K x x st g fdg) (Sg : FnScope [a, nf, ne, nw] [a] (defScope st))
    (hst : defBody st = [.Try [.Assign [.Name nf p1] (.Call (.Name a p2) [] [] p3) p4] [.ExceptHandler (some (.Tuple [.Name x1 q1, .Name x2 q2, .Name x3 q3] kt tp)) (some ne) (b0 :: suite) p5] [] [] p6, .Return (some (.Tuple [.Constant (.str "told") jk p7, .Tuple [.Name nf p8] k2 p9] k1 p10)) p11])
    (hm : X.mg x = some (.ref g)) (hb : L2.Binds X.K fdg [a] []) (m1 : X.mg x1 = some c1) (m2 : X.mg x2 = some c2) (m3 : X.mg x3 = some c3)
    (TB : LamX.TabB X.base X.mg cL P) (hcode : X.env.code = .ref cL) (hT : (P, (⟨lamQ, rfl⟩ : LQ)) ∈ tabsK X.K) (hr : Room (k + 3) X.A)
    (hexm : ∀ y r, tell y = some r → PySem.W.exmAny X.K (.ref y.C) [c1, c2, c3] = some true)
    (hsu : ∀ (cdv : Value) (A : Around) (outer : List PySem.Env) (s : Shared) (H : Hp) (p : Addr × Obj) (pn : List (Addr × Obj)), L2H.RoomH (k + 2) ((cxOf CX0 X.prog X.w X.K X.mg X.base [a, nf, ne, nw] x (defScope st) g cdv A outer s H E0).suite p.1 (p :: pn)).A →
      PSDs ((cxOf CX0 X.prog X.w X.K X.mg X.base [a, nf, ne, nw] x (defScope st) g cdv A outer s H E0).suite p.1 (p :: pn)) (b0 :: suite) (tsu p))
    (hts : ∀ (p : Addr × Obj) (dd : Addr) (y : XD) (r : D) (c : List Cell) (Ψ : D → List Cell → Prop), HeldO p dd y.C → tell y = some r → okDs 0 y.ds = true → Ψ r c → tsu p ⟨fun _ _ => False, Ψ, fun _ _ => False, fun _ _ => False⟩ [none, none, some (.exc p.1 dd y.C y.ns y.ds), none] c)
    (hbody : ∀ (A : Around) (outer : List PySem.Env) (s : Shared) (H : Hp) (E : XK) (f c' : Addr), Room (k + 1) (A.deeper (LamX.lamEnv X scope s.heap.objs.size f c')) → PDX (LamX.lamCx X A outer s H E scope f c') E body tx)
    (L : LamX.LamS X.env.scope scope) (hq : X.env.qual ++ "<lambda>" = lamQ := by rfl) (hdef : defaultsOf params X.env = ([], []) := by rfl)
    (hbind : ∀ (q : Str) (cl : List (Str × Addr)) (pm cv ctv : Value), bindArgs (PySem.W.kla_fn "<lambda>" q params body scope cl pm cv ctv) ⟨[], []⟩ = pure [] := by intros; rfl)
    (hg : Gl X x := by rfl) (g1 : (defScope st).names.lookup x1 = some .globalImplicit := by rfl) (g2 : (defScope st).names.lookup x2 = some .globalImplicit := by rfl) (g3 : (defScope st).names.lookup x3 = some .globalImplicit := by rfl)
    (va : (defScope st).names.lookup a = some .local := by rfl) (vf : (defScope st).names.lookup nf = some .local := by rfl) (ve : (defScope st).names.lookup ne = some .local := by rfl)
    (hdb : (x == ("__debug__" : Str)) = false := by decide) (da : (a == ("__debug__" : Str)) = false := by decide) (ca : (a == ("__classdict__" : Str)) = false := by decide) (df : (nf == ("__debug__" : Str)) = false := by decide) (cf : (nf == ("__classdict__" : Str)) = false := by decide)
    (d1 : (x1 == ("__debug__" : Str)) = false := by decide) (d2 : (x2 == ("__debug__" : Str)) = false := by decide) (d3 : (x3 == ("__debug__" : Str)) = false := by decide) :
    PD X (.Call (.Name x px) [.Lambda params body scope lpos] [] pos) (dLam tell tx) := by
  obtain ⟨oc, od, kV, doc, pm, an, cdv, ct, osl, rfl, lk, hcd⟩ := F.ex
  refine ⟨fun pins s σ H Q I ⟨m, ρ, c, Φ, S, h, q⟩ => ?_⟩
  obtain ⟨hP, tk⟩ := S.cr.tk _ hT
  refine wpAny_Call_Name_kw (ld_glob I hg hm ?_ hdb)
  refine PySem.W.callWith_K (h₀ := X.base) I.ok.mod.kin F.kp ?_ (by rfl) (by rfl)
  show wpAny _ _ (spliced ((false, eval (.Lambda params body scope lpos) X.env) :: backTo pos (starEach [] X.env))) _ _ s
  refine Calls.spliced_cons (lam_makeP I TB hcode (by rw [hq]; exact tk.tabS) hdef (L.has I.ok) fun f c' pm' ctv H1 s' I1 gr t1 hf hfn hfr hco => ?_)
  rw [hq] at gr t1
  obtain ⟨C1, L01⟩ := grown_le S.cr hP tk gr
  have S1 := S.step L01 C1
  refine Calls.spliced_nil ⟨I1.kIn, ?_⟩
  have rc : codeAny (model X.prog X.w) X.A (.call (.ref g) ⟨[.ref f], []⟩) (L2.CR C8.CX0 X.stack X.prog X.w H1 s' Q E0) s' := by
    refine LamX.run_ofS (N := [a, nf, ne, nw]) (ps := [a]) (us := [.ref f]) (vs := [.ref f]) lk hcd Sg (hr.mono (by omega) : Room ((k + 2) + 1) X.A) I1.env0 (hb s' [.ref f] I1.kIn rfl) (.cons rfl .nil) rfl fun hr' => ?_
    rw [hst]
    let Z : Cx := cxOf C8.CX0 X.prog X.w X.K X.mg X.base [a, nf, ne, nw] x (defScope st) g cdv X.A X.stack s' H1 E0
    have hsuite : ∀ (p : Addr × Obj) (cls : Value) (d : Option Addr) (pn : List (Addr × Obj)), Zc cls d p.2 → (∃ vs, p.2.data = .fields vs) → PSs (Z.suite p.1 (p :: pn)) (b0 :: suite) (liftS X.K (tsu p)) := fun p cls d pn _ _ =>
      hsu cdv X.A X.stack s' H1 p pn ⟨hr'.dp, hr'.un⟩
    have htry : ∀ (W : WX) (pn : List (Addr × Obj)) (xe : Value → Shared → Prop), Takes (Z.tr pn xe) W → PassesOwn (model Z.prog Z.w) Z.A Z.env xe → PSs (Z.tr pn xe) [.Assign [.Name nf p1] (.Call (.Name a p2) [] [] p3) p4]
        (fun De σZ HZ => ∃ Ech : XK, (∀ cls d σ' H', Ech cls d H' → W cls d σ' H') ∧ σZ[0]? = some (some (.ref f)) ∧ HZ c' = some (LamX.CodeO c' (X.env.qual ++ "<lambda>")) ∧ liftX X.K Ech tx σ HZ (fun v H' => De.nx (σZ.set 1 (some v)) H')) := fun W pn xe tk2 _ => by
      refine ⟨fun pins2 s2 σ2 H2 De I2 ⟨Ech, hW, z1, z2, z3⟩ => ?_⟩
      have act : PE (Z.tr pn xe) (.Call (.Name a p2) [] [] p3) (fun σZ HZ Q => σZ[0]? = some (some (.ref f)) ∧ HZ c' = some (LamX.CodeO c' (X.env.qual ++ "<lambda>")) ∧ liftX X.K Ech tx σ HZ Q) :=
        LamX.pe_act (k := k + 1) (i := 0) (tb := liftX X.K Ech tx) I1 L hf hfn hfr (hbind _ _ _ _ _) tk2 hW hr' (fun A outer s H hr2 => hbody A outer s H Ech f c' hr2) rfl (.inl va) da ca
      have asg : PS (Z.tr pn xe) (.Assign [.Name nf p1] (.Call (.Name a p2) [] [] p3) p4) _ := ps_set (i := 1) Sg.nd rfl (.inl vf) act
      exact (pss_one asg).run pins2 s2 σ2 H2 De I2 ⟨z1, z2, z3⟩
    have ret : PS Z (.Return (some (.Tuple [.Constant (.str "told") jk p7, .Tuple [.Name nf p8] k2 p9] k1 p10)) p11) _ := ps_ret (pe_tup (pa_cons pe_str (pa_cons (pe_tup (pa_cons (pe_var (i := 1) (x := nf) rfl (.inl vf) df cf) pa_nil)) pa_nil)))
    have tr := ps_try_as3 (X := Z) (i := 2) (n := ne) (c1 := c1) (c2 := c2) (c3 := c3) (q1 := q1) (q2 := q2) (q3 := q3) (tp := tp) (kt := kt) (pos := p6) (pos' := p5) rfl rfl Sg.nd rfl ve g1 m1 d1 g2 m2 d2 g3 m3 d3 htry hsuite
    refine ⟨_, pss_cons tr (pss_one ret), ?_⟩
    refine ⟨fun cls d H' => ∃ y c2 m', (∃ r, tell y = some r ∧ okDs 0 y.ds = true ∧ Φ r c2) ∧ CR X.K H' m' c2 ∧ IsX X.K H' m' y cls d ∧ Le m H1 m' H', ?_, rfl, hco, m, ρ, c, _, _, S1, h, ?_, ?_⟩
    · rintro cls d σ' H' ⟨y, c2, m', ⟨r, hr2, ok, hΦ⟩, C', ⟨rfl, dd, fs, rfl, y1, y2, y3⟩, l⟩ hlen
      refine ⟨hexm y r hr2, fun p hp hz hfl => ?_⟩
      refine ⟨m', [none, none, some (.exc p.1 dd y.C y.ns y.ds), none], c2, ⟨fun _ _ => False, Φ, fun _ _ => False, fun _ _ => False⟩, ⟨C', ?_, fun i d e => ?_⟩, hts p dd y r c2 Φ ⟨hz.1, hz.2, hfl⟩ hr2 ok hΦ, fun _ _ _ _ _ z => z.elim, ?_, fun _ _ _ _ _ z => z.elim, fun _ _ _ _ _ z => z.elim⟩
      · rw [List.length_set, hlen]; rfl
      · have hl4 : σ'.length = 4 := hlen
        have hi : i = 2 := by
          match i, e with
          | 2, _ => rfl
          | n + 3, e => match n, e with
            | n + 1, e => simp at e
        subst hi
        · cases e
          exact ⟨.ref p.1, by rw [List.getElem?_set_self (by omega)], fs, rfl, y1, y2, y3⟩
      · exact fun d c3 w H3 m3 hd C3 R3 l3 => q d c3 w H3 m3 hd C3 R3 (L01.trans (l.trans l3))
    · intro d c2 v H2 m2 hd C2 R2 l2
      refine ⟨v, rfl, by show 1 ≤ sizeLine; decide, fun p hp => ⟨by show 2 ≤ sizeLine; decide, fun p' hp' => ?_⟩⟩
      have r1 : RRL X.K H2 m2 [d] [v] := ⟨v, [], rfl, R2, rfl⟩
      have R3 := RR.newT (X := X) C2 hp r1
      have C3 := C2.new (o := .tup [v]) hp
      have l3 := Le.new (o := .tup [v]) hp C2
      have r2 : RRL X.K (upd H2 p (.tup [v])) m2 [.str "told", .tup [d]] [.str "told", .ref p] := ⟨_, _, rfl, rfl, _, [], rfl, R3, rfl⟩
      exact q _ c2 _ _ m2 hd (C3.new hp') (RR.newT (X := X) C3 hp' r2) (L01.trans (l2.trans (l3.trans (Le.new hp' C3))))
    · intro y c2 cls d H2 m2 hy C2 R2 l2
      exact ⟨y, c2, m2, hy, C2, R2, l2⟩
  refine wpAny_call (codeAny_mono rc fun r s2 hq => ?_)
  cases r with
  | error e => exact (show False from hq).elim
  | ok fl =>
    cases fl with
    | ret u => exact I1.after hq
    | next => exact False.elim hq
    | brk => exact False.elim hq
    | cont => exact False.elim hq
end Cw

/-! # The law's own entry with one table of code objects; a def whose code object is known -/
namespace Cw
open PySem PySem.Spec PyProof.Rows L2

structure FunC (K : PySem.W.Frag) (x qual : Str) (st : Stmt) (f : Addr) (fd : FuncData) (cd : Value) : Prop where
  ex : ∃ (oc : Value) (od : Option Addr) (dV kV doc pm : Value) (an : Option Addr) (ct : Value) (osl : Array (Option Value)),
    fd = PySem.W.fnOf x qual (defArgs st) (defBody st) (defScope st) dV kV doc pm an cd ct ∧ K.lookup f = some ⟨oc, od, .func fd, osl⟩ ∧ PySem.W.codeIn K cd qual = true
section
variable {P : Program} {w : World} {K : PySem.W.Frag} {mg : Str → Option Value} {base : Heap}
theorem fnGC {x qual : Str} {st : Stmt} {f : Addr} {fd : FuncData} {cd : Value} {N ps : List Str} {k : Nat} {sp : Sp} (F : FunC K x qual st f fd cd) (Sc : FnScope N ps (defScope st)) (ln : ∀ vs H Q E, sp vs H Q E → vs.length = ps.length)
    (hbody : ∀ (A : Around) (outer : List PySem.Env) (s : Shared) (H : Hp) (vs : List V) (Q : VK) (E : XK), A.guards = some [] → Room k (A.deeper (envOfC qual (defScope st) s.heap.objs.size f cd)) → sp vs H Q E →
      ∃ t, PSs (cxOf CX0 P w K mg base N qual (defScope st) f cd A outer s H E).nox (defBody st) t ∧ t { nx := fun _ H' => Q .non H', rt := Q } (L2.start N vs) H) : FnG P w K mg base (k + 1) f fd ps sp := by
  obtain ⟨oc, od, dV, kV, doc, pm, an, ct, osl, rfl, lk, hcd⟩ := F.ex
  refine ⟨ln, fun A outer s H args us vs Q E hgu hr e0 hb r hsp => ?_⟩
  have inK : K.In s.heap := e0.mod.kin.keeps fun b o e => (e0.bs b o e).1
  have nl : s.heap.NoLimit := e0.mod.nolimit.keeps fun b o e => (e0.bs b o e).1
  obtain ⟨t, ht', hq⟩ := hbody A outer s H vs Q E hgu (hr.deeper _) hsp
  have ht := ht'.nox
  have kinds : ∀ y ∈ ps.zip us, (defScope st).names.lookup y.1 = some .local ∨ ((defScope st).names.lookup y.1 = some .cell ∧ ((cellsFrom (s.heap.objs.size + 1) (defScope st).names []).lookup y.1).isSome = true) := fun ⟨n, v⟩ hy => (Sc.par n (List.of_mem_zip hy).1).imp id fun q => ⟨q, PySem.W.cellsFrom_some _ _ _ (.inl q)⟩
  refine codeAny_call_function hr.depth (inK _ _ lk) rfl Sc.co Sc.gen rfl (PySem.W.codeRec_of inK hcd) (hb _ _ _ _ (wpAny_newFunctionEnv_cells Sc.kind kinds fun env he s1 x => ?_))
  subst he
  refine ⟨nl.keeps x.toInCall.keep, codeAny_func ?_⟩
  have I : Inv (cxOf CX0 P w K mg base N qual (defScope st) f cd A outer s H E) [] (L2.start N vs) H s1 := inv_start Sc hr.hd e0 (ln _ _ _ _ hsp) r x
  refine wpAny_mono (ht.run [] s1 (L2.start N vs) H _ I hq) (fun fl s' hs => ?_) fun e s' hs => hs
  cases fl with
  | ret u =>
    obtain ⟨v, σ', H', J, rv, q⟩ := hs
    exact ⟨v, H', J.os, J.bare, J.base, J.hok, rv, q⟩
  | next =>
    obtain ⟨σ', H', J, q⟩ := hs
    exact ⟨V.non, H', J.os, J.bare, J.base, J.hok, rfl, q⟩
  | brk => exact hs.elim fun _ z => z.elim fun _ z => z.2.elim
  | cont => exact hs.elim fun _ z => z.elim fun _ z => z.2.elim
theorem fnGCD {x qual : Str} {st : Stmt} {f : Addr} {fd : FuncData} {cd : Value} {N ps : List Str} {k n0 : Nat} {S : Pm} (F : FunC K x qual st f fd cd) (Sc : FnScope N ps (defScope st))
    (hbody : ∀ (A : Around) (outer : List PySem.Env) (s : Shared) (H : Hp) (E : XK), A.guards = some [] → Room k (A.deeper (envOfC qual (defScope st) s.heap.objs.size f cd)) →
      ∃ ts, PSDs (cxOf CX0 P w K mg base N qual (defScope st) f cd A outer s H E).nox (defBody st) ts ∧
        ∀ c ds Φ, c.length = n0 → ds.length = ps.length → S c ds Φ → ts ⟨fun _ c' => retD n0 Φ .non c', retD n0 Φ, fun _ _ => False, fun _ _ => False⟩ (startD N ds) c) :
    FnG P w K mg base (k + 1) f fd ps (spD K n0 ps.length S) := by
  refine fnGC F Sc (fun vs H Q E ⟨m, c, ds, Φ, h1, h2, C, r, _⟩ => by rw [← RL.length r]; exact h2) (fun A outer s H vs Q E hgu hr ⟨m, c, ds, Φ, h1, h2, C, r, hS, q⟩ => ?_)
  obtain ⟨ts, hp, ht⟩ := hbody A outer s H E hgu hr
  have hn : m.ix.length = n0 := by rw [C.len]; exact h1
  exact ⟨_, hp, m, startD N ds, c, _, start_slots C r, ht c ds Φ h1 h2 hS, fun σ' H' m' ρ' c' h' S' l => ret_ok hn q h' S'.cr rfl l, fun d c' v H' m' h' C' r' l => ret_ok hn q h' C' r' l, fun _ _ _ _ _ z => z.elim, fun _ _ _ _ _ z => z.elim⟩
end

section
variable {P : Program} {w : World} {K : PySem.W.Frag} {mg mb : Str → Option Value} {k : Nat} {fa a cL T : Addr} {fd : FuncData} {x : Str} {sp : Sp} {s₁ : Shared} {vs : List Value} {ns : List Int}
/-- at most the script and the table are tracked -/
theorem entryT {H : Hp} (KX : K.In s₁.heap) (hns : s₁.heap.Ns mainGlobals mg) (hb : s₁.heap.Ns builtinsNs mb) (hbb : ∀ x : Str, x ≠ "__name__" → mb x = bootBuiltins x) (hlim : s₁.heap.NoLimit) (hg : s₁.gens = #[])
    (hT : s₁.heap.get? T = some { cls := .none, data := .fields #[] }) (nT : K.lookup T = none) (hC : PySem.W.CodeHd s₁.heap cL T)
    (hbm : ∃ (bm : Addr) (ob : Obj), mg "__builtins__" = some (.ref bm) ∧ bm ≠ builtinsNs ∧ s₁.heap.get? bm = some ob ∧ ob.cls = .type "module" ∧ ob.dict = some builtinsNs ∧ ob.data = .plain)
    (ha : s₁.heap.get? a = some { cls := .type "list", data := .seq vs.toArray }) (hr : Room k callerA) (F : ∀ base : Heap, K.In base → base.Ns mainGlobals mg → LamX.TabB base mg cL T → FnG P w K mg base k fa fd [x] sp) (hbind : ∀ (s : Shared) (u : Value), BindsTo s fd ⟨[u], []⟩ [(x, u)])
    (hHT : H T = some (.tbl #[])) (hO : ∀ b, H b = none ∨ b = T ∨ ∃ o xs, H b = some (.frz o (.lst xs))) (hS : sp [.ref a] H (fun v _ => v = .bl true) fun _ _ _ => False) (hok : HOk P w H s₁.heap) (hA : ∀ b, H b ≠ none → b = a ∨ b = T) (hK : H a ≠ none → K.lookup a = none) :
    codeAny (model P w) callerA (.call (.ref fa) ⟨[.ref a], []⟩) (OutG s₁) s₁ := by
  have plain : ∀ {b : Addr} {o : Obj}, s₁.heap.get? b = some o → (∀ vs n, o.data ≠ .seq vs n) → o.data ≠ .fields #[] → H b = none := fun {b o} e h1 h2 => by
    cases q : H b with
    | none => rfl
    | some u =>
      rcases hA b (by rw [q]; exact fun z => nomatch z) with z | z
      · subst z; rw [ha] at e; cases e; exact absurd rfl (h1 _ _)
      · subst z; rw [hT] at e; cases e; exact absurd rfl h2
  have keepB : ∀ {b : Addr} {o : Obj}, s₁.heap.get? b = some o → H b = none → (hidT s₁.heap H).get? b = some o := fun e n => hidT_get e n
  have nsK : ∀ {b : Addr} {m : Str → Option Value}, s₁.heap.Ns b m → (hidT s₁.heap H).Ns b m := fun {b m} ⟨o, es, ep, e, d, r⟩ => by
    refine ⟨o, es, ep, keepB e (plain e (fun vs n z => ?_) fun z => ?_), d, r⟩
    · rw [d] at z; cases z
    · rw [d] at z; cases z
  have hKb : K.In (hidT s₁.heap H) := fun b o e => by
    refine keepB (KX b o e) ?_
    cases q : H b with
    | none => rfl
    | some u =>
      rcases hA b (by rw [q]; exact fun z => nomatch z) with z | z
      · subst z; rw [hK (by rw [q]; exact fun z => nomatch z)] at e; cases e
      · subst z; rw [nT] at e; cases e
  obtain ⟨mc, l1, l2⟩ := hlim
  have TB : LamX.TabB (hidT s₁.heap H) mg cL T := by
    refine ⟨?_, ?_, fun z => ?_⟩
    · obtain ⟨o, us, file, tf, flags, tg, inF, text, tt, e1, r1, r2, r3, r4⟩ := hC
      refine ⟨o, us, file, tf, flags, tg, inF, text, tt, keepB e1 (plain e1 (fun vs n z => ?_) fun z => ?_), r1, r2, r3, r4⟩
      · rw [r2] at z; cases z
      · rw [r2] at z; cases z; simp at r3
    · obtain ⟨bm, ob, b1, b2, b3, b4, b5, b6⟩ := hbm
      refine ⟨bm, ob, b1, b2, fun q => ?_, fun q => ?_, keepB b3 (plain b3 (fun vs n z => ?_) fun z => ?_), b4, b5, b6⟩
      · obtain ⟨o, es, ep, e, hd, _⟩ := hns
        rw [q, e] at b3; cases b3; rw [hd] at b6; cases b6
      · rw [q, hT] at b3; cases b3; cases b6
      · rw [b6] at z; cases z
      · rw [b6] at z; cases z
    · obtain ⟨o, es, ep, e, hd, _⟩ := hns
      rw [z, hT] at e; cases e; cases hd
  have e0 : Env0 P w K mg (hidT s₁.heap H) callerA [] s₁ H :=
    ⟨rfl, ⟨hKb, nsK hns, ⟨mb, nsK hb, hbb⟩, ⟨mc, nsK l1, l2⟩⟩, fun b o e => of_hidT e, Nat.le_of_eq (hidT_size _ _), trivial, fun b z => (List.not_mem_nil z).elim, hok, .of_eq hg⟩
  have run := (F _ hKb (nsK hns) TB).rn callerA [] s₁ H ⟨[.ref a], []⟩ [.ref a] [.ref a] _ _ rfl hr e0 (hbind s₁ (.ref a)) (.cons rfl .nil) hS
  refine codeAny_mono run fun r s' h => ?_
  cases r with
  | error e => exact False.elim h
  | ok fl =>
    cases fl with
    | ret u =>
      obtain ⟨v, H', os, bare, un, hok', rv, hv⟩ := h
      cases (show v = .bl true from hv)
      cases (show u = Value.bool true from rv)
      have grown : ∃ more : Array Value, s'.heap.get? T = some { cls := .none, data := .fields more } := by
        obtain ⟨more, z⟩ := un.tbls T #[] hHT
        exact ⟨_, hok' T _ z⟩
      have same : ∀ b o, b ≠ T → s₁.heap.get? b = some o → s'.heap.get? b = some o := fun b o nb e => by
        cases q : H b with
        | none => exact un.keep b o e q (fun z => (List.not_mem_nil z).elim) (fun z => (List.not_mem_nil z).elim)
        | some u =>
          rcases hO b with z | z | ⟨ob, xs, z⟩
          · rw [q] at z; cases z
          · exact absurd z nb
          · have old := (hok b _ z).1
            rw [e] at old
            cases old
            exact (hok' b _ (un.frzs b _ _ z)).1
      refine ⟨rfl, ⟨fun b o e => ?_, fun b o e => ?_⟩, os, bare⟩
      · by_cases hb : b = T
        · obtain ⟨more, hm⟩ := grown
          subst hb
          rw [hT] at e
          cases e
          exact .inr (.inl ⟨(hC.tab hT).isCodeTable, rfl, #[], more, rfl, by rw [Array.empty_append]; exact hm⟩)
        · exact .inl (same b o hb e)
      · by_cases hb : b = T
        · obtain ⟨more, hm⟩ := grown
          subst hb
          exact ⟨_, hm⟩
        · exact ⟨o, same b o hb e⟩
    | next => exact False.elim h
    | brk => exact False.elim h
    | cont => exact False.elim h
theorem lawT (KX : K.In s₁.heap) (hns : s₁.heap.Ns mainGlobals mg) (hb : s₁.heap.Ns builtinsNs mb) (hbb : ∀ x : Str, x ≠ "__name__" → mb x = bootBuiltins x) (hlim : s₁.heap.NoLimit) (hg : s₁.gens = #[])
    (hT : s₁.heap.get? T = some { cls := .none, data := .fields #[] }) (nT : K.lookup T = none) (hC : PySem.W.CodeHd s₁.heap cL T)
    (hbm : ∃ (bm : Addr) (ob : Obj), mg "__builtins__" = some (.ref bm) ∧ bm ≠ builtinsNs ∧ s₁.heap.get? bm = some ob ∧ ob.cls = .type "module" ∧ ob.dict = some builtinsNs ∧ ob.data = .plain)
    (ha : s₁.heap.get? a = some { cls := .type "list", data := .seq vs.toArray }) (hi : IntsAre vs ns) (hl : ns.length ≤ sizeLine) (hr : Room k callerA) (F : ∀ base : Heap, K.In base → base.Ns mainGlobals mg → LamX.TabB base mg cL T → FnG P w K mg base k fa fd [x] sp) (hbind : ∀ (s : Shared) (u : Value), BindsTo s fd ⟨[u], []⟩ [(x, u)])
    (hsp : ∀ H : Hp, H T = some (.tbl #[]) → SqL K H a (ns.map V.int) → sp [.ref a] H (fun v _ => v = .bl true) fun _ _ _ => False) : codeAny (model P w) callerA (.call (.ref fa) ⟨[.ref a], []⟩) (OutG s₁) s₁ := by
  have rv := vals_ints hi
  have hl' : (ns.map V.int).length ≤ sizeLine := by rw [List.length_map]; exact hl
  have aT : a ≠ T := fun z => by rw [z, hT] at ha; cases ha
  have tb : ∀ {H : Hp}, ObjOk P w H s₁.heap T (.tbl #[]) := hT
  cases hk : K.lookup a with
  | some o =>
    have eo := (KX a o hk).symm.trans ha
    cases eo
    refine entryT (H := upd (fun _ => none) T (.tbl #[])) KX hns hb hbb hlim hg hT nT hC hbm ha hr F hbind upd_same (fun b => ?_) (hsp _ upd_same (.inr ⟨_, vs.toArray, _, hk, rfl, rfl, rfl, by rw [List.size_toArray, hi.length]; exact hl, by simpa using rv⟩)) (fun b u z => ?_) (fun b z => ?_) (fun z => ?_)
    · by_cases e : b = T
      · exact .inr (.inl e)
      · exact .inl (upd_ne e)
    · by_cases e : b = T
      · subst e; rw [upd_same] at z; cases z; exact tb
      · rw [upd_ne e] at z; cases z
    · by_cases e : b = T
      · exact .inr e
      · exact absurd (upd_ne e) z
    · exact absurd (upd_ne aT) z
  | none =>
    refine entryT (H := upd (upd (fun _ => none) T (.tbl #[])) a (.frz { cls := .type "list", data := .seq vs.toArray } (.lst (ns.map V.int)))) KX hns hb hbb hlim hg hT nT hC hbm ha hr F hbind (by rw [upd_ne (Ne.symm aT), upd_same]) (fun b => ?_) (hsp _ (by rw [upd_ne (Ne.symm aT), upd_same]) (.inl (.inr ⟨_, upd_same⟩))) (fun b u z => ?_) (fun b z => ?_) (fun _ => hk)
    · by_cases e : b = T
      · exact .inr (.inl e)
      · by_cases e2 : b = a
        · subst e2; exact .inr (.inr ⟨_, _, upd_same⟩)
        · exact .inl (by rw [upd_ne e2, upd_ne e])
    · by_cases e2 : b = a
      · subst e2; rw [upd_same] at z; cases z
        exact ⟨ha, hl', vs, _, rv, ha⟩
      · rw [upd_ne e2] at z
        by_cases e : b = T
        · subst e; rw [upd_same] at z; cases z; exact tb
        · rw [upd_ne e] at z; cases z
    · by_cases e2 : b = a
      · exact .inl e2
      · by_cases e : b = T
        · exact .inr e
        · exact absurd (by rw [upd_ne e2, upd_ne e]) z
end
theorem walkT {l : PySem.W.OpenLaw} {n k : Nat} {q : Program} {loose : List Str} {XP : (Str → Option Value) → Heap → Prop} {YP : World → Heap → Prop} {d : DefRec} {K : Params → PySem.W.Frag} {sp : World → Sp} {x : Str}
    (hn : l.most = some n) (hn2 : n ≤ sizeLine) (hdf : d.params.defaults = []) (hr : Room k callerA) (hY : ∀ (w : World) (h : Heap), YP w h → (K w.params).In h)
    (F : ∀ (w : World) (mg : Str → Option Value) (fa : Addr) (h : Heap), YP w h → (K w.params).In h → h.Ns mainGlobals mg → mg d.name = some (.ref fa) →
      ∃ (fd : FuncData) (cL T : Addr), h.get? T = some { cls := .none, data := .fields #[] } ∧ (K w.params).lookup T = none ∧ PySem.W.CodeHd h cL T ∧ (∀ (s : Shared) (u : Value), BindsTo s fd ⟨[u], []⟩ [(x, u)]) ∧
        (∀ (H : Hp) (a : Addr) (ns : List Int), ns.length ≤ n → H T = some (.tbl #[]) → SqL (K w.params) H a (ns.map V.int) → sp w [.ref a] H (fun v _ => v = .bl true) fun _ _ _ => False) ∧
        ∀ base : Heap, (K w.params).In base → base.Ns mainGlobals mg → LamX.TabB base mg cL T → FnG l.prog w (K w.params) mg base k fa fd [x] (sp w)) :
    PySem.W.WalkO q loose XP YP l.row.toRowW d [] (fun f vs => PySem.call f vs) := by
  refine Att.attach_call hn hdf fun w s₀ s₁ mg mb fa o pm cd doc a vs ns G Y ho hd hcd hmg hobj hints hlen hg => ?_
  have KX := hY w _ Y
  obtain ⟨fd, cL, T, hT, nT, hC, hb, hsp, hF⟩ := F w mg fa _ Y KX G.T.g hmg
  exact lawT KX G.T.g G.T.b G.T.builtins G.T.nolimit hg hT nT hC G.T.bmain hobj hints (Nat.le_trans hlen hn2) hr hF hb fun H hH hS => hsp H _ ns hlen hH hS
end Cw

/-! # Own exception classes as the written part tells them; comparisons while an exception is held -/
namespace Cw
open PySem PySem.Spec PyProof.Rows L2

def slotsB : List (Option Value) → Bool
  | [_, _, _, _, some (.builtin n), _] => decide (n = "ValueError.__new__")
  | _ => false
def mroB (C : Addr) : List Value → Bool
  | .ref D :: bm => decide (D = C) && PySem.HandSPX.refsVE bm
  | _ => false
def oexB (K : PySem.W.Frag) (C : Addr) : Bool := match K.lookup C with
  | some ⟨.type t, _, .cls cd, sl⟩ => decide (t = "type") && (mroB C cd.mro && (cd.hasDict && (!cd.hasDel && slotsB sl.toList)))
  | _ => false
theorem oexB_ok {K : PySem.W.Frag} {C : Addr} (h : oexB K C = true) : ∃ nm q N bs bm sn sub ab col dd k0 k1 k2 k3 k5, K.lookup C = some (excClassObj nm q C N bs bm true sn sub ab col dd k0 k1 k2 k3 k5 "ValueError.__new__") ∧ PySem.HandSPX.refsVE bm = true := by
  unfold oexB at h
  split at h
  · rename_i t dd cd sl ho
    simp only [Bool.and_eq_true, decide_eq_true_eq, Bool.not_eq_true'] at h
    obtain ⟨ht, hm, hd, hl, hs⟩ := h
    subst ht
    obtain ⟨nm, bs, mro, ns, qn, hasd, sn, sub, ab, col, del⟩ := cd
    dsimp only at hm hd hl
    subst hd hl
    unfold mroB at hm
    split at hm
    · rename_i D bm
      simp only [Bool.and_eq_true, decide_eq_true_eq] at hm
      obtain ⟨rfl, hv⟩ := hm
      obtain ⟨l⟩ := sl
      simp only at hs
      unfold slotsB at hs
      split at hs
      · rename_i k0 k1 k2 k3 n k5
        have hs := of_decide_eq_true hs
        subst hs
        exact ⟨nm, qn, ns, bs, bm, sn, sub, ab, col, dd, k0, k1, k2, k3, k5, ho, hv⟩
      · cases hs
    · cases hm
  · cases h
section
variable {X : Cx} {a b : Expr} {ta tb : TD} {pos : Pos}
theorem pd_neU (hu : X.A.units + 200 < cLine) (ha : PD X a ta) (hb : PD X b tb) : PD X (.Compare a [.NotEq] [b] pos) (dBin (fEq true) ta tb) := PE.imp (pe_cmpR (op_ne.or (op_neD (by omega))) ha hb (nomark _)) fun σ H Q h => lift_bin l2_ne h
theorem pdt_neU (hu : X.A.units + 200 < cLine) (ha : PD X a ta) (hb : PD X b tb) : PDt X (.Compare a [.NotEq] [b] pos) (dT (dBin (fEq true) ta tb)) := pdt_cmp (op_ne.or (op_neD (by omega))) l2_ne ha hb (nomark _)
theorem pdt_eqU (hu : X.A.units + 200 < cLine) (ha : PD X a ta) (hb : PD X b tb) : PDt X (.Compare a [.Eq] [b] pos) (dT (dBin (fEq false) ta tb)) := pdt_cmp (op_eq.or (op_eqD (by omega))) l2_eq ha hb (nomark _)
theorem pd_inU (hu : X.A.units + 200 < cLine) (ha : PD X a ta) (hb : PD X b tb) (hm : behindInMarks .In b = false := by rfl) : PD X (.Compare a [.In] [b] pos) (dBin (fIn false) ta tb) :=
  PE.imp (pe_cmpR (op_in_str.or (op_in_seq.or ((op_inD (by omega)).or (op_inT (by omega))))) ha hb hm) fun σ H Q h => lift_bin l2_in h
theorem pdt_inU (hu : X.A.units + 200 < cLine) (ha : PD X a ta) (hb : PD X b tb) (hm : behindInMarks .In b = false := by rfl) : PDt X (.Compare a [.In] [b] pos) (dT (dBin (fIn false) ta tb)) :=
  pdt_cmp (op_in_str.or (op_in_seq.or ((op_inD (by omega)).or (op_inT (by omega))))) l2_in ha hb hm
end
theorem hotU {k : Nat} {A : Around} (r : L2H.RoomH k A) : A.units + 200 < cLine := by have := r.un; omega
end Cw

/-! # isinstance(x, (A, B)); {} -/
namespace Cw
open PySem PySem.Spec PyProof.Rows L2
section
variable {X : Cx} {e e1 e2 : Expr} {ta : TD} {pos pp tp : Pos} {kt : Nat}
theorem pd_dict0 : PD X (.Dict [] [] pos) (dC (.dct [] [])) := PE.imp pe_dnewK fun σ H Q ⟨m, ρ, c, Φ, S, h, q⟩ p hp =>
  q _ c _ _ m h (S.cr.new hp) ⟨p, [], rfl, .inl (new_at hp S.cr), rfl, rfl⟩ (Le.new hp S.cr)
end
end Cw

/-! # try .. several clauses `except A as n` -/
namespace Cw
open PySem PySem.Spec PyProof.Rows L2
inductive ClsN (X : Cx) (n : Str) : List ExceptHandler → List (Value × TSP) → Prop
  | nil : ClsN X n [] []
  | cons {x : Str} {c : Value} {ts : TSP} {b0 : Stmt} {suite : List Stmt} {np pos' : Pos} {hds : List ExceptHandler} {l : List (Value × TSP)} (g : Gl X x) (m : X.mg x = some c) (dbg : (x == ("__debug__" : Str)) = false)
      (hsu : ∀ (p : Addr × Obj) (cls : Value) (d : Option Addr) (pn : List (Addr × Obj)), Zc cls d p.2 → (∃ vs, p.2.data = .fields vs) → PSs (X.suite p.1 (p :: pn)) (b0 :: suite) (ts p cls d)) (r : ClsN X n hds l) :
      ClsN X n (.ExceptHandler (some (.Name x np)) (some n) (b0 :: suite) pos' :: hds) ((c, ts) :: l)
section
variable {X : Cx} {i : Nat} {n : Str} {body : List Stmt} {h0 : ExceptHandler} {hds : List ExceptHandler} {l : List (Value × TSP)} {tb : WX → TS} {pos : Pos}
end
end Cw

/-! # x(lambda: e), x the def that tells by clauses what a call raises -/
namespace Cw
open PySem PySem.Spec PyProof.Rows L2
end Cw

/-! # repr, of an empty dict too -/
namespace Cw
open PySem PySem.Spec PyProof.Rows L2
section
variable {X : Cx}
end
section
variable {X : Cx} {e : Expr} {ta : TD} {pos pp : Pos}
end
/-! # f(k=x, ..) that may raise -/
section
variable {X : Cx} {E : XK} {k np : Nat} {f : Addr} {fd : FuncData} {ps ks : List Str} {S : Pmx} {x : Str} {p pos : Pos} {kws : List Keyword} {tks : TDs} {is : List Nat}
end
/-! # a clause's suite: the class is known by the reading; a clause that takes nothing -/
section
variable {X : Cx} {st : List Stmt} {p : Addr × Obj} {C : Addr} {t : Addr → TSD}
end
end Cw

/-! # static methods called on their class: C.m(..), C.m(), C.m(k=..), which may raise -/
namespace Cw
open PySem PySem.Spec PyProof.Rows L2
/-- C.m is a static method: its record at p, its def at g -/
structure SMet (K : PySem.W.Frag) (C : Addr) (mc : Value) (m : Str) (p g : Addr) : Prop where
  rd : ClX.CRead K C mc
  at_ : PySem.W.findCls K (.ref C) mc m = some (.get (.builtin "staticmethod.__get__") (.ref p) .none (.ref C))
  rc : ∃ rest, PySem.W.recIn K p "staticmethod" = some (.ref g :: rest)
  kp : PySem.W.keepIn K (.ref g) = true
section
variable {X : Cx} {pins : List (Addr × Obj)} {σ : L2.St} {H : Hp} {s : Shared} {C p g : Addr} {mc : Value} {m : Str} {A : Around} {E : Value → Shared → Prop}
end
section
variable {X : Cx} {CX : CXT} {k : Nat} {C p g : Addr} {mc : Value} {sp : Sp} {E : XK} {o e : Expr} {es : List Expr} {m : Str} {pos apos : Pos} {ta : TE} {t tk : TA} {pl : Sem Bool} {fd : FuncData} {ps ks : List Str} {ds : List Value} {dvs : List V} {kws : List Keyword} {gg : List Value → List Value → List Value} {gV : List V → List V → List V}
end
/-! ### over data -/
section
variable {X : Cx} {E : XK} {CX : CXT} {k np : Nat} {C p g : Addr} {mc : Value} {fd : FuncData} {ps ks : List Str} {S : Pm} {Sx : Pmx} {x m : Str} {xp pos apos : Pos} {e : Expr} {es : List Expr} {tas tks : TDs} {pl : Sem Bool} {ds : List Value} {dd : List D} {dvs : List V} {kws : List Keyword}
end
end Cw

/-! # f'{n:+d}', f'{a}{b} c', static methods that raise nothing -/
namespace Cw
open PySem PySem.Spec PyProof.Rows L2 PySem.W
section
variable {X : Cx} {a b : Expr} {ta tb : TD} {pos : Pos}
end
/-! ### static methods that raise nothing -/
section
variable {X : Cx} {E : XK} {CX : CXT} {k np : Nat} {C p g : Addr} {mc : Value} {fd : FuncData} {ps ks : List Str} {S : Pm} {x m : Str} {xp pos apos : Pos} {e : Expr} {es : List Expr} {tas tks : TDs} {pl : Sem Bool} {ds : List Value} {dd : List D} {dvs : List V} {kws : List Keyword}
end
end Cw

/-! # repr of data with dicts in it -/
namespace Cw
open PySem PySem.Spec PyProof.Rows L2
def keyPy : Key → PyData
  | .inl i => .int i
  | .inr x => .str x
mutual
inductive DpG (K : PySem.W.Frag) (H : Hp) : V → PyData → Prop
  | non : DpG K H .non .none
  | bl (b : Bool) : DpG K H (.bl b) (.bool b)
  | int (i : Int) : DpG K H (.int i) (.int i)
  | str (x : Str) : DpG K H (.str x) (.str x)
  | lst {a : Addr} {xs : List V} {ds : List PyData} (h : SqL K H a xs) (r : DpGs K H xs ds) : DpG K H (.ref a) (.list ds)
  | tup {a : Addr} {xs : List V} {ds : List PyData} (h : SqT K H a xs) (r : DpGs K H xs ds) : DpG K H (.ref a) (.tuple ds)
  | dct {a : Addr} {kvs : List (Key × V)} {ps : List (PyData × PyData)} (h : Rd H a (.dK kvs)) (hk : ps.map (·.1) = kvs.map fun kv => keyPy kv.1) (r : DpGs K H (kvs.map (·.2)) (ps.map (·.2))) : DpG K H (.ref a) (.dict ps)
inductive DpGs (K : PySem.W.Frag) (H : Hp) : List V → List PyData → Prop
  | nil : DpGs K H [] []
  | cons {v : V} {vs : List V} {d : PyData} {ds : List PyData} (h : DpG K H v d) (r : DpGs K H vs ds) : DpGs K H (v :: vs) (d :: ds)
end
/-- what is known of a value that is shown -/
def Shw (P : Program) (w : World) (h : Heap) (u : Value) (d : PyData) : Prop := ∃ as bs, Reads h u d as ∧ ReadAtMost h d.depth bs ∧ ReprK P w bs h d.depth u d.shown
def Shws (P : Program) (w : World) (h : Heap) (us : List Value) (ds : List PyData) : Prop := ∃ as bs, ReadsAll h us ds as ∧ ReadAtMost h (PyData.depthAll ds) bs ∧ ReprAllK P w bs h (PyData.depthAll ds) us (PyData.shownAll ds)
section
variable {P : Program} {w : World} {h : Heap}
theorem shw_plain {u : Value} {d : PyData} {as : List Addr} (r : Reads h u d as) (i : ReprIs P w u d.shown) : Shw P w h u d :=
  ⟨as, [], r, (fun _ z => nomatch z), .of_is i _ _ _⟩
theorem shws_cons {u : Value} {us : List Value} {d : PyData} {ds : List PyData} : Shw P w h u d → Shws P w h us ds → Shws P w h (u :: us) (d :: ds) := by
  rintro ⟨a1, b1, r1, m1, k1⟩ ⟨a2, b2, r2, m2, k2⟩
  have l1 : d.depth ≤ PyData.depthAll (d :: ds) := by rw [PyData.depthAll]; exact Nat.le_max_left _ _
  have l2 : PyData.depthAll ds ≤ PyData.depthAll (d :: ds) := by rw [PyData.depthAll]; exact Nat.le_max_right _ _
  refine ⟨a1 ++ a2, b1 ++ b2, .cons r1 r2, (m1.mono l1).append (m2.mono l2), ?_⟩
  have e : PyData.shownAll (d :: ds) = d.shown :: PyData.shownAll ds := by rw [PyData.shownAll]
  rw [e]
  exact .cons ((k1.more fun _ z => List.mem_append_left _ z).level_le l1) (k2.more_le (fun _ z => List.mem_append_right _ z) l2)
theorem shws_nil : Shws P w h [] [] := ⟨[], [], .nil, (fun _ z => nomatch z), by rw [PyData.shownAll]; exact .nil⟩
theorem keys_reads (hz : ∀ x : Str, (reprText x).length ≤ sizeLine → True) : ∀ {es : List DictEntry} {vs : List (Key × Value)}, Pairs (mixKind P w) es vs →
    PyData.showableAll (vs.map fun q => keyPy q.1) = true → (∀ t ∈ PyData.shownAll (vs.map fun q => keyPy q.1), t.length ≤ sizeLine) →
    Shws P w h (es.map (·.key)) (vs.map fun q => keyPy q.1) ∧ es.map (·.val) = vs.map (·.2)
  | _, _, .nil, _, _ => ⟨shws_nil, rfl⟩
  | _, _, .cons (e := e) (kv := kv) (es := es) (kvs := kvs) hk hv r, hs, hl => by
    have hs' : (keyPy kv.1).showable = true ∧ PyData.showableAll (kvs.map fun q => keyPy q.1) = true := by simpa [PyData.showableAll] using hs
    have hl' : ∀ t ∈ (keyPy kv.1).shown :: PyData.shownAll (kvs.map fun q => keyPy q.1), t.length ≤ sizeLine := fun t ht => hl t (by
      rw [List.map_cons, PyData.shownAll]; exact ht)
    obtain ⟨i1, i2⟩ := keys_reads hz r hs'.2 fun t ht => hl' t (List.mem_cons_of_mem _ ht)
    have one : Shw P w h e.key (keyPy kv.1) := by
      have q1 := hs'.1
      have q2 := hl' _ List.mem_cons_self
      rcases keyIs_shape hk with ⟨i, t, e1, e2⟩ | ⟨x, t, e1, e2⟩
      · rw [e2]
        rw [e1] at q1 ⊢
        refine shw_plain (Reads.int i t) ?_
        rw [show (keyPy (Sum.inl i)).shown = toString i from PyData.shown_int i]
        exact ReprIs.int t (of_decide_eq_true q1)
      · rw [e2]
        rw [e1] at q2 ⊢
        refine shw_plain (Reads.str x t) ?_
        rw [show (keyPy (Sum.inr x)).shown = reprText x from PyData.shown_str x] at q2 ⊢
        exact ReprIs.str x t q2
    exact ⟨shws_cons one i1, by rw [List.map_cons, List.map_cons, i2, hv]⟩
end
section
variable {X : Cx} {pins : List (Addr × Obj)} {σ : L2.St} {H : Hp} {s : Shared}
/-- the three kinds of rows, above what is known of their parts -/
theorem shw_list {a : Addr} {o : Obj} {its : List Value} {n : Nat} {ds : List PyData} {P : Program} {w : World} {h : Heap} (e1 : h.get? a = some o) (e2 : o.cls = .type "list") (e3 : o.data = .seq its.toArray n) (z : Shws P w h its ds) : Shw P w h (.ref a) (.list ds) := by
  obtain ⟨as, bs, r, m, k⟩ := z
  have rr : Reads h (.ref a) (.list ds) (a :: as) := .list e1 e2 e3 r
  have lt : PyData.depthAll ds < (PyData.list ds).depth := by rw [PyData.depth]; exact Nat.lt_succ_self _
  refine ⟨_, a :: bs, rr, .cons rr (Nat.le_of_lt lt) m, ?_⟩
  have es : (PyData.list ds).shown = listText (PyData.shownAll ds) := by rw [PyData.shown]
  have ed : (PyData.list ds).depth = PyData.depthAll ds + 1 := by rw [PyData.depth]
  have nin := not_mem_of_deeper rr lt m
  rw [es, ed]
  cases its with
  | nil =>
    cases r
    rw [show listText (PyData.shownAll []) = "[]" by rw [PyData.shownAll]; rfl]
    exact ReprK.listEmpty e1 e2 e3
  | cons x l => exact ReprK.list e1 e2 e3 nin (by have := k.length_eq; simpa using this) fun i y e => k.item i y (by simpa using e)
theorem shw_tup {a : Addr} {o : Obj} {its : List Value} {n : Nat} {ds : List PyData} {P : Program} {w : World} {h : Heap} (e1 : h.get? a = some o) (e2 : o.cls = .type "tuple") (e3 : o.data = .seq its.toArray n) (z : Shws P w h its ds) : Shw P w h (.ref a) (.tuple ds) := by
  obtain ⟨as, bs, r, m, k⟩ := z
  have rr : Reads h (.ref a) (.tuple ds) as := .tuple e1 e2 e3 r
  have lt : PyData.depthAll ds < (PyData.tuple ds).depth := by rw [PyData.depth]; exact Nat.lt_succ_self _
  refine ⟨_, a :: bs, rr, .cons rr (Nat.le_of_lt lt) m, ?_⟩
  have es : (PyData.tuple ds).shown = tupleText (PyData.shownAll ds) := by rw [PyData.shown]
  have ed : (PyData.tuple ds).depth = PyData.depthAll ds + 1 := by rw [PyData.depth]
  have nin := not_mem_of_deeper rr lt m
  rw [es, ed]
  exact ReprK.tuple e1 e2 e3 nin k
theorem shw_dct {a : Addr} {o : Obj} {es : Array DictEntry} {n : Nat} {ps : List (PyData × PyData)} {P : Program} {w : World} {h : Heap} (e1 : h.get? a = some o) (e2 : o.cls = .type "dict") (e3 : o.data = .dict es n) (hs : (a == sysModules) = false)
    (z1 : Shws P w h (es.toList.map (·.key)) (ps.map (·.1))) (z2 : Shws P w h (es.toList.map (·.val)) (ps.map (·.2))) : Shw P w h (.ref a) (.dict ps) := by
  obtain ⟨as, bs, r, m, k⟩ := z1
  obtain ⟨cs, ds, r2, m2, k2⟩ := z2
  have rr : Reads h (.ref a) (.dict ps) (a :: as ++ cs) := .dict e1 e2 e3 r r2
  have q1 := PyData.depthAll_keys_le ps
  have q2 := PyData.depthAll_vals_le ps
  have lt : PyData.depthKv ps < (PyData.dict ps).depth := by rw [PyData.depth]; exact Nat.lt_succ_self _
  have mm := (m.mono q1).append (m2.mono q2)
  refine ⟨_, a :: (bs ++ ds), rr, .cons rr (Nat.le_of_lt lt) mm, ?_⟩
  have es' : (PyData.dict ps).shown = dictText (PyData.shownKv ps) := by rw [PyData.shown]
  have ed : (PyData.dict ps).depth = PyData.depthKv ps + 1 := by rw [PyData.depth]
  have nin := not_mem_of_deeper rr lt mm
  rw [es', ed, PyData.shownKv_eq]
  refine ReprK.dict e1 e2 e3 hs nin (ReprEntriesK.of_two _ _ _ ?_ ?_)
  · exact k.more_le (fun _ z => List.mem_append_left _ z) q1
  · exact k2.more_le (fun _ z => List.mem_append_right _ z) q2
theorem kv_keys : ∀ {kvs : List (Key × V)} {vs : List (Key × Value)}, KV kvs vs → (vs.map fun q => keyPy q.1) = kvs.map fun kv => keyPy kv.1
  | _, _, .nil => rfl
  | _, _, .cons h r => by rw [List.map_cons, List.map_cons, kv_keys r, h.1]
theorem kv_vals : ∀ {kvs : List (Key × V)} {vs : List (Key × Value)}, KV kvs vs → Vals (kvs.map (·.2)) (vs.map (·.2))
  | _, _, .nil => .nil
  | _, _, .cons h r => .cons h.2 (kv_vals r)
theorem size_vals : ∀ ps : List (PyData × PyData), sizeOf (ps.map (·.2)) ≤ sizeOf ps
  | [] => Nat.le_refl _
  | (k, v) :: r => by
    have := size_vals r
    simp only [List.map_cons, List.cons.sizeOf_spec, Prod.mk.sizeOf_spec]
    omega
mutual
theorem DpG.shw (I : Inv X pins σ H s) : ∀ (d : PyData) (v : V) (u : Value), DpG X.K H v d → RelV v u → d.showable = true → d.shown.length ≤ sizeLine → Shw X.prog X.w s.heap u d
  | .none, _, _, h, r, _, _ => by
    cases h; cases r
    exact shw_plain Reads.none (by rw [PyData.shown_none]; exact ReprIs.none)
  | .bool b, _, _, h, r, _, _ => by
    cases h; cases r
    exact shw_plain (Reads.bool b) (by rw [PyData.shown_bool]; exact ReprIs.bool b)
  | .int i, _, _, h, r, q, _ => by
    cases h
    obtain ⟨t, rfl⟩ := r
    exact shw_plain (Reads.int i t) (by rw [PyData.shown_int]; exact ReprIs.int t (of_decide_eq_true q))
  | .str x, _, _, h, r, _, z => by
    cases h
    obtain ⟨t, rfl⟩ := r
    rw [PyData.shown_str] at z
    exact shw_plain (Reads.str x t) (by rw [PyData.shown_str]; exact ReprIs.str x t z)
  | .list ds, _, _, h, r, q, z => by
    cases h with
    | lst hh ha =>
      cases r
      obtain ⟨its, rv, ⟨o, n, ho, hc, _, hd⟩, _⟩ := I.list hh
      have z : (listText (PyData.shownAll ds)).length ≤ sizeLine := by rw [PyData.shown] at z; exact z
      exact shw_list ho hc hd (DpG.shws I ds _ its ha rv (by simpa [PyData.showable] using q) fun t ht => Nat.le_trans (listText_mem_le ht) z)
  | .tuple ds, _, _, h, r, q, z => by
    cases h with
    | tup hh ha =>
      cases r
      obtain ⟨its, rv, ⟨o, ho, hc, n, hd⟩, _⟩ := I.tuple hh
      have z : (tupleText (PyData.shownAll ds)).length ≤ sizeLine := by rw [PyData.shown] at z; exact z
      exact shw_tup ho hc hd (DpG.shws I ds _ its ha rv (by simpa [PyData.showable] using q) fun t ht => Nat.le_trans (tupleText_mem_le ht) z)
  | .dict ps, _, _, h, r, q, z => by
    cases h with
    | dct hh hk ha =>
      rename_i a kvs
      cases r
      obtain ⟨_, hsys, vs, kv, o, es, ep, ho, hx, hdat, _, hp, _⟩ := dk_rd I.hok hh
      have z : (dictText (PyData.shownKv ps)).length ≤ sizeLine := by rw [PyData.shown] at z; exact z
      obtain ⟨q1, q2⟩ := PyData.showableKv_split ps (by simpa [PyData.showable] using q)
      have ek : (vs.map fun q => keyPy q.1) = ps.map (·.1) := by rw [hk]; exact kv_keys kv
      have rv : Vals (kvs.map (·.2)) (vs.map (·.2)) := kv_vals kv
      obtain ⟨k1, k2⟩ := keys_reads (h := s.heap) (P := X.prog) (w := X.w) (fun _ _ => True.intro) hp (by rw [ek]; exact q1) (by
        rw [ek]
        intro t ht
        obtain ⟨p, hp, hl⟩ := PyData.shownKv_key_le ps t ht
        exact Nat.le_trans hl (Nat.le_trans (dictText_mem_le hp) z))
      rw [ek] at k1
      refine shw_dct ho hx.1 hdat hsys k1 ?_
      rw [k2]
      refine DpG.shws I (ps.map (·.2)) _ _ ha rv q2 fun t ht => ?_
      obtain ⟨p, hp, hl⟩ := PyData.shownKv_val_le ps t ht
      exact Nat.le_trans hl (Nat.le_trans (dictText_mem_le hp) z)
  termination_by d => sizeOf d
  decreasing_by all_goals (first | (simp only [PyData.list.sizeOf_spec, PyData.tuple.sizeOf_spec, List.cons.sizeOf_spec]; omega) | (have := size_vals ps; simp only [PyData.dict.sizeOf_spec]; omega))
theorem DpG.shws (I : Inv X pins σ H s) : ∀ (ds : List PyData) (vs : List V) (us : List Value), DpGs X.K H vs ds → Vals vs us → PyData.showableAll ds = true → (∀ t ∈ PyData.shownAll ds, t.length ≤ sizeLine) → Shws X.prog X.w s.heap us ds
  | [], _, _, h, r, _, _ => by
    cases h; cases r
    exact shws_nil
  | d :: ds, _, _, h, r, q, z => by
    cases h with
    | cons h1 h2 =>
      cases r with
      | cons r1 r2 =>
        have q' : d.showable = true ∧ PyData.showableAll ds = true := by simpa [PyData.showableAll] using q
        have z' : ∀ t ∈ d.shown :: PyData.shownAll ds, t.length ≤ sizeLine := fun t ht => z t (by rw [PyData.shownAll]; exact ht)
        exact shws_cons (DpG.shw I d _ _ h1 r1 q'.1 (z' _ List.mem_cons_self)) (DpG.shws I ds _ _ h2 r2 q'.2 fun t ht => z' t (List.mem_cons_of_mem _ ht))
  termination_by ds => sizeOf ds
  decreasing_by all_goals (first | (simp only [PyData.list.sizeOf_spec, PyData.tuple.sizeOf_spec, List.cons.sizeOf_spec]; omega) | (have := size_vals ps; simp only [PyData.dict.sizeOf_spec]; omega))
end
end
section
variable {A : Around} {E : Value → Shared → Prop} {s : Shared} {Q : Value → Shared → Prop} {P : Program} {w : World}
theorem top_list {a : Addr} {o : Obj} {its : List Value} {n : Nat} {ds : List PyData} (e1 : s.heap.get? a = some o) (e2 : o.cls = .type "list") (e3 : o.data = .seq its.toArray n) (z : Shws P w s.heap its ds)
    (hg : A.guards = some []) (hu : A.units + ((PyData.list ds).depth + 1) < cLine) (hz : (PyData.list ds).shown.length ≤ sizeLine)
    (hQ : ∀ h' u tk, (∀ b o, s.heap.get? b = some o → h'.get? b = some o) → Q (.str (PyData.list ds).shown u) { s with heap := h', toks := tk }) : wpAny (model P w) A (call (.builtin "repr") [.ref a]) Q E s := by
  obtain ⟨as, bs, r, m, k⟩ := z
  have rr : Reads s.heap (.ref a) (.list ds) (a :: as) := .list e1 e2 e3 r
  have lt : PyData.depthAll ds < (PyData.list ds).depth := by rw [PyData.depth]; exact Nat.lt_succ_self _
  have es : (PyData.list ds).shown = listText (PyData.shownAll ds) := by rw [PyData.shown]
  have ed : (PyData.list ds).depth = PyData.depthAll ds + 1 := by rw [PyData.depth]
  have nin := not_mem_of_deeper rr lt m
  rw [es] at hQ hz
  rw [ed] at hu
  refine call_repr_slot (by omega) ⟨o, e1, e2⟩ F.slot_list_repr.toG ?_
  cases its with
  | nil =>
    cases r
    refine call_list_repr_empty ⟨o, e1, e2⟩ e1 e3 ⟨_, _, rfl, ?_⟩
    have := hQ s.heap s.toks (s.toks + 1) fun _ _ e => e
    rw [show listText (PyData.shownAll []) = "[]" by rw [PyData.shownAll]; rfl] at this
    exact this
  | cons x l =>
    exact call_list_reprK e1 e2 e3 nin (by have := k.length_eq; simpa using this) (fun i y e => k.item i y (by simpa using e)) hg (fun b _ => Clear.nil b) (by show A.units + 1 + (PyData.depthAll ds + 1) < cLine; omega) (fun _ _ e => e) (fun h' u tk hk => ⟨_, _, rfl, hQ h' u tk hk⟩) hz
theorem top_tup {a : Addr} {o : Obj} {its : List Value} {n : Nat} {ds : List PyData} (e1 : s.heap.get? a = some o) (e2 : o.cls = .type "tuple") (e3 : o.data = .seq its.toArray n) (z : Shws P w s.heap its ds)
    (hg : A.guards = some []) (hu : A.units + ((PyData.tuple ds).depth + 1) < cLine) (hz : (PyData.tuple ds).shown.length ≤ sizeLine)
    (hQ : ∀ h' u tk, (∀ b o, s.heap.get? b = some o → h'.get? b = some o) → Q (.str (PyData.tuple ds).shown u) { s with heap := h', toks := tk }) : wpAny (model P w) A (call (.builtin "repr") [.ref a]) Q E s := by
  obtain ⟨as, bs, r, m, k⟩ := z
  have rr : Reads s.heap (.ref a) (.tuple ds) as := .tuple e1 e2 e3 r
  have lt : PyData.depthAll ds < (PyData.tuple ds).depth := by rw [PyData.depth]; exact Nat.lt_succ_self _
  have es : (PyData.tuple ds).shown = tupleText (PyData.shownAll ds) := by rw [PyData.shown]
  have ed : (PyData.tuple ds).depth = PyData.depthAll ds + 1 := by rw [PyData.depth]
  have nin := not_mem_of_deeper rr lt m
  rw [es] at hQ hz
  rw [ed] at hu
  refine call_repr_slot (by omega) ⟨o, e1, e2⟩ F.slot_tuple_repr ?_
  exact call_tuple_reprK e1 e2 e3 nin k hg (fun b _ => Clear.nil b) (by show A.units + 1 + (PyData.depthAll ds + 1) < cLine; omega) (fun _ _ e => e) (fun h' u tk hk => ⟨_, _, rfl, hQ h' u tk hk⟩) hz
theorem top_dct {a : Addr} {o : Obj} {es : Array DictEntry} {n : Nat} {ps : List (PyData × PyData)} (e1 : s.heap.get? a = some o) (e2 : o.cls = .type "dict") (e3 : o.data = .dict es n) (hs : (a == sysModules) = false)
    (z1 : Shws P w s.heap (es.toList.map (·.key)) (ps.map (·.1))) (z2 : Shws P w s.heap (es.toList.map (·.val)) (ps.map (·.2)))
    (hg : A.guards = some []) (hu : A.units + ((PyData.dict ps).depth + 1) < cLine) (hz : (PyData.dict ps).shown.length ≤ sizeLine)
    (hQ : ∀ h' u tk, (∀ b o, s.heap.get? b = some o → h'.get? b = some o) → Q (.str (PyData.dict ps).shown u) { s with heap := h', toks := tk }) : wpAny (model P w) A (call (.builtin "repr") [.ref a]) Q E s := by
  obtain ⟨as, bs, r, m, k⟩ := z1
  obtain ⟨cs, ds, r2, m2, k2⟩ := z2
  have rr : Reads s.heap (.ref a) (.dict ps) (a :: as ++ cs) := .dict e1 e2 e3 r r2
  have q1 := PyData.depthAll_keys_le ps
  have q2 := PyData.depthAll_vals_le ps
  have lt : PyData.depthKv ps < (PyData.dict ps).depth := by rw [PyData.depth]; exact Nat.lt_succ_self _
  have mm := (m.mono q1).append (m2.mono q2)
  have es' : (PyData.dict ps).shown = dictText (PyData.shownKv ps) := by rw [PyData.shown]
  have ed : (PyData.dict ps).depth = PyData.depthKv ps + 1 := by rw [PyData.depth]
  have nin := not_mem_of_deeper rr lt mm
  rw [es', PyData.shownKv_eq] at hQ hz
  rw [ed] at hu
  refine call_repr_slot (by omega) ⟨o, e1, e2⟩ F.slot_dict_repr ?_
  have pr := ReprEntriesK.of_two es.toList _ _ (k.more_le (fun _ z => List.mem_append_left ds z) q1) (k2.more_le (fun _ z => List.mem_append_right bs z) q2)
  exact call_dict_reprK e1 e2 e3 hs nin pr hg (fun b _ => Clear.nil b) (by show A.units + 1 + (PyData.depthKv ps + 1) < cLine; omega) (fun _ _ e => e) (fun h' u tk hk => ⟨_, _, rfl, hQ h' u tk hk⟩) hz
end
structure ShowG (p : PyData) : Prop where
  sh : p.showable = true
  dp : p.depth ≤ 60
  sz : p.shown.length ≤ sizeLine
section
variable {X : Cx}
def rReprG (K : PySem.W.Frag) : List V → Hp → VK → Prop := fun xs H Q => ∃ v d, xs = [v] ∧ DpG K H v d ∧ ShowG d ∧ Q (.str d.shown) H
theorem call_reprG (hg : X.A.guards = some []) (hu : X.A.units + 64 < cLine) : CallR X (.builtin "repr") (rReprG X.K) := by
  intro pins s σ H xs us Q I r h
  obtain ⟨v, d, rfl, hd, S, q⟩ := h
  cases r with
  | cons r rr =>
    cases rr
    have hdp := S.dp
    have hz := S.sz
    cases d with
    | none =>
      cases hd; cases r
      exact PySem.P.repr_of_none ⟨.str "None", H, I.tok _, ⟨_, rfl⟩, by rw [PyData.shown_none] at q; exact q⟩
    | bool b =>
      cases hd; cases r
      exact PySem.P.repr_of_bool ⟨.str (if b then "True" else "False"), H, I.tok _, ⟨_, by cases b <;> rfl⟩, by rw [PyData.shown_bool] at q; exact q⟩
    | int i =>
      cases hd
      obtain ⟨t, rfl⟩ := r
      have hs : i.natAbs.log2 < 1920 := of_decide_eq_true S.sh
      exact PySem.P.repr_of_int hs ⟨.str (toString i), H, I.tok _, ⟨_, rfl⟩, by rw [PyData.shown_int] at q; exact q⟩
    | str x =>
      cases hd
      obtain ⟨t, rfl⟩ := r
      rw [PyData.shown_str] at hz
      exact PySem.P.repr_of_str ⟨.str (reprText x), H, I.tok _, ⟨_, rfl⟩, by rw [PyData.shown_str] at q; exact q⟩ hz
    | list ds =>
      cases hd with
      | lst hh ha =>
        cases r
        obtain ⟨its, rv, ⟨o, n, ho, hc, _, hdd⟩, _⟩ := I.list hh
        have z : (listText (PyData.shownAll ds)).length ≤ sizeLine := by rw [PyData.shown] at hz; exact hz
        exact top_list ho hc hdd (DpG.shws I ds _ its ha rv (by simpa [PyData.showable] using S.sh) fun t ht => Nat.le_trans (listText_mem_le ht) z) hg (by omega) S.sz fun h' u tk k => ⟨.str (PyData.list ds).shown, H, I.kept k, ⟨u, rfl⟩, q⟩
    | tuple ds =>
      cases hd with
      | tup hh ha =>
        cases r
        obtain ⟨its, rv, ⟨o, ho, hc, n, hdd⟩, _⟩ := I.tuple hh
        have z : (tupleText (PyData.shownAll ds)).length ≤ sizeLine := by rw [PyData.shown] at hz; exact hz
        exact top_tup ho hc hdd (DpG.shws I ds _ its ha rv (by simpa [PyData.showable] using S.sh) fun t ht => Nat.le_trans (tupleText_mem_le ht) z) hg (by omega) S.sz fun h' u tk k => ⟨.str (PyData.tuple ds).shown, H, I.kept k, ⟨u, rfl⟩, q⟩
    | dict ps =>
      cases hd with
      | dct hh hk ha =>
        cases r
        obtain ⟨_, hsys, vs, kv, o, es, ep, ho, hx, hdat, _, hp, _⟩ := dk_rd I.hok hh
        have z : (dictText (PyData.shownKv ps)).length ≤ sizeLine := by rw [PyData.shown] at hz; exact hz
        obtain ⟨q1, q2⟩ := PyData.showableKv_split ps (by simpa [PyData.showable] using S.sh)
        have ek : (vs.map fun q => keyPy q.1) = ps.map (·.1) := by rw [hk]; exact kv_keys kv
        obtain ⟨k1, k2⟩ := keys_reads (h := s.heap) (P := X.prog) (w := X.w) (fun _ _ => True.intro) hp (by rw [ek]; exact q1) (by
          rw [ek]
          intro t ht
          obtain ⟨p, hp, hl⟩ := PyData.shownKv_key_le ps t ht
          exact Nat.le_trans hl (Nat.le_trans (dictText_mem_le hp) z))
        rw [ek] at k1
        refine top_dct ho hx.1 hdat hsys k1 ?_ hg (by omega) S.sz fun h' u tk k => ⟨.str (PyData.dict ps).shown, H, I.kept k, ⟨u, rfl⟩, q⟩
        rw [k2]
        refine DpG.shws I (ps.map (·.2)) _ _ ha (kv_vals kv) q2 fun t ht => ?_
        obtain ⟨p, hp, hl⟩ := PyData.shownKv_val_le ps t ht
        exact Nat.le_trans hl (Nat.le_trans (dictText_mem_le hp) z)
end
/-! ### over data -/
mutual
def D.pyG : D → Option PyData
  | .non => some .none
  | .bl b => some (.bool b)
  | .int i => some (.int i)
  | .str x => some (.str x)
  | .tup ds => (D.pysG ds).map .tuple
  | .lst ds => (D.pysG ds).map .list
  | .fl ds => (D.pysG ds).map .list
  | .dct ks ds => (D.pysG ds).map fun ps => .dict ((ks.map keyPy).zip ps)
  | .cell _ => none
  | .ins _ _ _ => none
  | .dcT _ _ => none
  | .exc _ _ _ _ _ => none
  | .raw _ => none
def D.pysG : List D → Option (List PyData)
  | [] => some []
  | d :: ds => match D.pyG d, D.pysG ds with
    | some p, some ps => some (p :: ps)
    | _, _ => none
end
theorem pysG_len : ∀ {ds : List D} {ps : List PyData}, D.pysG ds = some ps → ps.length = ds.length
  | [], _, e => by rw [D.pysG] at e; cases e; rfl
  | d :: ds, _, e => by
    rw [D.pysG] at e
    cases e2 : D.pyG d with
    | none => rw [e2] at e; cases e
    | some p =>
      cases e3 : D.pysG ds with
      | none => rw [e2, e3] at e; cases e
      | some qs => rw [e2, e3] at e; cases e; rw [List.length_cons, List.length_cons, pysG_len e3]
section
variable {K : PySem.W.Frag} {m : List Addr} {H : Hp}
theorem dct_of {a : Addr} {kvs : List (Key × V)} {ks : List Key} {ps : List PyData} (h : Rd H a (.dK kvs)) (hk : kvs.map (·.1) = ks) (hl : ps.length = kvs.length) (r : DpGs K H (kvs.map (·.2)) ps) : DpG K H (.ref a) (.dict ((ks.map keyPy).zip ps)) := by
  have l2 : (ks.map keyPy).length = ps.length := by rw [← hk, List.length_map, List.length_map, hl]
  refine .dct h ?_ ?_
  · rw [List.map_fst_zip (by omega), ← hk, List.map_map]; rfl
  · rw [List.map_snd_zip (by omega)]; exact r
mutual
theorem R.dpG : ∀ (d : D) (v : V) (p : PyData), R K m H d v → D.pyG d = some p → DpG K H v p
  | .non, _, _, h, e => by cases e; cases (show _ = V.non from h); exact .non
  | .bl b, _, _, h, e => by cases e; cases (show _ = V.bl b from h); exact .bl b
  | .int i, _, _, h, e => by cases e; cases (show _ = V.int i from h); exact .int i
  | .str x, _, _, h, e => by cases e; cases (show _ = V.str x from h); exact .str x
  | .tup ds, _, p, ⟨a, xs, e1, h1, h2⟩, e => by
    subst e1
    rw [D.pyG] at e
    cases e2 : D.pysG ds with
    | none => rw [e2] at e; cases e
    | some ps => rw [e2] at e; cases e; exact .tup h1 (RL.dpG ds xs ps h2 e2)
  | .lst ds, _, p, ⟨a, xs, e1, h1, h2⟩, e => by
    subst e1
    rw [D.pyG] at e
    cases e2 : D.pysG ds with
    | none => rw [e2] at e; cases e
    | some ps => rw [e2] at e; cases e; exact .lst (SqL.of h1) (RL.dpG ds xs ps h2 e2)
  | .fl ds, _, p, ⟨a, xs, e1, h1, h2⟩, e => by
    subst e1
    rw [D.pyG] at e
    cases e2 : D.pysG ds with
    | none => rw [e2] at e; cases e
    | some ps => rw [e2] at e; cases e; exact .lst h1 (RL.dpG ds xs ps h2 e2)
  | .dct ks ds, _, p, ⟨a, kvs, e1, h1, h2, h3⟩, e => by
    subst e1
    rw [D.pyG] at e
    cases e2 : D.pysG ds with
    | none => rw [e2] at e; cases e
    | some ps => rw [e2] at e; cases e; exact dct_of h1 h2 (by rw [pysG_len e2, RL.length h3, List.length_map]) (RL.dpG ds _ ps h3 e2)
  | .cell _, _, _, _, e => by rw [D.pyG] at e; cases e
  | .ins _ _ _, _, _, _, e => by rw [D.pyG] at e; cases e
  | .dcT _ _, _, _, _, e => by rw [D.pyG] at e; cases e
  | .exc _ _ _ _ _, _, _, _, e => by rw [D.pyG] at e; cases e
  | .raw _, _, _, _, e => by rw [D.pyG] at e; cases e
theorem RL.dpG : ∀ (ds : List D) (vs : List V) (ps : List PyData), RL K m H ds vs → D.pysG ds = some ps → DpGs K H vs ps
  | [], _, _, h, e => by cases (show _ = [] from h); rw [D.pysG] at e; cases e; exact .nil
  | d :: ds, _, ps, ⟨x, r, e1, h1, h2⟩, e => by
    subst e1
    rw [D.pysG] at e
    cases e2 : D.pyG d with
    | none => rw [e2] at e; cases e
    | some p =>
      cases e3 : D.pysG ds with
      | none => rw [e2, e3] at e; cases e
      | some qs => rw [e2, e3] at e; cases e; exact .cons (R.dpG d x p h1 e2) (RL.dpG ds r qs h2 e3)
end
mutual
theorem DpG.mono {H' : Hp} (e : Ex H H') : ∀ {v : V} {d : PyData}, DpG K H v d → DpG K H' v d
  | _, _, .non => .non
  | _, _, .bl b => .bl b
  | _, _, .int i => .int i
  | _, _, .str x => .str x
  | _, _, .lst h r => .lst (ex_l e h) (DpGs.mono e r)
  | _, _, .tup h r => .tup (ex_t e h) (DpGs.mono e r)
  | _, _, .dct h hk r => .dct (ex_rd e h) hk (DpGs.mono e r)
theorem DpGs.mono {H' : Hp} (e : Ex H H') : ∀ {vs : List V} {ds : List PyData}, DpGs K H vs ds → DpGs K H' vs ds
  | _, _, .nil => .nil
  | _, _, .cons h r => .cons (DpG.mono e h) (DpGs.mono e r)
end
end
theorem W.dpG {K : PySem.W.Frag} {m : Ad} {H : Hp} : ∀ {d : D} {v : V} {p : PyData}, W K H m d v → D.pyG d = some p → DpG K H v p
  | .non, _, _, h, e => DpG.mono (ex_hid m H) (R.dpG (m := m.ix) .non _ _ h e)
  | .bl b, _, _, h, e => DpG.mono (ex_hid m H) (R.dpG (m := m.ix) (.bl b) _ _ h e)
  | .int i, _, _, h, e => DpG.mono (ex_hid m H) (R.dpG (m := m.ix) (.int i) _ _ h e)
  | .str x, _, _, h, e => DpG.mono (ex_hid m H) (R.dpG (m := m.ix) (.str x) _ _ h e)
  | .tup ds, _, _, h, e => DpG.mono (ex_hid m H) (R.dpG (m := m.ix) (.tup ds) _ _ h e)
  | .fl ds, _, _, h, e => DpG.mono (ex_hid m H) (R.dpG (m := m.ix) (.fl ds) _ _ h e)
  | .lst ds, _, p, ⟨a, xs, e1, h1, h2⟩, e => by
    subst e1
    rw [D.pyG] at e
    cases e2 : D.pysG ds with
    | none => rw [e2] at e; cases e
    | some ps => rw [e2] at e; cases e; exact .lst (SqL.of h1) (DpGs.mono (ex_hid m H) (RL.dpG ds xs ps h2 e2))
  | .dct ks ds, _, p, ⟨a, kvs, e1, h1, h2, h3⟩, e => by
    subst e1
    rw [D.pyG] at e
    cases e2 : D.pysG ds with
    | none => rw [e2] at e; cases e
    | some ps => rw [e2] at e; cases e; exact dct_of h1 h2 (by rw [pysG_len e2, RL.length h3, List.length_map]) (DpGs.mono (ex_hid m H) (RL.dpG ds _ ps h3 e2))
  | .cell _, _, _, _, e => by rw [D.pyG] at e; cases e
  | .ins _ _ _, _, _, _, e => by rw [D.pyG] at e; cases e
  | .dcT _ _, _, _, _, e => by rw [D.pyG] at e; cases e
  | .exc _ _ _ _ _, _, _, _, e => by rw [D.pyG] at e; cases e
  | .raw _, _, _, _, e => by rw [D.pyG] at e; cases e
def fReprG : F1 := fun x c Φ => ∃ p, D.pyG x = some p ∧ ShowG p ∧ Φ (.str p.shown) c
theorem l1_reprG {K : PySem.W.Frag} : L1f K fReprG (fun u H Q => rReprG K [u] H Q) := by
  intro x c Φ h H m u C r Q q
  obtain ⟨p, h1, h2, h3⟩ := h
  exact ⟨u, p, rfl, W.dpG r h1, h2, q.pure C h3 rfl⟩
section
variable {X : Cx} {e : Expr} {ta : TD} {pos pp : Pos}
theorem pd_reprG (hgu : X.A.guards = some []) (hu : X.A.units + 64 < cLine) (ha : PD X e ta) (hm : X.mg "repr" = none) (hg : Gl X "repr" := by rfl) (he : starEach [e] X.env = (false, eval e X.env) :: starEach [] X.env := by rfl) (hpl : (backTo pos (starEach [] X.env)).any (·.1) = false := by rfl) :
    PD X (.Call (.Name "repr" pp) [e] [] pos) (dCB (un1 fReprG) (dCons ta dNil)) := pd_B1 (call_reprG hgu hu) l1_reprG (by decide +kernel) (by decide) (by decide) ha hg hm he hpl
end
end Cw

/-! # defs with defaults -/
namespace Cw
open PySem PySem.Spec PyProof.Rows L2
section
variable {P : Program} {w : World} {K : PySem.W.Frag} {mg : Str → Option Value} {base : Heap} {x qual : Str} {st : Stmt} {f : Addr} {fd : FuncData} {N ps ks : List Str} {k n0 : Nat} {dvs : List V} {kws : List (Str × V)}
end
end Cw

/-! # dict(zip(text, row)) -/
namespace Cw
open PySem PySem.Spec PyProof.Rows L2
section
variable {P : Program} {w : World} {A : Around} {E : Value → Shared → Prop} {s : Shared} {zp TI TO i1 i2 T : Addr} {fp1 fp2 : List Addr} {n1 n2 i : Nat} {P1 P2 : Nat → Value → Prop} {St1 St2 : Nat → Heap → Prop} {f : Bool} {oT : Obj}
end
structure ZApart (zp TI TO i1 i2 l : Addr) : Prop where
  sep : ZipSep2 zp TI TO i1 i2 [i1] [i2, l]
  li2 : l ≠ i2
section
variable {X : Cx}
end
end Cw

/-! # methods that may raise: o.m(e, ..), o.m(k=e, ..) -/
namespace Cw
open PySem PySem.Spec PyProof.Rows L2 PySem.W
section
variable {X : Cx} {CX : CXT} {k : Nat} {C f : Addr} {sp : Sp} {E : XK} {o : Expr} {m : Str} {pos apos : Pos} {ta : TE} {tk : TA} {pl : Sem Bool} {fd : FuncData} {ps ks : List Str} {kws : List Keyword} {gg : List Value → List Value → List Value} {gV : List V → List V → List V}
end
section
variable {X : Cx} {E : XK} {k np : Nat} {f C : Addr} {fd : FuncData} {ps ks : List Str} {S : Pmx} {m : Str} {o e : Expr} {es : List Expr} {ta : TD} {tas tks : TDs} {pl : Sem Bool} {pos apos : Pos} {kws : List Keyword}
end
/-! ### min(row) of a tuple of ints -/
section
variable {X : Cx} {e : Expr} {ta : TD} {pos pp : Pos}
end
end Cw

/-! # defs that may raise and are handed cells; C(e) whose __init__ may raise; f(e) where e may raise -/
namespace Cw
open PySem PySem.Spec PyProof.Rows L2 PySem.W
abbrev Pmy := List Cell → List D → (D → List Cell → Prop) → (XD → Prop) → Prop
def spXM (K : PySem.W.Frag) (n0 np : Nat) (S : Pmy) : Sp := fun vs H Q E => ∃ (m : Ad) (c : List Cell) (ds : List D) (Φ : D → List Cell → Prop) (Ξ : XD → Prop), c.length = n0 ∧ ds.length = np ∧ CR K H m c ∧ RRL K H m ds vs ∧ S c ds Φ Ξ ∧
  (∀ d c' w H', Φ d c' → CR K H' m c' → RR K H' m d w → Le m H m H' → Q w H') ∧ ∀ x c' cls dd H', Ξ x → okDs 0 x.ds = true → CR K H' m c' → IsX K H' m x cls dd → Le m H m H' → E cls dd H'
def endY (n0 : Nat) (Φ : D → List Cell → Prop) (Ξ : XD → Prop) : DEX := { nx := fun _ c' => retD n0 Φ .non c', rt := retD n0 Φ, ex := fun x c' => okDs 0 x.ds = true ∧ okCs n0 (c'.take n0) = true ∧ Ξ x }
section
variable {P : Program} {w : World} {K : PySem.W.Frag} {mg : Str → Option Value} {base : Heap}
theorem fnY {x qual : Str} {st : Stmt} {f : Addr} {fd : FuncData} {N ps : List Str} {k n0 : Nat} {S : Pmy} (F : Fun K x qual st f fd) (Sc : FnScope N ps (defScope st))
    (hbody : ∀ (cdv : Value) (A : Around) (outer : List PySem.Env) (s : Shared) (H : Hp) (E : XK), Room k (A.deeper (envOfC qual (defScope st) s.heap.objs.size f cdv)) →
      ∃ ts, PSXs (cxOf (L2.CX P w) P w K mg base N qual (defScope st) f cdv A outer s H E) E (defBody st) ts ∧ ∀ c ds Φ Ξ, c.length = n0 → ds.length = ps.length → S c ds Φ Ξ → ts (endY n0 Φ Ξ) (startD N ds) c) :
    FnOk P w K mg base (L2.CX P w) (k + 1) f fd ps (spXM K n0 ps.length S) := by
  refine F.okX Sc (fun vs H Q E ⟨m, c, ds, Φ, Ξ, h1, h2, C, r, _⟩ => by rw [← RL.length r]; exact h2) (fun cdv A outer s H vs Q E hr ⟨m, c, ds, Φ, Ξ, h1, h2, C, r, hS, q, qx⟩ => ?_)
  obtain ⟨ts, hp, ht⟩ := hbody cdv A outer s H E hr
  have hn : m.ix.length = n0 := by rw [C.len]; exact h1
  refine ⟨_, hp, m, startD N ds, c, endY n0 Φ Ξ, start_slots C r, ht c ds Φ Ξ h1 h2 hS, fun σ' H' m' ρ' c' h' S' l => ret_ok hn q h' S'.cr rfl l, fun d c' v H' m' h' C' r' l => ret_ok hn q h' C' r' l, fun _ _ _ _ _ z => z.elim, fun _ _ _ _ _ z => z.elim, fun y c' cls dd H' m' ⟨h0, h3, h4⟩ C' r' l => ?_⟩
  have ex : Ex (hid m' H') (hid m H') := ex_cut l.pre l.hd
  have C2 := C'.cut l.pre l.hd hn h3
  obtain ⟨e1, dx, fs, e2, e3, e4, e5⟩ := r'
  exact qx y _ cls dd H' h4 h0 C2 ⟨e1, dx, fs, e2, ex dx _ e3, e4, RL.low (n := 0) ex (fun k a hk => absurd hk (Nat.not_lt_zero _)) _ _ h0 e5⟩ ⟨fun _ _ e => e, l.ex.trans ex, rfl, l.hk' ex, fun _ h => .inl h, l.al⟩
end
section
variable {K : PySem.W.Frag} {m : Ad} {H : Hp} {c : List Cell}
/-- what a __init__ that may raise promises of a new object -/
def callIX (C : Addr) (S : Pmy) (ds : List D) (c : List Cell) (Φ : D → List Cell → Prop) (Ξ : XW) : Prop := okDs 0 ds = true ∧ S [.obj C [] []] (.cell 0 :: ds) (fun d c' => match c' with
  | [.obj C' ns es] => d = .non ∧ C' = C ∧ okDs 0 es = true ∧ Φ (.ins C ns es) c
  | _ => False) fun x => Ξ x c
theorem sp_makeX {S : Pmy} {np : Nat} {C x dx : Addr} {ds : List D} {vs : List V} {Φ : D → List Cell → Prop} {Ξ : XW} {Q : VK} {E : XK} (Cc : CR K H m c) (r : RRL K H m ds vs) (hl : ds.length + 1 = np) (h : callIX C S ds c Φ Ξ) (q : KQ K H m Φ Q) (qx : KX K H m Ξ E)
    (hx : H x = none) (hd : H dx = none) (hne : dx ≠ x) : spXM K 1 np S (.ref x :: vs) (upd (upd H dx (.own x)) x (.ins C dx [])) (fun v H2 => v = .non ∧ Q (.ref x) H2) E := by
  obtain ⟨ok, hS⟩ := h
  have hal := hall Cc
  have hx1 : x ∉ m.ix ∧ x ∉ m.hd := hid_new hx Cc
  have keep2 : ∀ b o, H b = some o → upd (upd H dx (.own x)) x (.ins C dx []) b = some o := fun b o e => by
    rw [upd_ne (ne_of_none e hx), upd_ne (ne_of_none e hd)]; exact e
  have ex2 : Ex (hid m H) (hid (m.mk1 x) (upd (upd H dx (.own x)) x (.ins C dx []))) := fun b o e => by
    obtain ⟨⟨h1, h2⟩, h3⟩ := hid_some e
    rw [hid_of (m := m.mk1 x)]
    · exact keep2 b o h3
    · refine ⟨fun z => ?_, fun z => ?_⟩
      · have : b = x := by simpa [Ad.mk1] using z
        subst this; rw [hx] at h3; cases h3
      · rcases List.mem_append.mp (show b ∈ m.hd ++ m.ix from z) with z | z
        · exact h2 z
        · exact h1 z
  have after : ∀ {H' : Hp}, Le (m.mk1 x) (upd (upd H dx (.own x)) x (.ins C dx [])) (m.mk1 x) H' → Ex (hid (m.mk1 x) H') (hid m H') ∧ Le m H m H' ∧ CR K H' m c := fun {H'} l => by
    have exm : Ex (hid (m.mk1 x) H') (hid m H') := fun a o e => by
      obtain ⟨⟨h1, h2⟩, h6⟩ := hid_some e
      rw [hid_of ⟨fun z => h2 (List.mem_append_right _ z), fun z => h2 (List.mem_append_left _ z)⟩]
      exact h6
    have l' : Le m H m H' := ⟨fun _ _ e => e, (ex2.trans l.ex).trans exm, rfl, fun a ha => by
      obtain ⟨o, e, _⟩ := Cc.hs a ha
      rcases l.hk a (List.mem_append_left _ ha) with z | ⟨⟨ps, ps', y1, y2⟩, y3⟩
      · exact .inl (z.trans ((keep2 a o e).trans e.symm))
      · refine .inr ⟨⟨ps, ps', ?_, y2⟩, fun q t => (y3 q (t.keep2 (fun o e => keep2 _ o e) ex2)).keep rfl exm⟩
        have := keep2 a o e
        rw [y1] at this
        rw [e]; exact this.symm, fun _ h => .inl h, fun a e => upd_none (upd_none (l.al a e))⟩
    refine ⟨exm, l', ⟨Cc.len, Cc.nd, fun k ce e => ?_, fun a ha => l'.hs ha (Cc.hs a ha), Cc.dj, Cc.tk' l'⟩⟩
    obtain ⟨a, h1, h2⟩ := Cc.at_ k ce e
    exact ⟨a, h1, h2.step l' fun o e' => by
      obtain ⟨u, e1, n⟩ := h2.nt
      rw [e'] at e1; cases e1
      exact l.kc (List.mem_append_right _ (List.mem_of_getElem? h1)) (keep2 a o e') n⟩
  refine ⟨m.mk1 x, [.obj C [] []], .cell 0 :: ds, _, _, rfl, hl, ⟨rfl, by simp [Ad.mk1], fun k ce e => ?_, fun b hb => ?_, fun a ha z => ?_, fun q hq => ⟨List.mem_append_left _ (Cc.tk q hq).1, (Cc.tk q hq).2.keep2 (fun o e => keep2 _ o e) ex2⟩⟩, ?_, hS, fun d c' w H' hΦ C' r' l => ?_, fun y c' cls dd H' hΞ hok C' r' l => ?_⟩
  · have hk : k = 0 := by
      have := (List.getElem?_eq_some_iff.mp e).1
      simp at this; exact this
    subst hk
    simp at e; subst e
    exact ⟨x, rfl, dx, [], upd_same, rfl, rfl⟩
  · obtain ⟨o, e, e'⟩ := hal b hb
    exact ⟨o, keep2 b o e, e'⟩
  · have : a = x := by simpa [Ad.mk1] using ha
    subst this
    rcases List.mem_append.mp (show a ∈ m.hd ++ m.ix from z) with z | z
    · exact hx1.2 z
    · exact hx1.1 z
  · show RL K [x] (hid (m.mk1 x) _) (.cell 0 :: ds) (.ref x :: vs)
    exact ⟨.ref x, vs, rfl, ⟨x, rfl, rfl⟩, RL.low (n := 0) ex2 (fun k a hk => absurd hk (Nat.not_lt_zero _)) ds vs ok r⟩
  · obtain ⟨exm, l', C2⟩ := after l
    cases c' with
    | nil => exact hΦ.elim
    | cons ce t =>
      cases t with
      | cons _ _ => cases ce <;> exact hΦ.elim
      | nil =>
        cases ce with
        | lst _ => exact hΦ.elim
        | dct _ _ => exact hΦ.elim
        | dcT _ _ => exact hΦ.elim
        | obj C'' ns es =>
          obtain ⟨rfl, rfl, ok2, hq⟩ := hΦ
          obtain ⟨b, hb, hat⟩ := C'.at_ 0 _ rfl
          have hbx : b = x := by
            have h0 : (m.mk1 x).ix[0]? = some x := rfl
            rw [h0] at hb
            exact (Option.some.inj hb).symm
          subst hbx
          obtain ⟨dx', fs, h3, h4, h5⟩ := hat
          refine ⟨by cases w <;> first | rfl | exact absurd r' (by intro z; cases z), q _ c _ H' m hq C2 ⟨b, dx', fs, rfl, ?_, h4, ?_⟩ l'⟩
          · rw [hid_of hx1]; exact h3
          · exact RL.low (n := 0) exm (fun k a hk => absurd hk (Nat.not_lt_zero _)) es _ ok2 h5
  · obtain ⟨exm, l', C2⟩ := after l
    obtain ⟨e1, dx', fs, e2, e3, e4, e5⟩ := r'
    exact qx y c cls dd H' m hΞ C2 ⟨e1, dx', fs, e2, exm dx' _ e3, e4, RL.low (n := 0) exm (fun k a hk => absurd hk (Nat.not_lt_zero _)) _ _ hok e5⟩ l'
end
section
variable {X : Cx} {k np : Nat} {f C : Addr} {fd : FuncData} {ps ks : List Str} {S : Pmy} {E : XK} {x : Str} {p pos : Pos} {e : Expr} {es : List Expr} {kws : List Keyword} {tas tks : TDs}
def xMake (C : Addr) (S : Pmy) (np : Nat) (t : TDs) : TDX := fun ρ c Φ Ξ => t ρ c fun ds c1 => ds.length + 1 = np ∧ callIX C S ds c1 Φ Ξ
theorem pdx_make (M : Mk X.K C f) (F : FnOk X.prog X.w X.K X.mg X.base (L2.CX X.prog X.w) k f fd ps (spXM X.K 1 np S)) (hr : Room (k + 1) X.A) (hm : X.mg x = some (.ref C)) (hb : Binds X.K fd ps []) (hx : Passes (L2.CX X.prog X.w) X E)
    (ha : PDs X (e :: es) tas) (hg : Gl X x := by rfl) (hdb : (x == ("__debug__" : Str)) = false := by decide) (he : starEach (e :: es) X.env = (false, eval e X.env) :: starEach es X.env := by rfl) (hpl : (backTo pos (starEach es X.env)).any (·.1) = false := by rfl) :
    PDX X E (.Call (.Name x p) (e :: es) [] pos) (xMake C S np tas) := PE.imp (pe_make M F hr hg hm hb .nil hx ha hdb he hpl) fun σ H Q ⟨m, ρ, c, Φ, Ξ, S', h, q, qx⟩ =>
    ⟨m, ρ, c, _, S', h, fun ds c1 vs H1 m1 ⟨hl, hc⟩ C1 R1 L1 => fun a dx h1 h2 h3 => by rw [List.append_nil]; exact sp_makeX C1 R1 hl hc (KQ.le (K := X.K) q L1) (KX.le (K := X.K) qx L1) h1 h2 h3⟩
def xMakeK (C : Addr) (S : Pmy) (np n : Nat) (t : TDs) : TDX := fun ρ c Φ Ξ => t ρ c fun ds c1 => ds.length = n ∧ ds.length + 1 = np ∧ callIX C S ds c1 Φ Ξ
theorem pdx_makeK (M : Mk X.K C f) (F : FnOk X.prog X.w X.K X.mg X.base (L2.CX X.prog X.w) k f fd ps (spXM X.K 1 np S)) (hr : Room (k + 1) X.A) (hm : X.mg x = some (.ref C)) (hb : KBn X.K fd ps 1 ks (fun us ws => us ++ ws) (fun us ws => us ++ ws)) (hx : Passes (L2.CX X.prog X.w) X E) (hkw : PK X kws (liftA X.K tks)) (hg : Gl X x := by rfl)
    (hall : (backToKw pos (keywordEach kws X.env)).all (·.1.isSome) = true := by rfl) (hks : (backToKw pos (keywordEach kws X.env)).filterMap (·.1) = ks := by rfl) (hdb : (x == ("__debug__" : Str)) = false := by decide)
    (hpl : ((backTo pos (starEach [] X.env)).any (·.1) || (backToKw pos (keywordEach kws X.env)).any (·.1.isNone)) = false := by rfl) :
    PDX X E (.Call (.Name x p) [] kws pos) (xMakeK C S np ks.length tks) := PE.imp (pe_makeK0 M F hr hg hm hb hx hkw hall hks hdb hpl) fun σ H Q ⟨m, ρ, c, Φ, Ξ, S', h, q, qx⟩ => by
  show liftA X.K tks σ H _
  exact ⟨m, ρ, c, _, S', h, fun ds c1 vs H1 m1 ⟨hn, hl, hc⟩ C1 R1 L1 => ⟨rfl, by rw [← RL.length R1]; exact hn, fun a dx h1 h2 h3 => sp_makeX C1 R1 hl hc (KQ.le (K := X.K) q L1) (KX.le (K := X.K) qx L1) h1 h2 h3⟩⟩
end
section
variable {X : Cx} {CX : CXT} {k : Nat} {f : Addr} {fd : FuncData} {ps : List Str} {S : Pm} {E E' : XK} {x : Str} {p pos : Pos} {e : Expr} {tx : TDX}
/-- f(e) where e may raise and f doesn't -/
def xCallA (S : Pm) (tx : TDX) : TDX := fun ρ c Φ Ξ => tx ρ c (fun d c1 => callP S [d] c1 Φ) Ξ
theorem pdx_callA (F : FnOk X.prog X.w X.K X.mg X.base CX k f fd ps (spD X.K 0 1 S)) (hr : Room k X.A) (hm : X.mg x = some (.ref f)) (hk : PySem.W.keepIn X.K (.ref f) = true) (hb : Binds X.K fd ps []) (hx : Passes CX X E')
    (ha : PDX X E e tx) (hg : Gl X x := by rfl) (hdb : (x == ("__debug__" : Str)) = false := by decide) (he : starEach [e] X.env = (false, eval e X.env) :: starEach [] X.env := by rfl) (hpl : (backTo pos (starEach [] X.env)).any (·.1) = false := by rfl) :
    PDX X E (.Call (.Name x p) [e] [] pos) (xCallA S tx) := PE.imp (pe_call F hr hg hm hk hb .nil hx (pa_cons ha pa_nil he) hdb he hpl) fun σ H Q ⟨m, ρ, c, Φ, Ξ, S', h, q, qx⟩ =>
    ⟨m, ρ, c, _, Ξ, S', h, fun d c1 v H1 m1 hc C1 R1 L1 => by
      show spD X.K 0 1 S ([v] ++ []) H1 Q E'
      rw [List.append_nil]
      exact sp_pure C1 (show RRL X.K H1 m1 [d] [v] from ⟨v, [], rfl, R1, rfl⟩) rfl hc (KQ.le (K := X.K) q L1), qx⟩
end
end Cw

/-! # t.split(s) as a new list that may change; none among rows; {"a": x} -/
namespace Cw
open PySem PySem.Spec PyProof.Rows L2 PySem.W
def fSplitM : F2
  | .str a, .str b, c, Φ => (b.length == 0) = false ∧ a.length + 2 ≤ sizeLine ∧ Φ (.cell c.length) (c ++ [.lst ((Txt.split a b).map .str)])
  | _, _, _, _ => False
section
variable {X : Cx} {o e : Expr} {ta tb : TD} {pos apos : Pos}
theorem pd_splitM (ho : PD X o ta) (he : PD X e tb) (hs : starEach [e] X.env = [(false, eval e X.env)] := by rfl) (hbase : attributeBase o "split" X.env (eval o X.env) = eval o X.env := by rfl) (hline : (apos.endLine == pos.line) = true := by rfl) :
    PD X (.Call (.Attribute o "split" apos) [e] [] pos) (dM1 fSplitM ta tb) := PE.imp (pe_split ho he hs hbase hline) fun σ H Q h => lift_m1 (by
      intro x y c Φ h H m u v C r1 r2 Q q
      cases x <;> cases y <;> first | exact h.elim | skip
      rename_i a b
      cases (show u = _ from r1); cases (show v = _ from r2)
      refine ⟨_, _, rfl, rfl, h.1, h.2.1, fun p hp => ?_⟩
      have z := cell_new (ce := .lst ((Txt.split a b).map .str)) C hp ⟨(Txt.split a b).map .str, upd_same, rl_txts _⟩
      exact q _ _ _ _ _ h.2.2 z.1 z.2.2 z.2.1) h
end
end Cw

/-! # {"a": x} -/
namespace Cw
open PySem PySem.Spec PyProof.Rows L2 PySem.W
def dDict1 (k : Str) (i : Nat) : TD := fun ρ c Φ => dVar i ρ c fun d c1 => Φ (.dct [.inr k] [d]) c1
section
variable {X : Cx} {pos p1 p2 : Pos} {k x : Str} {j : Nat} {kk : Nat}
theorem pd_dict1 {j} (i : Nat) (hN : X.N[i]? = some x := by rfl) (hv : Vis X.env.scope x := by first | exact Or.inl rfl | exact Or.inr (Or.inl rfl) | exact Or.inr (Or.inr rfl)) (hd : (x == ("__debug__" : Str)) = false := by decide)
    (hcd : (x == ("__classdict__" : Str)) = false := by decide) : PD X (.Dict [some (.Constant (.str k) j p1)] [.Name x p2] pos) (dDict1 k i) :=
  PE.imp (pe_disp (pps_cons pe_str (pe_var hN hv hd hcd) pps_nil) rfl rfl (by simp) (by show 1 ≤ 15; decide)) fun σ H Q ⟨m, ρ, c, Φ, S, h, q⟩ p hp => by
    have h : dVar i ρ c fun d c1 => Φ (.dct [.inr k] [d]) c1 := h
    unfold dVar at h
    cases e : ρ[i]? with
    | none => rw [e] at h; exact h.elim
    | some o =>
      cases o with
      | none => rw [e] at h; exact h.elim
      | some d =>
        rw [e] at h
        obtain ⟨v, hv, r⟩ := S.sl i d e
        refine ⟨v, hv, upd_same, [(.inr k, v)], rfl, by show 1 ≤ 15; decide, ?_⟩
        have em : mergeK [] [((Sum.inr k : Key), v)] = [(.inr k, v)] := by
          rw [mergeK_nodup _ [] (by simp)]; rfl
        rw [em]
        have eu : upd (upd H p (.dK [])) p (.dK [((Sum.inr k : Key), v)]) = upd H p (.dK [(.inr k, v)]) := by
          funext b
          by_cases hb : b = p
          · subst hb; rw [upd_same, upd_same]
          · rw [upd_ne hb, upd_ne hb, upd_ne hb]
        rw [eu]
        have C2 := CR.new (o := .dK [((Sum.inr k : Key), v)]) hp S.cr
        have l2 := Le.new (o := .dK [((Sum.inr k : Key), v)]) hp S.cr
        exact q _ c _ _ m h C2 ⟨p, [(.inr k, v)], rfl, .inl (new_at hp S.cr), rfl, l2.rl ⟨v, [], rfl, r, rfl⟩⟩ l2
end
end Cw

namespace Cw
open PySem PySem.Spec PyProof.Rows L2 PySem.Froz

/-! ### len(set(t)) of rows among which some may be alike; len(set(l)) of texts -/
section
variable {P : Program} {w : World} {A : Around} {E : Value → Shared → Prop} {s : Shared} {a : Addr} {L : List (Addr × List Key)} {es : Array (Int × Value)} {ep : Nat} {t : SetTable}
/-- a member is found -/
theorem MxS.find (R : MxS P w s.heap a L es ep t) {x : Addr} {k : List Key} (hx : Ky P w s.heap k x) (hu : A.units < cLine) {K : Nat} (lim : K < 10 * SetTable.turns t.mask)
    (gap : way t.mask (kh P w k) K ∉ t.place.toList) (ahead : ∀ c, c < K → way t.mask (kh P w k) c ∈ t.place.toList) {i0 : Nat} {m0 : Addr × List Key} (at0 : L[i0]? = some m0) (is0 : m0.2 = k) {Q : SetFound → Shared → Prop} (q : Q (.there none) s) :
    ∀ (f c : Nat) (from? : Option SetTable.Probe), from?.getD (t.probeStart (kh P w k)) = stop t.mask (kh P w k) c → c ≤ K → K - c < f →
      (∃ c', c ≤ c' ∧ c' < K ∧ t.place.toList[i0]? = some (way t.mask (kh P w k) c')) → wpAny (model P w) A (setSearchFrom a (.ref x) (kh P w k) true f from?) Q E s
  | 0, c, _, _, _, z, _ => absurd z (Nat.not_lt_zero _)
  | f + 1, c, from?, est, hc, hf, ⟨c', lo, hi', on⟩ => by
    obtain ⟨o, ho, hex, hd⟩ := R.ob
    rw [setSearchFrom_succ]
    refine wpAny_bind (wpAny_setState_of ho hd R.fits ?_)
    dsimp only
    refine wp_if_neg (by unfold SetTable.gaveWay; rw [mask_odd R.tab.mok]; decide) ?_
    try refine wpAny_bind (wpAny_pure ?_)
    have jj : ∀ q, (nth t.mask (stop t.mask (kh P w k) c) q).j = way t.mask (kh P w k) (c + q) := fun q => congrArg SetTable.Probe.j (stop_on ..)
    rw [est]
    have hs0 : (fun i => (es[i]?.map (·.1)).getD 0) i0 = kh P w k := by
      show (es[i0]?.map (·.1)).getD 0 = _
      rw [R.at at0, ← is0]; rfl
    rcases go_spec t R.tab.ris R.tab.dm (fun i => (es[i]?.map (·.1)).getD 0) (kh P w k) (10 * SetTable.turns t.mask) (K - c) (stop t.mask (kh P w k) c) (nth_plain _ _ _ rfl) (by omega)
      (fun q hq => by rw [jj]; exact ahead _ (by omega)) (by rw [jj, show c + (K - c) = K by omega]; exact gap) with ⟨q', i, hq, hi, _, hno, hp⟩ | ⟨hno, hp⟩
    · have hp' : t.probe (fun i => (es[i]?.map (·.1)).getD 0) (kh P w k) (stop t.mask (kh P w k) c) = some (.candidate (way t.mask (kh P w k) (c + q')) i (stop t.mask (kh P w k) (c + (q' + 1)))) := by
        rw [← jj, ← stop_on]; exact hp
      rw [hp']
      dsimp only
      rw [jj] at hi
      have il : i < L.length := by
        have h1 := (List.getElem?_eq_some_iff.mp hi).1
        have h2 := R.tab.sz
        rw [mhs_len] at h2
        rw [Array.length_toList] at h1
        omega
      obtain ⟨m, hm⟩ : ∃ m, L[i]? = some m := ⟨_, List.getElem?_eq_getElem il⟩
      have mm := List.mem_of_getElem? hm
      have onto : ¬ c' < c + q' := fun z => by
        refine hno (c' - c) i0 (by omega) ?_ hs0
        rw [jj, show c + (c' - c) = c' by omega]; exact on
      have rest : wpAny (model P w) A (searchRest a (.ref x) (kh P w k) true f es t (way t.mask (kh P w k) (c + q')) i (stop t.mask (kh P w k) (c + (q' + 1)))) Q E s := by
        unfold searchRest
        rw [R.at hm]
        dsimp only
        refine wpAny_bind (wpAny_holding (wpAny_eqBool_tuple hu (R.ks m mm) hx ?_))
        by_cases ne : m.2 = k
        · rw [decide_eq_true ne]
          refine wpAny_bind (wpAny_setState_of ho hd R.fits ?_)
          dsimp only
          exact wp_if_pos rfl (wpAny_pure q)
        rw [decide_eq_false ne]
        refine wpAny_bind (wpAny_setState_of ho hd R.fits ?_)
        dsimp only
        refine wp_if_neg (by decide) ?_
        try refine wpAny_bind (wpAny_pure ?_)
        rw [sameMem]
        dsimp only
        have sl := slot_live R.tab.ris hi
        simp only [if_true, sl, R.at hm]
        refine wpAny_bind (wpAny_isSame_ref_self (wpAny_bind (wpAny_pure ?_)))
        simp only [if_true]
        refine wp_if_neg (by decide) ?_
        refine MxS.find R hx hu lim gap ahead at0 is0 q f _ _ rfl (by omega) (by omega) ⟨c', ?_, hi', on⟩
        by_cases z : c' = c + q'
        · exfalso
          rw [z] at on
          have s0 := slot_live R.tab.ris on
          rw [sl] at s0
          injection s0 with s0
          rw [← s0, hm] at at0
          exact ne ((congrArg Prod.snd (Option.some.inj at0)).trans is0)
        · omega
      by_cases hl : t.led = true
      · refine wp_if_neg (by rw [hl]; decide) ?_
        try refine wpAny_bind (wpAny_pure ?_)
        exact rest
      · refine wp_if_pos (by rw [Bool.eq_false_iff.mpr hl]; rfl) (wpAny_bind (hx.unseen (fun y hy => ?_) ?_))
        · obtain ⟨e, he, ey⟩ := List.mem_map.mp hy
          have he2 : e ∈ es.toList := by
            have : e ∈ es ∧ e.1 = kh P w k := by simpa using he
            simpa using this.1
          rw [R.en] at he2
          obtain ⟨m2, hm2, e2⟩ := List.mem_map.mp he2
          exact ⟨m2.2, m2.1, by rw [← ey, ← e2], R.ks m2 hm2⟩
        · refine wp_if_neg (by decide) ?_
          try refine wpAny_bind (wpAny_pure ?_)
          exact rest
    · exfalso
      refine hno (c' - c) i0 (by omega) ?_ hs0
      rw [jj, show c + (c' - c) = c' by omega]; exact on
theorem MxS.same (R : MxS P w s.heap a L es ep t) {x : Addr} {k : List Key} (hx : Ky P w s.heap k x) (hu : A.units < cLine) (old : ∃ m ∈ L, m.2 = k) {Q : Bool → Shared → Prop}
    (q : Q false s) : wpAny (model P w) A (setAddHashed a (.ref x) (kh P w k)) Q E s := by
  obtain ⟨m0, hm0, is0⟩ := old
  obtain ⟨i0, hi0, e0⟩ := List.getElem_of_mem hm0
  have at0 : L[i0]? = some m0 := by rw [List.getElem?_eq_getElem hi0, e0]
  obtain ⟨o, ho, hex, hd⟩ := R.ob
  have wide := R.wide
  unfold setAddHashed
  refine wpAny_holding ?_
  rw [show (100000 : Nat) = 99999 + 1 from rfl, setAddHashedIn_succ]
  refine wpAny_bind (wpAny_setState_of ho hd R.fits ?_)
  dsimp only
  refine wp_if_neg (by simp [byScan, Value.scannable]) ?_
  try refine wpAny_bind (wpAny_pure ?_)
  obtain ⟨K, lim, gap, ahead⟩ := R.tab.first (by rw [mhs_len]; omega) (kh P w k)
  have lim2 : K < 100000 := by
    have : 10 * SetTable.turns t.mask ≤ 1420 := by
      unfold SetTable.turns
      rcases R.tab.mok with e | e | e <;> omega
    omega
  refine wpAny_bind (m := setSearch a (.ref x) (kh P w k) true) ?_
  unfold setSearch
  have h0 : (mhs P w L)[i0]? = some (kh P w k) := by
    unfold mhs
    rw [List.getElem?_map, at0, ← is0]; rfl
  have pl : i0 < t.place.toList.length := by
    have h2 := R.tab.sz
    rw [mhs_len] at h2
    rw [Array.length_toList]; omega
  have on := List.getElem?_eq_getElem pl
  obtain ⟨c', hc', e'⟩ := R.tab.before gap h0 on
  refine R.find hx hu lim gap ahead at0 is0 ?_ 100000 0 none rfl (Nat.zero_le _) (by omega) ⟨c', Nat.zero_le _, hc', by rw [on, e']⟩
  dsimp only
  exact wpAny_pure q
end
section
variable {X : Cx}
def rSetMy (K : PySem.W.Frag) : List V → Hp → VK → Prop := fun xs H Q => ∃ (l : Addr) (ms : List (Addr × List Key)), xs = [.ref l] ∧ SqT K H l (ms.map fun m => .ref m.1) ∧ (∀ m ∈ ms, SqT K H m.1 (m.2.map kV)) ∧ ms.length < 64 ∧
  ∀ a (ls : List (List Key)), ls.Nodup → (∀ x, x ∈ ls ↔ x ∈ ms.map (·.2)) → ls.length ≤ ms.length → H a = none → Q (.ref a) (upd H a (SzO a ls.length))
theorem call_setMy (hc : X.calm = true) (hu : X.A.units + 64 < cLine) : CallR X (.type "set") (rSetMy X.K) := by
  intro pins s σ H xs us Q I r ⟨l, ms, ex, hl, hm, few, q⟩
  subst ex
  rw [Vals.ref1 r]
  obtain ⟨its, rv, tp, _⟩ := I.tuple hl
  have ei := refs_at rv
  have hn : H s.heap.objs.size = none := I.hok.fresh (Nat.le_refl _)
  have base : ∀ m ∈ ms, Ky X.prog X.w s.heap m.2 m.1 := fun m hmm => by
    obtain ⟨ys, ry, ⟨o, ho, hcl, n, hd⟩, _⟩ := I.tuple (hm m hmm)
    exact ⟨o, ys.toArray, n, ho, hcl, hd, by simpa using items_mix ry⟩
  have sz : its.toArray.size = ms.length := by rw [ei]; simp
  refine set_tuple (fun i h => ∃ L es ep t, MxS X.prog X.w h s.heap.objs.size L es ep t ∧ (∀ m ∈ L, m ∈ ms.take i) ∧ (∀ m ∈ ms.take i, m.2 ∈ L.map (·.2)) ∧ L.length ≤ i) (I.ok.hd hc) tp (show X.A.units + 3 < cLine by omega) ⟨?_⟩ ⟨?_⟩ ⟨?_, ?_⟩
  · rintro i h h' ⟨L, es, ep, t, R, sub, sup, len⟩ k kp
    exact ⟨L, es, ep, t, R.keep k fun m hmm => ky_keep (base m (List.mem_of_mem_take (sub m hmm))) kp, sub, sup, len⟩
  · rintro i v A E s1 Q1 hv un ⟨L, es, ep, t, R, sub, sup, len⟩ kp q1
    obtain ⟨m, em, ev⟩ : ∃ m, ms[i]? = some m ∧ v = .ref m.1 := by
      have z : its.toArray[i]? = some v := hv
      rw [ei] at z
      simp only [List.getElem?_toArray, List.getElem?_map, Option.map_eq_some_iff] at z
      obtain ⟨m, e1, e2⟩ := z
      exact ⟨m, e1, e2.symm⟩
    subst ev
    have il := (List.getElem?_eq_some_iff.mp em).1
    have hx := ky_keep (base m (List.mem_of_getElem? em)) kp
    unfold setAdd
    refine wpAny_holding (wpAny_bind (wpAny_pyHash_tuple un hx ?_))
    by_cases old : ∃ m2 ∈ L, m2.2 = m.2
    · refine MxS.same (s := { s1 with toks := s1.toks + (m.2.length + 1) }) R hx un old ?_
      refine q1 false s1.heap _ (Heap.SameBut.refl _ _) (Nat.le_add_right _ _) ⟨L, es, ep, t, R, fun m2 h2 => ?_, fun m2 h2 => ?_, by omega⟩
      · rw [List.take_add_one]; exact List.mem_append_left _ (sub m2 h2)
      · rw [List.take_add_one, em] at h2
        rcases List.mem_append.mp h2 with h2 | h2
        · exact sup m2 h2
        · have : m2 = m := by simpa using h2
          subst this
          obtain ⟨m3, h3, e3⟩ := old
          exact List.mem_map.mpr ⟨m3, h3, e3⟩
    · have new : ∀ m2 ∈ L, m2.2 ≠ m.2 := fun m2 h2 e => old ⟨m2, h2, e⟩
      refine MxS.add (s := { s1 with toks := s1.toks + (m.2.length + 1) }) R hx un new (by omega) fun b h' L' es' ep' t' same R' pm => q1 b h' _ same (Nat.le_add_right _ _) ⟨L', es', ep', t', R', fun m2 h2 => ?_, fun m2 h2 => ?_, by rw [pm.length_eq, List.length_cons]; omega⟩
      · rw [List.take_add_one, em]
        rcases List.mem_cons.mp (pm.mem_iff.mp h2) with e | z
        · subst e; exact List.mem_append_right _ (by simp)
        · exact List.mem_append_left _ (sub m2 z)
      · rw [(pm.map (·.2)).mem_iff]
        rw [List.take_add_one, em] at h2
        rcases List.mem_append.mp h2 with h2 | h2
        · exact List.mem_cons_of_mem _ (sup m2 h2)
        · have : m2 = m := by simpa using h2
          subst this
          exact List.mem_cons_self
  · intro h' e
    exact ⟨[], #[], 0, _, .fresh e, fun m z => absurd z (by simp), fun m z => absurd z (by simp), Nat.le_refl _⟩
  · rintro h' tk ⟨L, es, ep, t, R, sub, sup, len⟩ kp
    rw [sz] at sub sup len
    rw [List.take_length] at sup
    obtain ⟨o, ho, hex, hd⟩ := R.ob
    have n1 : es.size = (L.map (·.2)).length := by rw [mrows_len R.en, List.length_map]
    refine ⟨.ref _, _, I.laid (a := s.heap.objs.size) (o := SzO s.heap.objs.size (L.map (·.2)).length) (t' := tk) kp (Nat.le_refl _) ⟨⟨o, es, ep, t, ho, hex, hd, MxS.fits (s := { s with heap := h' }) R, n1⟩, ⟨o, ho⟩, fun h1 h2 ⟨o, es, ep, t, r1, r⟩ k => ⟨o, es, ep, t, k o r1, r⟩⟩, rfl, q _ (L.map (·.2)) R.nd (fun x => ⟨fun z => ?_, fun z => ?_⟩) (by rw [List.length_map]; exact len) hn⟩
    · obtain ⟨m, hm1, e⟩ := List.mem_map.mp z
      exact List.mem_map.mpr ⟨m, List.mem_of_mem_take (sub m hm1), e⟩
    · obtain ⟨m, hm1, e⟩ := List.mem_map.mp z
      rw [← e]; exact sup m hm1
def rLenTx (P : Program) (w : World) : List V → Hp → VK → Prop := fun xs H Q => ∃ (a : Addr) (l : List Str), xs = [.ref a] ∧ H a = some (TxO P w a l) ∧ l.length < 64 ∧ (l.Nodup → Q (.int l.length) H)
theorem call_lenTx : CallR X (.builtin "len") (rLenTx X.prog X.w) := by
  intro pins s σ H xs us Q I r ⟨a, l, ex, ha, few, q⟩
  subst ex
  rw [Vals.ref1 r]
  have R := txO_get I ha
  obtain ⟨D, ho, F, _⟩ := R.ex
  have e := F.sz
  exact call_len_set ho ⟨rfl, rfl, rfl⟩ rfl F.fit (by rw [e]; omega) ⟨.int l.length, H, I.tok _, ⟨_, by rw [e]⟩, q R.nd⟩
end
def dLenSetW (te : TD) : TD := fun ρ c Φ => te ρ c fun d c1 => ∃ ks : List (List Key), d = .tup (ks.map keyD) ∧ ks.length < 64 ∧ ∀ ls : List (List Key), ls.Nodup → (∀ x, x ∈ ls ↔ x ∈ ks) → Φ (.int ls.length) c1
def dLenTx (te : TD) : TD := fun ρ c Φ => te ρ c fun d c1 => ∃ ys : List Str, d = .lst (ys.map .str) ∧ ys.length < 64 ∧ ∀ zs : List Str, zs.Nodup → (∀ x, x ∈ zs ↔ x ∈ ys) → Φ (.int zs.length) c1
section
variable {X : Cx} {e : Expr} {te : TD} {pos pp p1 p2 : Pos}
theorem pd_lenSetW (hu : X.A.units + 64 < cLine) (hc : X.calm = true) (he : PD X e te) (hm : X.mg "len" = none) (hm2 : X.mg "set" = none) (hg : Gl X "len" := by rfl) (hg2 : Gl X "set" := by rfl)
    (h1 : starEach [e] X.env = (false, eval e X.env) :: starEach [] X.env := by rfl) (h2 : (backTo p1 (starEach [] X.env)).any (·.1) = false := by rfl)
    (h3 : starEach [.Call (.Name "set" p2) [e] [] p1] X.env = (false, eval (.Call (.Name "set" p2) [e] [] p1) X.env) :: starEach [] X.env := by rfl) (h4 : (backTo pos (starEach [] X.env)).any (·.1) = false := by rfl) :
    PD X (.Call (.Name "len" pp) [.Call (.Name "set" p2) [e] [] p1] [] pos) (dLenSetW te) :=
  PE.imp (pe_callB call_lenSz hg hm boot_len (pa_cons (pe_callTy (call_setMy hc hu) hg2 hm2 boot_set (pa_cons he pa_nil h1) (by decide) (by decide) h1 h2) pa_nil h3) (by decide) (by decide) h3 h4) fun σ H Q ⟨m, ρ, c, Φ, S, h, q⟩ =>
    ⟨m, ρ, c, _, S, h, fun d c1 u H1 m1 ⟨ks, ed, few, hΦ⟩ C1 R1 L1 => by
      subst ed
      obtain ⟨l, xs, eu, s1, s2⟩ := R1
      obtain ⟨ms, e1, e2, e3⟩ := rl_rows s2
      subst eu e1 e2
      rw [List.length_map] at few
      exact ⟨l, ms, rfl, ex_t (ex_hid m1 H1) s1, fun k hk => ex_t (ex_hid m1 H1) (e3 k hk), few, fun a ls nd mem len ha => ⟨a, ls.length, rfl, upd_same, by omega, q _ c1 _ _ m1 (hΦ ls nd mem) (C1.new ha) rfl (L1.trans (Le.new ha C1))⟩⟩⟩
theorem pd_lenTx (hu : X.A.units + 64 < cLine) (hc : X.calm = true) (he : PD X e te) (hm : X.mg "len" = none) (hm2 : X.mg "set" = none) (hg : Gl X "len" := by rfl) (hg2 : Gl X "set" := by rfl)
    (h1 : starEach [e] X.env = (false, eval e X.env) :: starEach [] X.env := by rfl) (h2 : (backTo p1 (starEach [] X.env)).any (·.1) = false := by rfl)
    (h3 : starEach [.Call (.Name "set" p2) [e] [] p1] X.env = (false, eval (.Call (.Name "set" p2) [e] [] p1) X.env) :: starEach [] X.env := by rfl) (h4 : (backTo pos (starEach [] X.env)).any (·.1) = false := by rfl) :
    PD X (.Call (.Name "len" pp) [.Call (.Name "set" p2) [e] [] p1] [] pos) (dLenTx te) :=
  PE.imp (pe_callB call_lenTx hg hm boot_len (pa_cons (pe_callTy (call_setTx hc hu) hg2 hm2 boot_set (pa_cons he pa_nil h1) (by decide) (by decide) h1 h2) pa_nil h3) (by decide) (by decide) h3 h4) fun σ H Q ⟨m, ρ, c, Φ, S, h, q⟩ =>
    ⟨m, ρ, c, _, S, h, fun d c1 u H1 m1 ⟨ys, ed, few, hΦ⟩ C1 R1 L1 => by
      subst ed
      obtain ⟨l, xs, eu, s1, s2⟩ := R1
      have ex : xs = ys.map .str := txts_eq s2
      subst eu ex
      exact ⟨l, ys, rfl, .inl (.inl (ex_hid m1 H1 _ _ s1)), few, fun a z mz ml ha => ⟨a, z, rfl, upd_same, by omega, fun nd => by
        have C2 := C1.new (o := TxO X.prog X.w a z) ha
        exact q _ c1 _ _ m1 (hΦ z nd mz) C2 rfl (L1.trans (Le.new (o := TxO X.prog X.w a z) ha C1))⟩⟩⟩
end
/-- two lists without doubles with the same members are as long -/
theorem keys_sub {α : Type} [DecidableEq α] : ∀ {l ks : List α}, l.Nodup → (∀ x ∈ l, x ∈ ks) → l.length ≤ ks.length
  | [], _, _, _ => Nat.zero_le _
  | x :: l, ks, nd, h => by
    have hx := h x List.mem_cons_self
    have n2 := List.nodup_cons.mp nd
    have := keys_sub (l := l) (ks := ks.erase x) n2.2 fun y hy => (List.mem_erase_of_ne (fun (z : y = x) => n2.1 (by rw [← z]; exact hy))).mpr (h y (List.mem_cons_of_mem _ hy))
    rw [List.length_erase_of_mem hx] at this
    have : 0 < ks.length := List.length_pos_of_mem hx
    show l.length + 1 ≤ _
    omega
theorem twice_short {α : Type} [DecidableEq α] : ∀ {ks : List α}, ¬ ks.Nodup → ∃ ls : List α, ls.length < ks.length ∧ ∀ x ∈ ks, x ∈ ls
  | [], h => absurd List.nodup_nil h
  | k :: ks, h => by
    by_cases hk : k ∈ ks
    · exact ⟨ks, Nat.lt_succ_self _, fun x hx => by
        rcases List.mem_cons.mp hx with e | hx
        · rw [e]; exact hk
        · exact hx⟩
    · obtain ⟨ls, h1, h2⟩ := twice_short fun z => h (List.nodup_cons.mpr ⟨hk, z⟩)
      exact ⟨k :: ls, Nat.succ_lt_succ h1, fun x hx => by
        rcases List.mem_cons.mp hx with e | hx
        · rw [e]; exact List.mem_cons_self
        · exact List.mem_cons_of_mem _ (h2 x hx)⟩
theorem len_nodup {α : Type} [DecidableEq α] {ls ks : List α} (nd : ls.Nodup) (mem : ∀ x, x ∈ ls ↔ x ∈ ks) : (ls.length = ks.length ↔ ks.Nodup) := by
  constructor
  · intro e
    by_cases h : ks.Nodup
    · exact h
    · obtain ⟨l2, h1, h2⟩ := twice_short h
      have := keys_sub nd fun x hx => h2 x ((mem x).mp hx)
      omega
  · intro h
    have h1 := keys_sub nd fun x hx => (mem x).mp hx
    have h2 := keys_sub h fun x hx => (mem x).mpr hx
    omega
end Cw

namespace K03
open PySem PySem.Spec PyProof.Rows L2 Cw
def topS (i : Nat) : Stmt := PySem.Challenge.pw_cornerways_k03_texts_of_border_books.main.body.getD i (.Pass ⟨0, 0, 0, 0⟩)
abbrev st_is_letters : Stmt := topS 31
theorem sc_is_letters : FnScope ["text", "most", "sign"] ["text", "most"] (defScope st_is_letters) := ⟨rfl, rfl, rfl, by decide +kernel, rfl, by decide +kernel, by decide +kernel⟩
abbrev st_is_word : Stmt := topS 32
theorem sc_is_word : FnScope ["value"] ["value"] (defScope st_is_word) := ⟨rfl, rfl, rfl, by decide +kernel, rfl, by decide +kernel, by decide +kernel⟩
abbrev st_number_of : Stmt := topS 33
theorem sc_number_of : FnScope ["text", "least", "most"] ["text", "least", "most"] (defScope st_number_of) := ⟨rfl, rfl, rfl, by decide +kernel, rfl, by decide +kernel, by decide +kernel⟩
abbrev st_signs_of : Stmt := topS 41
theorem sc_signs_of : FnScope ["line", "words"] ["line"] (defScope st_signs_of) := ⟨rfl, rfl, rfl, by decide +kernel, rfl, by decide +kernel, by decide +kernel⟩
abbrev st_states_of : Stmt := topS 42
theorem sc_states_of : FnScope ["signs", "phase", "way"] ["signs"] (defScope st_states_of) := ⟨rfl, rfl, rfl, by decide +kernel, rfl, by decide +kernel, by decide +kernel⟩
abbrev st_piece_of : Stmt := topS 43
theorem sc_piece_of : FnScope ["line", "states", "words", "name", "begin", "end", "length", "cost"] ["line", "states"] (defScope st_piece_of) := ⟨rfl, rfl, rfl, by decide +kernel, rfl, by decide +kernel, by decide +kernel⟩
abbrev st_corner_of : Stmt := topS 44
theorem sc_corner_of : FnScope ["line", "states", "words", "name", "turn", "begin", "end", "cost"] ["line", "states"] (defScope st_corner_of) := ⟨rfl, rfl, rfl, by decide +kernel, rfl, by decide +kernel, by decide +kernel⟩
abbrev st_names_of : Stmt := topS 45
theorem sc_names_of : FnScope ["rows", "row"] ["rows"] (defScope st_names_of) := ⟨rfl, rfl, rfl, by decide +kernel, rfl, by decide +kernel, by decide +kernel⟩
abbrev st_pieces_fit : Stmt := topS 46
theorem sc_pieces_fit : FnScope ["pieces"] ["pieces"] (defScope st_pieces_fit) := ⟨rfl, rfl, rfl, by decide +kernel, rfl, by decide +kernel, by decide +kernel⟩
abbrev st_corners_fit : Stmt := topS 47
theorem sc_corners_fit : FnScope ["corners"] ["corners"] (defScope st_corners_fit) := ⟨rfl, rfl, rfl, by decide +kernel, rfl, by decide +kernel, by decide +kernel⟩
abbrev st_parts_of : Stmt := topS 48
theorem sc_parts_of : FnScope ["text", "lines", "signs", "states", "behind", "pieces", "corners", "line"] ["text"] (defScope st_parts_of) := ⟨rfl, rfl, rfl, by decide +kernel, rfl, by decide +kernel, by decide +kernel⟩
abbrev st__law_spring : Stmt := topS 51
theorem sc__law_spring : FnScope ["_law_cells", "_law_at", "_law_own", "_law_mixed", "_law_cell"] ["_law_cells", "_law_at"] (defScope st__law_spring) := ⟨rfl, rfl, rfl, by decide +kernel, rfl, by decide +kernel, by decide +kernel⟩
abbrev st__law_take : Stmt := topS 52
theorem sc__law_take : FnScope ["_law_spring_here", "_law_much", "_law_here", "_law_factor", "_law_figure"] ["_law_spring_here", "_law_much"] (defScope st__law_take) := ⟨rfl, rfl, rfl, by decide +kernel, rfl, by decide +kernel, by decide +kernel⟩
abbrev st__law_word : Stmt := topS 53
theorem sc__law_word : FnScope ["_law_spring_here", "_law_some", "_law_small", "_law_k"] ["_law_spring_here"] (defScope st__law_word) := ⟨rfl, rfl, rfl, by decide +kernel, rfl, by decide +kernel, by decide +kernel⟩
abbrev st__law_words : Stmt := topS 54
theorem sc__law_words : FnScope ["_law_spring_here", "_law_much", "_law_found", "_law_turn", "_law_word_here"] ["_law_spring_here", "_law_much"] (defScope st__law_words) := ⟨rfl, rfl, rfl, by decide +kernel, rfl, by decide +kernel, by decide +kernel⟩
abbrev st__law_state : Stmt := topS 55
theorem sc__law_state : FnScope ["_law_spring_here", "_law_period"] ["_law_spring_here", "_law_period"] (defScope st__law_state) := ⟨rfl, rfl, rfl, by decide +kernel, rfl, by decide +kernel, by decide +kernel⟩
abbrev st__law_piece : Stmt := topS 56
theorem sc__law_piece : FnScope ["_law_spring_here", "_law_title", "_law_period", "_law_near", "_law_far"] ["_law_spring_here", "_law_title", "_law_period"] (defScope st__law_piece) := ⟨rfl, rfl, rfl, by decide +kernel, rfl, by decide +kernel, by decide +kernel⟩
abbrev st__law_joint : Stmt := topS 57
theorem sc__law_joint : FnScope ["_law_spring_here", "_law_title", "_law_period", "_law_bend", "_law_near", "_law_far"] ["_law_spring_here", "_law_title", "_law_period"] (defScope st__law_joint) := ⟨rfl, rfl, rfl, by decide +kernel, rfl, by decide +kernel, by decide +kernel⟩
abbrev st__law_spec : Stmt := topS 58
theorem sc__law_spec : FnScope ["_law_spring_here", "_law_small", "_law_period", "_law_reach", "_law_marks", "_law_parts", "_law_pool", "_law_joints", "_law_k", "_law_row", "_law_title"] ["_law_spring_here"] (defScope st__law_spec) := ⟨rfl, rfl, rfl, by decide +kernel, rfl, by decide +kernel, by decide +kernel⟩
abbrev st__law_piece_row : Stmt := topS 59
theorem sc__law_piece_row : FnScope ["_law_part", "_law_title", "_law_near", "_law_far", "_law_span", "_law_dear"] ["_law_part"] (defScope st__law_piece_row) := ⟨rfl, rfl, rfl, by decide +kernel, rfl, by decide +kernel, by decide +kernel⟩
abbrev st__law_joint_row : Stmt := topS 60
theorem sc__law_joint_row : FnScope ["_law_joint_here", "_law_title", "_law_bend", "_law_near", "_law_far", "_law_dear"] ["_law_joint_here"] (defScope st__law_joint_row) := ⟨rfl, rfl, rfl, by decide +kernel, rfl, by decide +kernel, by decide +kernel⟩
abbrev st__law_rows : Stmt := topS 61
theorem sc__law_rows : FnScope ["_law_spec_here", "_law_found", "_law_part", "_law_joint_here"] ["_law_spec_here"] (defScope st__law_rows) := ⟨rfl, rfl, rfl, by decide +kernel, rfl, by decide +kernel, by decide +kernel⟩
abbrev st__law_joined : Stmt := topS 62
theorem sc__law_joined : FnScope ["_law_spec_here"] ["_law_spec_here"] (defScope st__law_joined) := ⟨rfl, rfl, rfl, by decide +kernel, rfl, by decide +kernel, by decide +kernel⟩
abbrev st__law_states : Stmt := topS 63
theorem sc__law_states : FnScope ["_law_spec_here", "_law_found", "_law_k"] ["_law_spec_here"] (defScope st__law_states) := ⟨rfl, rfl, rfl, by decide +kernel, rfl, by decide +kernel, by decide +kernel⟩
abbrev st__law_due : Stmt := topS 64
theorem sc__law_due : FnScope ["_law_spec_here", "_law_titles_here", "_law_thing", "_law_joint_here"] ["_law_spec_here"] (defScope st__law_due) := ⟨rfl, rfl, rfl, by decide +kernel, rfl, by decide +kernel, by decide +kernel⟩
abbrev st__law_seen : Stmt := topS 65
theorem sc__law_seen : FnScope ["_law_mine"] ["_law_mine"] (defScope st__law_seen) := ⟨rfl, rfl, rfl, by decide +kernel, rfl, by decide +kernel, by decide +kernel⟩
abbrev st__law_sort : Stmt := topS 66
theorem sc__law_sort : FnScope ["_law_e", "_law_fits", "_law_at", "_law_bases", "_law_roots"] ["_law_e"] (defScope st__law_sort) := ⟨rfl, rfl, rfl, by decide +kernel, rfl, by decide +kernel, by decide +kernel⟩
abbrev st__law_told : Stmt := topS 67
theorem sc__law_told : FnScope ["_law_e", "_law_word_here"] ["_law_e", "_law_word_here"] (defScope st__law_told) := ⟨rfl, rfl, rfl, by decide +kernel, rfl, by decide +kernel, by decide +kernel⟩
abbrev st__law_caught : Stmt := topS 68
theorem sc__law_caught : FnScope ["_law_act", "_law_found", "_law_e", "_law_word_here"] ["_law_act"] (defScope st__law_caught) := ⟨rfl, rfl, rfl, by decide +kernel, rfl, by decide +kernel, by decide +kernel⟩
abbrev st__law_is_word : Stmt := topS 69
theorem sc__law_is_word : FnScope ["_law_thing", "_law_sign"] ["_law_thing"] (defScope st__law_is_word) := ⟨rfl, rfl, rfl, by decide +kernel, rfl, by decide +kernel, by decide +kernel⟩
abbrev st__law_digit : Stmt := topS 70
theorem sc__law_digit : FnScope ["_law_word_here", "_law_least_here", "_law_most_here"] ["_law_word_here", "_law_least_here", "_law_most_here"] (defScope st__law_digit) := ⟨rfl, rfl, rfl, by decide +kernel, rfl, by decide +kernel, by decide +kernel⟩
abbrev st__law_is_state : Stmt := topS 71
theorem sc__law_is_state : FnScope ["_law_word_here", "_law_period"] ["_law_word_here", "_law_period"] (defScope st__law_is_state) := ⟨rfl, rfl, rfl, by decide +kernel, rfl, by decide +kernel, by decide +kernel⟩
abbrev st__law_read_row : Stmt := topS 72
theorem sc__law_read_row : FnScope ["_law_row", "_law_period", "_law_words_here", "_law_dear", "_law_span"] ["_law_row", "_law_period"] (defScope st__law_read_row) := ⟨rfl, rfl, rfl, by decide +kernel, rfl, by decide +kernel, by decide +kernel⟩
abbrev st__law_read : Stmt := topS 73
theorem sc__law_read : FnScope ["_law_thing", "_law_rows_here", "_law_head", "_law_parts", "_law_joints", "_law_row", "_law_found", "_law_part", "_law_joint_here"] ["_law_thing"] (defScope st__law_read) := ⟨rfl, rfl, rfl, by decide +kernel, rfl, by decide +kernel, by decide +kernel⟩
abbrev st__law_bent : Stmt := topS 74
theorem sc__law_bent : FnScope ["_law_spring_here", "_law_thing", "_law_signs_here", "_law_way", "_law_at", "_law_sign", "_law_rows_here", "_law_here", "_law_there", "_law_words_here", "_law_some"] ["_law_spring_here", "_law_thing"] (defScope st__law_bent) := ⟨rfl, rfl, rfl, by decide +kernel, rfl, by decide +kernel, by decide +kernel⟩
abbrev st__law_sorts : Stmt := topS 75
theorem sc__law_sorts : FnScope ["_law_found"] [] (defScope st__law_sorts) := ⟨rfl, rfl, rfl, by decide +kernel, rfl, by decide +kernel, by decide +kernel⟩
abbrev st__law_other_kind : Stmt := topS 76
theorem sc__law_other_kind : FnScope ["_law_spring_here", "_law_thing", "_law_some"] ["_law_spring_here", "_law_thing"] (defScope st__law_other_kind) := ⟨rfl, rfl, rfl, by decide +kernel, rfl, by decide +kernel, by decide +kernel⟩
abbrev st__law_over : Stmt := topS 77
theorem sc__law_over : FnScope ["_law_spring_here", "_law_marks", "_law_period", "_law_pool", "_law_found", "_law_k", "_law_title"] ["_law_spring_here"] (defScope st__law_over) := ⟨rfl, rfl, rfl, by decide +kernel, rfl, by decide +kernel, by decide +kernel⟩
abbrev st__law_right : Stmt := topS 78
theorem sc__law_right : FnScope ["_law_spring_here", "_law_thing", "_law_turn", "_law_found", "_law_wanted", "_law_told_here", "_law_strange"] ["_law_spring_here"] (defScope st__law_right) := ⟨rfl, rfl, rfl, by decide +kernel, rfl, by decide +kernel, by decide +kernel⟩
abbrev st__law_all_right : Stmt := topS 79
theorem sc__law_all_right : FnScope ["_law_spring_here", "_law_turn"] ["_law_spring_here"] (defScope st__law_all_right) := ⟨rfl, rfl, rfl, by decide +kernel, rfl, by decide +kernel, by decide +kernel⟩
abbrev st_law : Stmt := topS 80
theorem sc_law : FnScope ["_law_cells", "_law_at"] ["_law_cells"] (defScope st_law) := ⟨rfl, rfl, rfl, by decide +kernel, rfl, by decide +kernel, by decide +kernel⟩
abbrev st_Borders___init__ : Stmt := inClass (topS 49) 0
theorem sc_Borders___init__ : FnScope ["self", "text", "parts"] ["self", "text"] (defScope st_Borders___init__) := ⟨rfl, rfl, rfl, by decide +kernel, rfl, by decide +kernel, by decide +kernel⟩
abbrev st_Borders_text : Stmt := inClass (topS 49) 1
theorem sc_Borders_text : FnScope ["self"] ["self"] (defScope st_Borders_text) := ⟨rfl, rfl, rfl, by decide +kernel, rfl, by decide +kernel, by decide +kernel⟩
abbrev st_Borders_signs : Stmt := inClass (topS 49) 2
theorem sc_Borders_signs : FnScope ["self"] ["self"] (defScope st_Borders_signs) := ⟨rfl, rfl, rfl, by decide +kernel, rfl, by decide +kernel, by decide +kernel⟩
abbrev st_Borders_states : Stmt := inClass (topS 49) 3
theorem sc_Borders_states : FnScope ["self"] ["self"] (defScope st_Borders_states) := ⟨rfl, rfl, rfl, by decide +kernel, rfl, by decide +kernel, by decide +kernel⟩
abbrev st_Borders_pieces : Stmt := inClass (topS 49) 4
theorem sc_Borders_pieces : FnScope ["self"] ["self"] (defScope st_Borders_pieces) := ⟨rfl, rfl, rfl, by decide +kernel, rfl, by decide +kernel, by decide +kernel⟩
abbrev st_Borders_corners : Stmt := inClass (topS 49) 5
theorem sc_Borders_corners : FnScope ["self"] ["self"] (defScope st_Borders_corners) := ⟨rfl, rfl, rfl, by decide +kernel, rfl, by decide +kernel, by decide +kernel⟩
abbrev st_Borders_names : Stmt := inClass (topS 49) 6
theorem sc_Borders_names : FnScope ["self"] ["self"] (defScope st_Borders_names) := ⟨rfl, rfl, rfl, by decide +kernel, rfl, by decide +kernel, by decide +kernel⟩
abbrev st_Borders___eq__ : Stmt := inClass (topS 49) 9
abbrev st_Borders___str__ : Stmt := inClass (topS 49) 10
theorem sc_Borders___str__ : FnScope ["self"] ["self"] (defScope st_Borders___str__) := ⟨rfl, rfl, rfl, by decide +kernel, rfl, by decide +kernel, by decide +kernel⟩
abbrev stI_InvalidText : Stmt := inClass (topS 3) 0
theorem scI_InvalidText : FnScope ["self", "given"] ["self", "given"] (defScope stI_InvalidText) := ⟨rfl, rfl, rfl, by decide +kernel, rfl, by decide +kernel, by decide +kernel⟩
def gOwn (C : Addr) : Ty → Option Bool
  | .ins D => if D = C then some true else none
  | _ => some false
structure Tx (K : PySem.W.Frag) (mg : Str → Option Value) where
  n_ValueError : mg "ValueError" = none
  n_LookupError : mg "LookupError" = none
  n_ArithmeticError : mg "ArithmeticError" = none
  n_all : mg "all" = none
  n_len : mg "len" = none
  n_isinstance : mg "isinstance" = none
  n_str : mg "str" = none
  n_int : mg "int" = none
  n_tuple : mg "tuple" = none
  n_range : mg "range" = none
  n_sorted : mg "sorted" = none
  n_set : mg "set" = none
  n_abs : mg "abs" = none
  n_divmod : mg "divmod" = none
  n_min : mg "min" = none
  n_repr : mg "repr" = none
  n_max : mg "max" = none
  c_LETTERS : ∃ t, mg "LETTERS" = some (.str "abcdefghijklmnopqrstuvwxyz" t)
  c_DIGITS : ∃ t, mg "DIGITS" = some (.str "0123456789" t)
  c_LONGEST_WORD : ∃ t, mg "LONGEST_WORD" = some (.int 8 t)
  c_MOST_SIGNS : ∃ t, mg "MOST_SIGNS" = some (.int 5 t)
  c_MOST_PIECES : ∃ t, mg "MOST_PIECES" = some (.int 8 t)
  c_MOST_CORNERS : ∃ t, mg "MOST_CORNERS" = some (.int 12 t)
  c_MOST_NAMES : ∃ t, mg "MOST_NAMES" = some (.int 4 t)
  c_MOST_LONG : ∃ t, mg "MOST_LONG" = some (.int 6 t)
  c_MOST_COST : ∃ t, mg "MOST_COST" = some (.int 9 t)
  c_TURNS : TupK K mg "TURNS" ["out", "in"]
  a_is_letters : Addr
  d_is_letters : FuncData
  F_is_letters : Fun K "is_letters" "is_letters" st_is_letters a_is_letters d_is_letters
  g_is_letters : mg "is_letters" = some (.ref a_is_letters)
  b_is_letters : Binds K d_is_letters ["text", "most"] []
  a_is_word : Addr
  d_is_word : FuncData
  F_is_word : Fun K "is_word" "is_word" st_is_word a_is_word d_is_word
  g_is_word : mg "is_word" = some (.ref a_is_word)
  b_is_word : Binds K d_is_word ["value"] []
  a_number_of : Addr
  d_number_of : FuncData
  F_number_of : Fun K "number_of" "number_of" st_number_of a_number_of d_number_of
  g_number_of : mg "number_of" = some (.ref a_number_of)
  b_number_of : Binds K d_number_of ["text", "least", "most"] []
  a_signs_of : Addr
  d_signs_of : FuncData
  F_signs_of : Fun K "signs_of" "signs_of" st_signs_of a_signs_of d_signs_of
  g_signs_of : mg "signs_of" = some (.ref a_signs_of)
  b_signs_of : Binds K d_signs_of ["line"] []
  a_states_of : Addr
  d_states_of : FuncData
  F_states_of : Fun K "states_of" "states_of" st_states_of a_states_of d_states_of
  g_states_of : mg "states_of" = some (.ref a_states_of)
  b_states_of : Binds K d_states_of ["signs"] []
  a_piece_of : Addr
  d_piece_of : FuncData
  F_piece_of : Fun K "piece_of" "piece_of" st_piece_of a_piece_of d_piece_of
  g_piece_of : mg "piece_of" = some (.ref a_piece_of)
  b_piece_of : Binds K d_piece_of ["line", "states"] []
  a_corner_of : Addr
  d_corner_of : FuncData
  F_corner_of : Fun K "corner_of" "corner_of" st_corner_of a_corner_of d_corner_of
  g_corner_of : mg "corner_of" = some (.ref a_corner_of)
  b_corner_of : Binds K d_corner_of ["line", "states"] []
  a_names_of : Addr
  d_names_of : FuncData
  F_names_of : Fun K "names_of" "names_of" st_names_of a_names_of d_names_of
  g_names_of : mg "names_of" = some (.ref a_names_of)
  b_names_of : Binds K d_names_of ["rows"] []
  a_pieces_fit : Addr
  d_pieces_fit : FuncData
  F_pieces_fit : Fun K "pieces_fit" "pieces_fit" st_pieces_fit a_pieces_fit d_pieces_fit
  g_pieces_fit : mg "pieces_fit" = some (.ref a_pieces_fit)
  b_pieces_fit : Binds K d_pieces_fit ["pieces"] []
  a_corners_fit : Addr
  d_corners_fit : FuncData
  F_corners_fit : Fun K "corners_fit" "corners_fit" st_corners_fit a_corners_fit d_corners_fit
  g_corners_fit : mg "corners_fit" = some (.ref a_corners_fit)
  b_corners_fit : Binds K d_corners_fit ["corners"] []
  a_parts_of : Addr
  d_parts_of : FuncData
  F_parts_of : Fun K "parts_of" "parts_of" st_parts_of a_parts_of d_parts_of
  g_parts_of : mg "parts_of" = some (.ref a_parts_of)
  b_parts_of : Binds K d_parts_of ["text"] []
  a__law_spring : Addr
  d__law_spring : FuncData
  F__law_spring : Fun K "_law_spring" "_law_spring" st__law_spring a__law_spring d__law_spring
  g__law_spring : mg "_law_spring" = some (.ref a__law_spring)
  b__law_spring : Binds K d__law_spring ["_law_cells", "_law_at"] []
  a__law_take : Addr
  d__law_take : FuncData
  F__law_take : Fun K "_law_take" "_law_take" st__law_take a__law_take d__law_take
  g__law_take : mg "_law_take" = some (.ref a__law_take)
  b__law_take : Binds K d__law_take ["_law_spring_here", "_law_much"] []
  a__law_word : Addr
  d__law_word : FuncData
  F__law_word : Fun K "_law_word" "_law_word" st__law_word a__law_word d__law_word
  g__law_word : mg "_law_word" = some (.ref a__law_word)
  b__law_word : Binds K d__law_word ["_law_spring_here"] []
  a__law_words : Addr
  d__law_words : FuncData
  F__law_words : Fun K "_law_words" "_law_words" st__law_words a__law_words d__law_words
  g__law_words : mg "_law_words" = some (.ref a__law_words)
  b__law_words : Binds K d__law_words ["_law_spring_here", "_law_much"] []
  a__law_state : Addr
  d__law_state : FuncData
  F__law_state : Fun K "_law_state" "_law_state" st__law_state a__law_state d__law_state
  g__law_state : mg "_law_state" = some (.ref a__law_state)
  b__law_state : Binds K d__law_state ["_law_spring_here", "_law_period"] []
  a__law_piece : Addr
  d__law_piece : FuncData
  F__law_piece : Fun K "_law_piece" "_law_piece" st__law_piece a__law_piece d__law_piece
  g__law_piece : mg "_law_piece" = some (.ref a__law_piece)
  b__law_piece : Binds K d__law_piece ["_law_spring_here", "_law_title", "_law_period"] []
  a__law_joint : Addr
  d__law_joint : FuncData
  F__law_joint : Fun K "_law_joint" "_law_joint" st__law_joint a__law_joint d__law_joint
  g__law_joint : mg "_law_joint" = some (.ref a__law_joint)
  b__law_joint : Binds K d__law_joint ["_law_spring_here", "_law_title", "_law_period"] []
  a__law_spec : Addr
  d__law_spec : FuncData
  F__law_spec : Fun K "_law_spec" "_law_spec" st__law_spec a__law_spec d__law_spec
  g__law_spec : mg "_law_spec" = some (.ref a__law_spec)
  b__law_spec : Binds K d__law_spec ["_law_spring_here"] []
  a__law_piece_row : Addr
  d__law_piece_row : FuncData
  F__law_piece_row : Fun K "_law_piece_row" "_law_piece_row" st__law_piece_row a__law_piece_row d__law_piece_row
  g__law_piece_row : mg "_law_piece_row" = some (.ref a__law_piece_row)
  b__law_piece_row : Binds K d__law_piece_row ["_law_part"] []
  a__law_joint_row : Addr
  d__law_joint_row : FuncData
  F__law_joint_row : Fun K "_law_joint_row" "_law_joint_row" st__law_joint_row a__law_joint_row d__law_joint_row
  g__law_joint_row : mg "_law_joint_row" = some (.ref a__law_joint_row)
  b__law_joint_row : Binds K d__law_joint_row ["_law_joint_here"] []
  a__law_rows : Addr
  d__law_rows : FuncData
  F__law_rows : Fun K "_law_rows" "_law_rows" st__law_rows a__law_rows d__law_rows
  g__law_rows : mg "_law_rows" = some (.ref a__law_rows)
  b__law_rows : Binds K d__law_rows ["_law_spec_here"] []
  a__law_joined : Addr
  d__law_joined : FuncData
  F__law_joined : Fun K "_law_joined" "_law_joined" st__law_joined a__law_joined d__law_joined
  g__law_joined : mg "_law_joined" = some (.ref a__law_joined)
  b__law_joined : Binds K d__law_joined ["_law_spec_here"] []
  a__law_states : Addr
  d__law_states : FuncData
  F__law_states : Fun K "_law_states" "_law_states" st__law_states a__law_states d__law_states
  g__law_states : mg "_law_states" = some (.ref a__law_states)
  b__law_states : Binds K d__law_states ["_law_spec_here"] []
  a__law_due : Addr
  d__law_due : FuncData
  F__law_due : Fun K "_law_due" "_law_due" st__law_due a__law_due d__law_due
  g__law_due : mg "_law_due" = some (.ref a__law_due)
  b__law_due : Binds K d__law_due ["_law_spec_here"] []
  a__law_seen : Addr
  d__law_seen : FuncData
  F__law_seen : Fun K "_law_seen" "_law_seen" st__law_seen a__law_seen d__law_seen
  g__law_seen : mg "_law_seen" = some (.ref a__law_seen)
  b__law_seen : Binds K d__law_seen ["_law_mine"] []
  a__law_sort : Addr
  d__law_sort : FuncData
  F__law_sort : Fun K "_law_sort" "_law_sort" st__law_sort a__law_sort d__law_sort
  g__law_sort : mg "_law_sort" = some (.ref a__law_sort)
  b__law_sort : Binds K d__law_sort ["_law_e"] []
  a__law_told : Addr
  d__law_told : FuncData
  F__law_told : Fun K "_law_told" "_law_told" st__law_told a__law_told d__law_told
  g__law_told : mg "_law_told" = some (.ref a__law_told)
  b__law_told : Binds K d__law_told ["_law_e", "_law_word_here"] []
  a__law_caught : Addr
  d__law_caught : FuncData
  F__law_caught : Fun K "_law_caught" "_law_caught" st__law_caught a__law_caught d__law_caught
  g__law_caught : mg "_law_caught" = some (.ref a__law_caught)
  b__law_caught : Binds K d__law_caught ["_law_act"] []
  a__law_is_word : Addr
  d__law_is_word : FuncData
  F__law_is_word : Fun K "_law_is_word" "_law_is_word" st__law_is_word a__law_is_word d__law_is_word
  g__law_is_word : mg "_law_is_word" = some (.ref a__law_is_word)
  b__law_is_word : Binds K d__law_is_word ["_law_thing"] []
  a__law_digit : Addr
  d__law_digit : FuncData
  F__law_digit : Fun K "_law_digit" "_law_digit" st__law_digit a__law_digit d__law_digit
  g__law_digit : mg "_law_digit" = some (.ref a__law_digit)
  b__law_digit : Binds K d__law_digit ["_law_word_here", "_law_least_here", "_law_most_here"] []
  a__law_is_state : Addr
  d__law_is_state : FuncData
  F__law_is_state : Fun K "_law_is_state" "_law_is_state" st__law_is_state a__law_is_state d__law_is_state
  g__law_is_state : mg "_law_is_state" = some (.ref a__law_is_state)
  b__law_is_state : Binds K d__law_is_state ["_law_word_here", "_law_period"] []
  a__law_read_row : Addr
  d__law_read_row : FuncData
  F__law_read_row : Fun K "_law_read_row" "_law_read_row" st__law_read_row a__law_read_row d__law_read_row
  g__law_read_row : mg "_law_read_row" = some (.ref a__law_read_row)
  b__law_read_row : Binds K d__law_read_row ["_law_row", "_law_period"] []
  a__law_read : Addr
  d__law_read : FuncData
  F__law_read : Fun K "_law_read" "_law_read" st__law_read a__law_read d__law_read
  g__law_read : mg "_law_read" = some (.ref a__law_read)
  b__law_read : Binds K d__law_read ["_law_thing"] []
  a__law_bent : Addr
  d__law_bent : FuncData
  F__law_bent : Fun K "_law_bent" "_law_bent" st__law_bent a__law_bent d__law_bent
  g__law_bent : mg "_law_bent" = some (.ref a__law_bent)
  b__law_bent : Binds K d__law_bent ["_law_spring_here", "_law_thing"] []
  a__law_sorts : Addr
  d__law_sorts : FuncData
  F__law_sorts : Fun K "_law_sorts" "_law_sorts" st__law_sorts a__law_sorts d__law_sorts
  g__law_sorts : mg "_law_sorts" = some (.ref a__law_sorts)
  b__law_sorts : Binds K d__law_sorts [] []
  a__law_other_kind : Addr
  d__law_other_kind : FuncData
  F__law_other_kind : Fun K "_law_other_kind" "_law_other_kind" st__law_other_kind a__law_other_kind d__law_other_kind
  g__law_other_kind : mg "_law_other_kind" = some (.ref a__law_other_kind)
  b__law_other_kind : Binds K d__law_other_kind ["_law_spring_here", "_law_thing"] []
  a__law_over : Addr
  d__law_over : FuncData
  F__law_over : Fun K "_law_over" "_law_over" st__law_over a__law_over d__law_over
  g__law_over : mg "_law_over" = some (.ref a__law_over)
  b__law_over : Binds K d__law_over ["_law_spring_here"] []
  a__law_right : Addr
  d__law_right : FuncData
  F__law_right : Fun K "_law_right" "_law_right" st__law_right a__law_right d__law_right
  g__law_right : mg "_law_right" = some (.ref a__law_right)
  b__law_right : Binds K d__law_right ["_law_spring_here"] []
  a__law_all_right : Addr
  d__law_all_right : FuncData
  F__law_all_right : Fun K "_law_all_right" "_law_all_right" st__law_all_right a__law_all_right d__law_all_right
  g__law_all_right : mg "_law_all_right" = some (.ref a__law_all_right)
  b__law_all_right : Binds K d__law_all_right ["_law_spring_here"] []
  a_law : Addr
  d_law : FuncData
  F_law : Fun K "law" "law" st_law a_law d_law
  g_law : mg "law" = some (.ref a_law)
  b_law : Binds K d_law ["_law_cells"] []
  C_Borders : Addr
  g_Borders : mg "Borders" = some (.ref C_Borders)
  cl_Borders : Cls K C_Borders
  na_whole : NoAttr K C_Borders "whole"
  na_all_states : NoAttr K C_Borders "all_states"
  na_corner_names : NoAttr K C_Borders "corner_names"
  na_motif : NoAttr K C_Borders "motif"
  na_piece_rows : NoAttr K C_Borders "piece_rows"
  na_corner_rows : NoAttr K C_Borders "corner_rows"
  ne_Borders : PySem.W.findIn K (.ref C_Borders) "__ne__" = some (some (.builtin "object.__ne__"))
  mro_Borders : PySem.W.mroIn K C_Borders (.type "object") = some true
  bool_Borders : PySem.W.findIn K (.ref C_Borders) "__bool__" = some none
  i_Borders : IsiT K (.ref C_Borders) (gOwn C_Borders)
  nolen_Borders : PySem.W.findIn K (.ref C_Borders) "__len__" = some none
  a_Borders___init__ : Addr
  d_Borders___init__ : FuncData
  F_Borders___init__ : Fun K "__init__" "Borders.__init__" st_Borders___init__ a_Borders___init__ d_Borders___init__
  b_Borders___init__ : Binds K d_Borders___init__ ["self", "text"] []
  mk_Borders : Mk K C_Borders a_Borders___init__
  kb_Borders : KBn K d_Borders___init__ ["self", "text"] 1 ["text"] (fun us ws => us ++ ws) (fun us ws => us ++ ws)
  a_Borders_text : Addr
  d_Borders_text : FuncData
  F_Borders_text : Fun K "text" "Borders.text" st_Borders_text a_Borders_text d_Borders_text
  b_Borders_text : Binds K d_Borders_text ["self"] []
  p_Borders_text : Addr
  P_Borders_text : PropOf K C_Borders "text" p_Borders_text a_Borders_text
  a_Borders_signs : Addr
  d_Borders_signs : FuncData
  F_Borders_signs : Fun K "signs" "Borders.signs" st_Borders_signs a_Borders_signs d_Borders_signs
  b_Borders_signs : Binds K d_Borders_signs ["self"] []
  p_Borders_signs : Addr
  P_Borders_signs : PropOf K C_Borders "signs" p_Borders_signs a_Borders_signs
  a_Borders_states : Addr
  d_Borders_states : FuncData
  F_Borders_states : Fun K "states" "Borders.states" st_Borders_states a_Borders_states d_Borders_states
  b_Borders_states : Binds K d_Borders_states ["self"] []
  p_Borders_states : Addr
  P_Borders_states : PropOf K C_Borders "states" p_Borders_states a_Borders_states
  a_Borders_pieces : Addr
  d_Borders_pieces : FuncData
  F_Borders_pieces : Fun K "pieces" "Borders.pieces" st_Borders_pieces a_Borders_pieces d_Borders_pieces
  b_Borders_pieces : Binds K d_Borders_pieces ["self"] []
  p_Borders_pieces : Addr
  P_Borders_pieces : PropOf K C_Borders "pieces" p_Borders_pieces a_Borders_pieces
  a_Borders_corners : Addr
  d_Borders_corners : FuncData
  F_Borders_corners : Fun K "corners" "Borders.corners" st_Borders_corners a_Borders_corners d_Borders_corners
  b_Borders_corners : Binds K d_Borders_corners ["self"] []
  p_Borders_corners : Addr
  P_Borders_corners : PropOf K C_Borders "corners" p_Borders_corners a_Borders_corners
  a_Borders_names : Addr
  d_Borders_names : FuncData
  F_Borders_names : Fun K "names" "Borders.names" st_Borders_names a_Borders_names d_Borders_names
  b_Borders_names : Binds K d_Borders_names ["self"] []
  p_Borders_names : Addr
  P_Borders_names : PropOf K C_Borders "names" p_Borders_names a_Borders_names
  a_Borders___eq__ : Addr
  d_Borders___eq__ : FuncData
  F_Borders___eq__ : Fun K "__eq__" "Borders.__eq__" st_Borders___eq__ a_Borders___eq__ d_Borders___eq__
  b_Borders___eq__ : Binds K d_Borders___eq__ ["self", "other"] []
  f_Borders___eq__ : PySem.W.findIn K (.ref C_Borders) "__eq__" = some (some (.ref a_Borders___eq__))
  k_Borders___eq__ : PySem.W.isFn K (.ref a_Borders___eq__) = true
  a_Borders___str__ : Addr
  d_Borders___str__ : FuncData
  F_Borders___str__ : Fun K "__str__" "Borders.__str__" st_Borders___str__ a_Borders___str__ d_Borders___str__
  b_Borders___str__ : Binds K d_Borders___str__ ["self"] []
  f_Borders___str__ : PySem.W.findIn K (.ref C_Borders) "__str__" = some (some (.ref a_Borders___str__))
  k_Borders___str__ : PySem.W.isFn K (.ref a_Borders___str__) = true
  C_BadValue : Addr
  g_BadValue : mg "BadValue" = some (.ref C_BadValue)
  C_InvalidText : Addr
  g_InvalidText : mg "InvalidText" = some (.ref C_InvalidText)
  C_InvalidLine : Addr
  g_InvalidLine : mg "InvalidLine" = some (.ref C_InvalidLine)
  C_InvalidState : Addr
  g_InvalidState : mg "InvalidState" = some (.ref C_InvalidState)
  C_InvalidNumber : Addr
  g_InvalidNumber : mg "InvalidNumber" = some (.ref C_InvalidNumber)
  C_InvalidName : Addr
  g_InvalidName : mg "InvalidName" = some (.ref C_InvalidName)
  C_InvalidIndex : Addr
  g_InvalidIndex : mg "InvalidIndex" = some (.ref C_InvalidIndex)
  C_InvalidWish : Addr
  g_InvalidWish : mg "InvalidWish" = some (.ref C_InvalidWish)
  C_InvalidClaim : Addr
  g_InvalidClaim : mg "InvalidClaim" = some (.ref C_InvalidClaim)
  C_NotBorders : Addr
  g_NotBorders : mg "NotBorders" = some (.ref C_NotBorders)
  C_NotARoom : Addr
  g_NotARoom : mg "NotARoom" = some (.ref C_NotARoom)
  C_InvalidSizes : Addr
  g_InvalidSizes : mg "InvalidSizes" = some (.ref C_InvalidSizes)
  C_InvalidFilling : Addr
  g_InvalidFilling : mg "InvalidFilling" = some (.ref C_InvalidFilling)
  C_InvalidNames : Addr
  g_InvalidNames : mg "InvalidNames" = some (.ref C_InvalidNames)
  C_InvalidLines : Addr
  g_InvalidLines : mg "InvalidLines" = some (.ref C_InvalidLines)
  C_BadName : Addr
  g_BadName : mg "BadName" = some (.ref C_BadName)
  C_UnknownName : Addr
  g_UnknownName : mg "UnknownName" = some (.ref C_UnknownName)
  C_InUse : Addr
  g_InUse : mg "InUse" = some (.ref C_InUse)
  C_NoAnswer : Addr
  g_NoAnswer : mg "NoAnswer" = some (.ref C_NoAnswer)
  C_OtherLetters : Addr
  g_OtherLetters : mg "OtherLetters" = some (.ref C_OtherLetters)
  C_TooMany : Addr
  g_TooMany : mg "TooMany" = some (.ref C_TooMany)
  C_NothingToUndo : Addr
  g_NothingToUndo : mg "NothingToUndo" = some (.ref C_NothingToUndo)
  C_NotAsked : Addr
  g_NotAsked : mg "NotAsked" = some (.ref C_NotAsked)
  C_Broken : Addr
  g_Broken : mg "Broken" = some (.ref C_Broken)
  ox_InvalidText : OexC K C_InvalidText
  xa_InvalidText : ExcA K C_InvalidText
  no_InvalidText_given : PySem.W.findIn K (.ref C_InvalidText) "given" = some none
  no_InvalidText_index : PySem.W.findIn K (.ref C_InvalidText) "index" = some none
  no_InvalidText_shown : PySem.W.findIn K (.ref C_InvalidText) "shown" = some none
  no_InvalidText_limit : PySem.W.findIn K (.ref C_InvalidText) "limit" = some none
  aI_InvalidText : Addr
  dI_InvalidText : FuncData
  FI_InvalidText : Fun K "__init__" "InvalidText.__init__" stI_InvalidText aI_InvalidText dI_InvalidText
  iC_InvalidText : PySem.W.findIn K (.ref C_InvalidText) "__init__" = some (some (.ref aI_InvalidText))
  tI_InvalidText : PySem.W.typeIn K (.ref aI_InvalidText) = some (.type "function")
  bI_InvalidText : Binds K dI_InvalidText ["self", "given"] []

  xm_InvalidText : PySem.W.exmAny K (.ref C_InvalidText) [.ref C_BadValue, .ref C_BadName, .ref C_NoAnswer] = some true
  kt_InvalidText_BadValue : PySem.W.kitOne K (.ref C_InvalidText) (.ref C_BadValue) = some true
  kt_InvalidText_InvalidText : PySem.W.kitOne K (.ref C_InvalidText) (.ref C_InvalidText) = some true
  kt_InvalidText_InvalidLine : PySem.W.kitOne K (.ref C_InvalidText) (.ref C_InvalidLine) = some false
  kt_InvalidText_InvalidState : PySem.W.kitOne K (.ref C_InvalidText) (.ref C_InvalidState) = some false
  kt_InvalidText_InvalidNumber : PySem.W.kitOne K (.ref C_InvalidText) (.ref C_InvalidNumber) = some false
  kt_InvalidText_InvalidName : PySem.W.kitOne K (.ref C_InvalidText) (.ref C_InvalidName) = some false
  kt_InvalidText_InvalidIndex : PySem.W.kitOne K (.ref C_InvalidText) (.ref C_InvalidIndex) = some false
  kt_InvalidText_InvalidWish : PySem.W.kitOne K (.ref C_InvalidText) (.ref C_InvalidWish) = some false
  kt_InvalidText_InvalidClaim : PySem.W.kitOne K (.ref C_InvalidText) (.ref C_InvalidClaim) = some false
  kt_InvalidText_NotBorders : PySem.W.kitOne K (.ref C_InvalidText) (.ref C_NotBorders) = some false
  kt_InvalidText_NotARoom : PySem.W.kitOne K (.ref C_InvalidText) (.ref C_NotARoom) = some false
  kt_InvalidText_InvalidSizes : PySem.W.kitOne K (.ref C_InvalidText) (.ref C_InvalidSizes) = some false
  kt_InvalidText_InvalidFilling : PySem.W.kitOne K (.ref C_InvalidText) (.ref C_InvalidFilling) = some false
  kt_InvalidText_InvalidNames : PySem.W.kitOne K (.ref C_InvalidText) (.ref C_InvalidNames) = some false
  kt_InvalidText_InvalidLines : PySem.W.kitOne K (.ref C_InvalidText) (.ref C_InvalidLines) = some false
  kt_InvalidText_BadName : PySem.W.kitOne K (.ref C_InvalidText) (.ref C_BadName) = some false
  kt_InvalidText_UnknownName : PySem.W.kitOne K (.ref C_InvalidText) (.ref C_UnknownName) = some false
  kt_InvalidText_InUse : PySem.W.kitOne K (.ref C_InvalidText) (.ref C_InUse) = some false
  kt_InvalidText_NoAnswer : PySem.W.kitOne K (.ref C_InvalidText) (.ref C_NoAnswer) = some false
  kt_InvalidText_OtherLetters : PySem.W.kitOne K (.ref C_InvalidText) (.ref C_OtherLetters) = some false
  kt_InvalidText_TooMany : PySem.W.kitOne K (.ref C_InvalidText) (.ref C_TooMany) = some false
  kt_InvalidText_NothingToUndo : PySem.W.kitOne K (.ref C_InvalidText) (.ref C_NothingToUndo) = some false
  kt_InvalidText_NotAsked : PySem.W.kitOne K (.ref C_InvalidText) (.ref C_NotAsked) = some false
  kt_InvalidText_Broken : PySem.W.kitOne K (.ref C_InvalidText) (.ref C_Broken) = some false
  kt_InvalidText_ValueError : PySem.W.kitOne K (.ref C_InvalidText) (.type "ValueError") = some true
  kt_InvalidText_LookupError : PySem.W.kitOne K (.ref C_InvalidText) (.type "LookupError") = some false
  kt_InvalidText_ArithmeticError : PySem.W.kitOne K (.ref C_InvalidText) (.type "ArithmeticError") = some false
  cL : Addr
  P : Addr
  FC : FunC K "_law_right" "_law_right" st__law_right a__law_right d__law_right (.ref cL)
  hTab : tabsK K = [(P, (⟨lamQ, rfl⟩ : LQ))]
  hT : (P, (⟨lamQ, rfl⟩ : LQ)) ∈ tabsK K
theorem own_is {C D : Addr} {b : Bool} (h : gOwn C (.ins D) = some b) : D = C := by
  have h : (if D = C then some true else none) = some b := h
  by_cases e : D = C
  · exact e
  · rw [if_neg e] at h; cases h
theorem own_kit {K : PySem.W.Frag} {C : Addr} (k0 : PySem.W.kitOne K (.type "NoneType") (.ref C) = some false) (k1 : PySem.W.kitOne K (.type "bool") (.ref C) = some false) (k2 : PySem.W.kitOne K (.type "int") (.ref C) = some false) (k3 : PySem.W.kitOne K (.type "str") (.ref C) = some false) (k4 : PySem.W.kitOne K (.type "tuple") (.ref C) = some false) (k5 : PySem.W.kitOne K (.type "list") (.ref C) = some false) (k6 : PySem.W.kitOne K (.type "dict") (.ref C) = some false) (t : Ty) (b : Bool) (h : gOwn C t = some b) : PySem.W.kitOne K t.val (.ref C) = some b := by
  cases t <;> first | (cases h; first | exact k0 | exact k1 | exact k2 | exact k3 | exact k4 | exact k5 | exact k6) | skip
  rename_i D
  have e := own_is h
  subst e
  have h : (if D = D then some true else none) = some b := h
  rw [if_pos rfl] at h
  cases h
  show PySem.W.kitOne K (.ref D) (.ref D) = some true
  unfold PySem.W.kitOne
  rw [if_pos (by simp)]
def mkTx {K : PySem.W.Frag} {h : Heap} {mg : Str → Option Value} (X : K.In h) (G : h.Ns mainGlobals mg) {t_LETTERS : Tok} {t_DIGITS : Tok} {t_LONGEST_WORD : Tok} {t_MOST_SIGNS : Tok} {t_MOST_PIECES : Tok} {t_MOST_CORNERS : Tok} {t_MOST_NAMES : Tok} {t_MOST_LONG : Tok} {t_MOST_COST : Tok} {p_TURNS : Addr} {n_TURNS : Nat} {q_TURNS_0 : Tok} {q_TURNS_1 : Tok} {dd_TURNS : Option Addr} {sl_TURNS : Array (Option Value)} {f_is_letters : Addr} {oc_is_letters kV_is_letters dc_is_letters pm_is_letters cd_is_letters ct_is_letters : Value} {od_is_letters an_is_letters : Option Addr} {sl_is_letters : Array (Option Value)} {f_is_word : Addr} {oc_is_word kV_is_word dc_is_word pm_is_word cd_is_word ct_is_word : Value} {od_is_word an_is_word : Option Addr} {sl_is_word : Array (Option Value)} {f_number_of : Addr} {oc_number_of kV_number_of dc_number_of pm_number_of cd_number_of ct_number_of : Value} {od_number_of an_number_of : Option Addr} {sl_number_of : Array (Option Value)} {f_signs_of : Addr} {oc_signs_of kV_signs_of dc_signs_of pm_signs_of cd_signs_of ct_signs_of : Value} {od_signs_of an_signs_of : Option Addr} {sl_signs_of : Array (Option Value)} {f_states_of : Addr} {oc_states_of kV_states_of dc_states_of pm_states_of cd_states_of ct_states_of : Value} {od_states_of an_states_of : Option Addr} {sl_states_of : Array (Option Value)} {f_piece_of : Addr} {oc_piece_of kV_piece_of dc_piece_of pm_piece_of cd_piece_of ct_piece_of : Value} {od_piece_of an_piece_of : Option Addr} {sl_piece_of : Array (Option Value)} {f_corner_of : Addr} {oc_corner_of kV_corner_of dc_corner_of pm_corner_of cd_corner_of ct_corner_of : Value} {od_corner_of an_corner_of : Option Addr} {sl_corner_of : Array (Option Value)} {f_names_of : Addr} {oc_names_of kV_names_of dc_names_of pm_names_of cd_names_of ct_names_of : Value} {od_names_of an_names_of : Option Addr} {sl_names_of : Array (Option Value)} {f_pieces_fit : Addr} {oc_pieces_fit kV_pieces_fit dc_pieces_fit pm_pieces_fit cd_pieces_fit ct_pieces_fit : Value} {od_pieces_fit an_pieces_fit : Option Addr} {sl_pieces_fit : Array (Option Value)} {f_corners_fit : Addr} {oc_corners_fit kV_corners_fit dc_corners_fit pm_corners_fit cd_corners_fit ct_corners_fit : Value} {od_corners_fit an_corners_fit : Option Addr} {sl_corners_fit : Array (Option Value)} {f_parts_of : Addr} {oc_parts_of kV_parts_of dc_parts_of pm_parts_of cd_parts_of ct_parts_of : Value} {od_parts_of an_parts_of : Option Addr} {sl_parts_of : Array (Option Value)} {f__law_spring : Addr} {oc__law_spring kV__law_spring dc__law_spring pm__law_spring cd__law_spring ct__law_spring : Value} {od__law_spring an__law_spring : Option Addr} {sl__law_spring : Array (Option Value)} {f__law_take : Addr} {oc__law_take kV__law_take dc__law_take pm__law_take cd__law_take ct__law_take : Value} {od__law_take an__law_take : Option Addr} {sl__law_take : Array (Option Value)} {f__law_word : Addr} {oc__law_word kV__law_word dc__law_word pm__law_word cd__law_word ct__law_word : Value} {od__law_word an__law_word : Option Addr} {sl__law_word : Array (Option Value)} {f__law_words : Addr} {oc__law_words kV__law_words dc__law_words pm__law_words cd__law_words ct__law_words : Value} {od__law_words an__law_words : Option Addr} {sl__law_words : Array (Option Value)} {f__law_state : Addr} {oc__law_state kV__law_state dc__law_state pm__law_state cd__law_state ct__law_state : Value} {od__law_state an__law_state : Option Addr} {sl__law_state : Array (Option Value)} {f__law_piece : Addr} {oc__law_piece kV__law_piece dc__law_piece pm__law_piece cd__law_piece ct__law_piece : Value} {od__law_piece an__law_piece : Option Addr} {sl__law_piece : Array (Option Value)} {f__law_joint : Addr} {oc__law_joint kV__law_joint dc__law_joint pm__law_joint cd__law_joint ct__law_joint : Value} {od__law_joint an__law_joint : Option Addr} {sl__law_joint : Array (Option Value)} {f__law_spec : Addr} {oc__law_spec kV__law_spec dc__law_spec pm__law_spec cd__law_spec ct__law_spec : Value} {od__law_spec an__law_spec : Option Addr} {sl__law_spec : Array (Option Value)} {f__law_piece_row : Addr} {oc__law_piece_row kV__law_piece_row dc__law_piece_row pm__law_piece_row cd__law_piece_row ct__law_piece_row : Value} {od__law_piece_row an__law_piece_row : Option Addr} {sl__law_piece_row : Array (Option Value)} {f__law_joint_row : Addr} {oc__law_joint_row kV__law_joint_row dc__law_joint_row pm__law_joint_row cd__law_joint_row ct__law_joint_row : Value} {od__law_joint_row an__law_joint_row : Option Addr} {sl__law_joint_row : Array (Option Value)} {f__law_rows : Addr} {oc__law_rows kV__law_rows dc__law_rows pm__law_rows cd__law_rows ct__law_rows : Value} {od__law_rows an__law_rows : Option Addr} {sl__law_rows : Array (Option Value)} {f__law_joined : Addr} {oc__law_joined kV__law_joined dc__law_joined pm__law_joined cd__law_joined ct__law_joined : Value} {od__law_joined an__law_joined : Option Addr} {sl__law_joined : Array (Option Value)} {f__law_states : Addr} {oc__law_states kV__law_states dc__law_states pm__law_states cd__law_states ct__law_states : Value} {od__law_states an__law_states : Option Addr} {sl__law_states : Array (Option Value)} {f__law_due : Addr} {oc__law_due kV__law_due dc__law_due pm__law_due cd__law_due ct__law_due : Value} {od__law_due an__law_due : Option Addr} {sl__law_due : Array (Option Value)} {f__law_seen : Addr} {oc__law_seen kV__law_seen dc__law_seen pm__law_seen cd__law_seen ct__law_seen : Value} {od__law_seen an__law_seen : Option Addr} {sl__law_seen : Array (Option Value)} {f__law_sort : Addr} {oc__law_sort kV__law_sort dc__law_sort pm__law_sort cd__law_sort ct__law_sort : Value} {od__law_sort an__law_sort : Option Addr} {sl__law_sort : Array (Option Value)} {f__law_told : Addr} {oc__law_told kV__law_told dc__law_told pm__law_told cd__law_told ct__law_told : Value} {od__law_told an__law_told : Option Addr} {sl__law_told : Array (Option Value)} {f__law_caught : Addr} {oc__law_caught kV__law_caught dc__law_caught pm__law_caught cd__law_caught ct__law_caught : Value} {od__law_caught an__law_caught : Option Addr} {sl__law_caught : Array (Option Value)} {f__law_is_word : Addr} {oc__law_is_word kV__law_is_word dc__law_is_word pm__law_is_word cd__law_is_word ct__law_is_word : Value} {od__law_is_word an__law_is_word : Option Addr} {sl__law_is_word : Array (Option Value)} {f__law_digit : Addr} {oc__law_digit kV__law_digit dc__law_digit pm__law_digit cd__law_digit ct__law_digit : Value} {od__law_digit an__law_digit : Option Addr} {sl__law_digit : Array (Option Value)} {f__law_is_state : Addr} {oc__law_is_state kV__law_is_state dc__law_is_state pm__law_is_state cd__law_is_state ct__law_is_state : Value} {od__law_is_state an__law_is_state : Option Addr} {sl__law_is_state : Array (Option Value)} {f__law_read_row : Addr} {oc__law_read_row kV__law_read_row dc__law_read_row pm__law_read_row cd__law_read_row ct__law_read_row : Value} {od__law_read_row an__law_read_row : Option Addr} {sl__law_read_row : Array (Option Value)} {f__law_read : Addr} {oc__law_read kV__law_read dc__law_read pm__law_read cd__law_read ct__law_read : Value} {od__law_read an__law_read : Option Addr} {sl__law_read : Array (Option Value)} {f__law_bent : Addr} {oc__law_bent kV__law_bent dc__law_bent pm__law_bent cd__law_bent ct__law_bent : Value} {od__law_bent an__law_bent : Option Addr} {sl__law_bent : Array (Option Value)} {f__law_sorts : Addr} {oc__law_sorts kV__law_sorts dc__law_sorts pm__law_sorts cd__law_sorts ct__law_sorts : Value} {od__law_sorts an__law_sorts : Option Addr} {sl__law_sorts : Array (Option Value)} {f__law_other_kind : Addr} {oc__law_other_kind kV__law_other_kind dc__law_other_kind pm__law_other_kind cd__law_other_kind ct__law_other_kind : Value} {od__law_other_kind an__law_other_kind : Option Addr} {sl__law_other_kind : Array (Option Value)} {f__law_over : Addr} {oc__law_over kV__law_over dc__law_over pm__law_over cd__law_over ct__law_over : Value} {od__law_over an__law_over : Option Addr} {sl__law_over : Array (Option Value)} {f__law_right : Addr} {oc__law_right kV__law_right dc__law_right pm__law_right cd__law_right ct__law_right : Value} {od__law_right an__law_right : Option Addr} {sl__law_right : Array (Option Value)} {f__law_all_right : Addr} {oc__law_all_right kV__law_all_right dc__law_all_right pm__law_all_right cd__law_all_right ct__law_all_right : Value} {od__law_all_right an__law_all_right : Option Addr} {sl__law_all_right : Array (Option Value)} {f_law : Addr} {oc_law kV_law dc_law pm_law cd_law ct_law : Value} {od_law an_law : Option Addr} {sl_law : Array (Option Value)} {C_Borders : Addr} {f_Borders___init__ : Addr} {oc_Borders___init__ kV_Borders___init__ dc_Borders___init__ pm_Borders___init__ cd_Borders___init__ ct_Borders___init__ : Value} {od_Borders___init__ an_Borders___init__ : Option Addr} {sl_Borders___init__ : Array (Option Value)} {p_Borders_text : Addr} {rest_Borders_text : List Value} {f_Borders_text : Addr} {oc_Borders_text kV_Borders_text dc_Borders_text pm_Borders_text cd_Borders_text ct_Borders_text : Value} {od_Borders_text an_Borders_text : Option Addr} {sl_Borders_text : Array (Option Value)} {p_Borders_signs : Addr} {rest_Borders_signs : List Value} {f_Borders_signs : Addr} {oc_Borders_signs kV_Borders_signs dc_Borders_signs pm_Borders_signs cd_Borders_signs ct_Borders_signs : Value} {od_Borders_signs an_Borders_signs : Option Addr} {sl_Borders_signs : Array (Option Value)} {p_Borders_states : Addr} {rest_Borders_states : List Value} {f_Borders_states : Addr} {oc_Borders_states kV_Borders_states dc_Borders_states pm_Borders_states cd_Borders_states ct_Borders_states : Value} {od_Borders_states an_Borders_states : Option Addr} {sl_Borders_states : Array (Option Value)} {p_Borders_pieces : Addr} {rest_Borders_pieces : List Value} {f_Borders_pieces : Addr} {oc_Borders_pieces kV_Borders_pieces dc_Borders_pieces pm_Borders_pieces cd_Borders_pieces ct_Borders_pieces : Value} {od_Borders_pieces an_Borders_pieces : Option Addr} {sl_Borders_pieces : Array (Option Value)} {p_Borders_corners : Addr} {rest_Borders_corners : List Value} {f_Borders_corners : Addr} {oc_Borders_corners kV_Borders_corners dc_Borders_corners pm_Borders_corners cd_Borders_corners ct_Borders_corners : Value} {od_Borders_corners an_Borders_corners : Option Addr} {sl_Borders_corners : Array (Option Value)} {p_Borders_names : Addr} {rest_Borders_names : List Value} {f_Borders_names : Addr} {oc_Borders_names kV_Borders_names dc_Borders_names pm_Borders_names cd_Borders_names ct_Borders_names : Value} {od_Borders_names an_Borders_names : Option Addr} {sl_Borders_names : Array (Option Value)} {f_Borders___eq__ : Addr} {oc_Borders___eq__ kV_Borders___eq__ dc_Borders___eq__ pm_Borders___eq__ cd_Borders___eq__ ct_Borders___eq__ : Value} {od_Borders___eq__ an_Borders___eq__ : Option Addr} {sl_Borders___eq__ : Array (Option Value)} {f_Borders___str__ : Addr} {oc_Borders___str__ kV_Borders___str__ dc_Borders___str__ pm_Borders___str__ cd_Borders___str__ ct_Borders___str__ : Value} {od_Borders___str__ an_Borders___str__ : Option Addr} {sl_Borders___str__ : Array (Option Value)} {C_BadValue : Addr} {C_InvalidText : Addr} {C_InvalidLine : Addr} {C_InvalidState : Addr} {C_InvalidNumber : Addr} {C_InvalidName : Addr} {C_InvalidIndex : Addr} {C_InvalidWish : Addr} {C_InvalidClaim : Addr} {C_NotBorders : Addr} {C_NotARoom : Addr} {C_InvalidSizes : Addr} {C_InvalidFilling : Addr} {C_InvalidNames : Addr} {C_InvalidLines : Addr} {C_BadName : Addr} {C_UnknownName : Addr} {C_InUse : Addr} {C_NoAnswer : Addr} {C_OtherLetters : Addr} {C_TooMany : Addr} {C_NothingToUndo : Addr} {C_NotAsked : Addr} {C_Broken : Addr} {f_InvalidText_I : Addr} {oc_InvalidText_I kV_InvalidText_I dc_InvalidText_I pm_InvalidText_I cd_InvalidText_I ct_InvalidText_I : Value} {od_InvalidText_I an_InvalidText_I : Option Addr} {sl_InvalidText_I : Array (Option Value)} {cL : Addr} {P : Addr}
    (z_ValueError : PySem.W.nsIn K mainGlobals "ValueError" = some none)
    (z_LookupError : PySem.W.nsIn K mainGlobals "LookupError" = some none)
    (z_ArithmeticError : PySem.W.nsIn K mainGlobals "ArithmeticError" = some none)
    (z_all : PySem.W.nsIn K mainGlobals "all" = some none)
    (z_len : PySem.W.nsIn K mainGlobals "len" = some none)
    (z_isinstance : PySem.W.nsIn K mainGlobals "isinstance" = some none)
    (z_str : PySem.W.nsIn K mainGlobals "str" = some none)
    (z_int : PySem.W.nsIn K mainGlobals "int" = some none)
    (z_tuple : PySem.W.nsIn K mainGlobals "tuple" = some none)
    (z_range : PySem.W.nsIn K mainGlobals "range" = some none)
    (z_sorted : PySem.W.nsIn K mainGlobals "sorted" = some none)
    (z_set : PySem.W.nsIn K mainGlobals "set" = some none)
    (z_abs : PySem.W.nsIn K mainGlobals "abs" = some none)
    (z_divmod : PySem.W.nsIn K mainGlobals "divmod" = some none)
    (z_min : PySem.W.nsIn K mainGlobals "min" = some none)
    (z_repr : PySem.W.nsIn K mainGlobals "repr" = some none)
    (z_max : PySem.W.nsIn K mainGlobals "max" = some none)
    (s_LETTERS : PySem.W.nsIn K mainGlobals "LETTERS" = some (some (.str "abcdefghijklmnopqrstuvwxyz" t_LETTERS)))
    (s_DIGITS : PySem.W.nsIn K mainGlobals "DIGITS" = some (some (.str "0123456789" t_DIGITS)))
    (s_LONGEST_WORD : PySem.W.nsIn K mainGlobals "LONGEST_WORD" = some (some (.int 8 t_LONGEST_WORD)))
    (s_MOST_SIGNS : PySem.W.nsIn K mainGlobals "MOST_SIGNS" = some (some (.int 5 t_MOST_SIGNS)))
    (s_MOST_PIECES : PySem.W.nsIn K mainGlobals "MOST_PIECES" = some (some (.int 8 t_MOST_PIECES)))
    (s_MOST_CORNERS : PySem.W.nsIn K mainGlobals "MOST_CORNERS" = some (some (.int 12 t_MOST_CORNERS)))
    (s_MOST_NAMES : PySem.W.nsIn K mainGlobals "MOST_NAMES" = some (some (.int 4 t_MOST_NAMES)))
    (s_MOST_LONG : PySem.W.nsIn K mainGlobals "MOST_LONG" = some (some (.int 6 t_MOST_LONG)))
    (s_MOST_COST : PySem.W.nsIn K mainGlobals "MOST_COST" = some (some (.int 9 t_MOST_COST)))
    (s_TURNS : PySem.W.nsIn K mainGlobals "TURNS" = some (some (.ref p_TURNS)))
    (l_TURNS : K.lookup p_TURNS = some { cls := .type "tuple", dict := dd_TURNS, data := .seq #[.str "out" q_TURNS_0, .str "in" q_TURNS_1] n_TURNS, slots := sl_TURNS })
    (ag_is_letters : PySem.W.nsIn K mainGlobals "is_letters" = some (some (.ref f_is_letters)))
    (l_is_letters : K.lookup f_is_letters = some ⟨oc_is_letters, od_is_letters, .func (PySem.W.fnOf "is_letters" "is_letters" (defArgs st_is_letters) (defBody st_is_letters) (defScope st_is_letters) .none kV_is_letters dc_is_letters pm_is_letters an_is_letters cd_is_letters ct_is_letters), sl_is_letters⟩)
    (c_is_letters : PySem.W.codeIn K cd_is_letters "is_letters" = true)
    (k_is_letters : PySem.W.keepIn K (.ref f_is_letters) = true)
    (ag_is_word : PySem.W.nsIn K mainGlobals "is_word" = some (some (.ref f_is_word)))
    (l_is_word : K.lookup f_is_word = some ⟨oc_is_word, od_is_word, .func (PySem.W.fnOf "is_word" "is_word" (defArgs st_is_word) (defBody st_is_word) (defScope st_is_word) .none kV_is_word dc_is_word pm_is_word an_is_word cd_is_word ct_is_word), sl_is_word⟩)
    (c_is_word : PySem.W.codeIn K cd_is_word "is_word" = true)
    (k_is_word : PySem.W.keepIn K (.ref f_is_word) = true)
    (ag_number_of : PySem.W.nsIn K mainGlobals "number_of" = some (some (.ref f_number_of)))
    (l_number_of : K.lookup f_number_of = some ⟨oc_number_of, od_number_of, .func (PySem.W.fnOf "number_of" "number_of" (defArgs st_number_of) (defBody st_number_of) (defScope st_number_of) .none kV_number_of dc_number_of pm_number_of an_number_of cd_number_of ct_number_of), sl_number_of⟩)
    (c_number_of : PySem.W.codeIn K cd_number_of "number_of" = true)
    (k_number_of : PySem.W.keepIn K (.ref f_number_of) = true)
    (ag_signs_of : PySem.W.nsIn K mainGlobals "signs_of" = some (some (.ref f_signs_of)))
    (l_signs_of : K.lookup f_signs_of = some ⟨oc_signs_of, od_signs_of, .func (PySem.W.fnOf "signs_of" "signs_of" (defArgs st_signs_of) (defBody st_signs_of) (defScope st_signs_of) .none kV_signs_of dc_signs_of pm_signs_of an_signs_of cd_signs_of ct_signs_of), sl_signs_of⟩)
    (c_signs_of : PySem.W.codeIn K cd_signs_of "signs_of" = true)
    (k_signs_of : PySem.W.keepIn K (.ref f_signs_of) = true)
    (ag_states_of : PySem.W.nsIn K mainGlobals "states_of" = some (some (.ref f_states_of)))
    (l_states_of : K.lookup f_states_of = some ⟨oc_states_of, od_states_of, .func (PySem.W.fnOf "states_of" "states_of" (defArgs st_states_of) (defBody st_states_of) (defScope st_states_of) .none kV_states_of dc_states_of pm_states_of an_states_of cd_states_of ct_states_of), sl_states_of⟩)
    (c_states_of : PySem.W.codeIn K cd_states_of "states_of" = true)
    (k_states_of : PySem.W.keepIn K (.ref f_states_of) = true)
    (ag_piece_of : PySem.W.nsIn K mainGlobals "piece_of" = some (some (.ref f_piece_of)))
    (l_piece_of : K.lookup f_piece_of = some ⟨oc_piece_of, od_piece_of, .func (PySem.W.fnOf "piece_of" "piece_of" (defArgs st_piece_of) (defBody st_piece_of) (defScope st_piece_of) .none kV_piece_of dc_piece_of pm_piece_of an_piece_of cd_piece_of ct_piece_of), sl_piece_of⟩)
    (c_piece_of : PySem.W.codeIn K cd_piece_of "piece_of" = true)
    (k_piece_of : PySem.W.keepIn K (.ref f_piece_of) = true)
    (ag_corner_of : PySem.W.nsIn K mainGlobals "corner_of" = some (some (.ref f_corner_of)))
    (l_corner_of : K.lookup f_corner_of = some ⟨oc_corner_of, od_corner_of, .func (PySem.W.fnOf "corner_of" "corner_of" (defArgs st_corner_of) (defBody st_corner_of) (defScope st_corner_of) .none kV_corner_of dc_corner_of pm_corner_of an_corner_of cd_corner_of ct_corner_of), sl_corner_of⟩)
    (c_corner_of : PySem.W.codeIn K cd_corner_of "corner_of" = true)
    (k_corner_of : PySem.W.keepIn K (.ref f_corner_of) = true)
    (ag_names_of : PySem.W.nsIn K mainGlobals "names_of" = some (some (.ref f_names_of)))
    (l_names_of : K.lookup f_names_of = some ⟨oc_names_of, od_names_of, .func (PySem.W.fnOf "names_of" "names_of" (defArgs st_names_of) (defBody st_names_of) (defScope st_names_of) .none kV_names_of dc_names_of pm_names_of an_names_of cd_names_of ct_names_of), sl_names_of⟩)
    (c_names_of : PySem.W.codeIn K cd_names_of "names_of" = true)
    (k_names_of : PySem.W.keepIn K (.ref f_names_of) = true)
    (ag_pieces_fit : PySem.W.nsIn K mainGlobals "pieces_fit" = some (some (.ref f_pieces_fit)))
    (l_pieces_fit : K.lookup f_pieces_fit = some ⟨oc_pieces_fit, od_pieces_fit, .func (PySem.W.fnOf "pieces_fit" "pieces_fit" (defArgs st_pieces_fit) (defBody st_pieces_fit) (defScope st_pieces_fit) .none kV_pieces_fit dc_pieces_fit pm_pieces_fit an_pieces_fit cd_pieces_fit ct_pieces_fit), sl_pieces_fit⟩)
    (c_pieces_fit : PySem.W.codeIn K cd_pieces_fit "pieces_fit" = true)
    (k_pieces_fit : PySem.W.keepIn K (.ref f_pieces_fit) = true)
    (ag_corners_fit : PySem.W.nsIn K mainGlobals "corners_fit" = some (some (.ref f_corners_fit)))
    (l_corners_fit : K.lookup f_corners_fit = some ⟨oc_corners_fit, od_corners_fit, .func (PySem.W.fnOf "corners_fit" "corners_fit" (defArgs st_corners_fit) (defBody st_corners_fit) (defScope st_corners_fit) .none kV_corners_fit dc_corners_fit pm_corners_fit an_corners_fit cd_corners_fit ct_corners_fit), sl_corners_fit⟩)
    (c_corners_fit : PySem.W.codeIn K cd_corners_fit "corners_fit" = true)
    (k_corners_fit : PySem.W.keepIn K (.ref f_corners_fit) = true)
    (ag_parts_of : PySem.W.nsIn K mainGlobals "parts_of" = some (some (.ref f_parts_of)))
    (l_parts_of : K.lookup f_parts_of = some ⟨oc_parts_of, od_parts_of, .func (PySem.W.fnOf "parts_of" "parts_of" (defArgs st_parts_of) (defBody st_parts_of) (defScope st_parts_of) .none kV_parts_of dc_parts_of pm_parts_of an_parts_of cd_parts_of ct_parts_of), sl_parts_of⟩)
    (c_parts_of : PySem.W.codeIn K cd_parts_of "parts_of" = true)
    (k_parts_of : PySem.W.keepIn K (.ref f_parts_of) = true)
    (ag__law_spring : PySem.W.nsIn K mainGlobals "_law_spring" = some (some (.ref f__law_spring)))
    (l__law_spring : K.lookup f__law_spring = some ⟨oc__law_spring, od__law_spring, .func (PySem.W.fnOf "_law_spring" "_law_spring" (defArgs st__law_spring) (defBody st__law_spring) (defScope st__law_spring) .none kV__law_spring dc__law_spring pm__law_spring an__law_spring cd__law_spring ct__law_spring), sl__law_spring⟩)
    (c__law_spring : PySem.W.codeIn K cd__law_spring "_law_spring" = true)
    (k__law_spring : PySem.W.keepIn K (.ref f__law_spring) = true)
    (ag__law_take : PySem.W.nsIn K mainGlobals "_law_take" = some (some (.ref f__law_take)))
    (l__law_take : K.lookup f__law_take = some ⟨oc__law_take, od__law_take, .func (PySem.W.fnOf "_law_take" "_law_take" (defArgs st__law_take) (defBody st__law_take) (defScope st__law_take) .none kV__law_take dc__law_take pm__law_take an__law_take cd__law_take ct__law_take), sl__law_take⟩)
    (c__law_take : PySem.W.codeIn K cd__law_take "_law_take" = true)
    (k__law_take : PySem.W.keepIn K (.ref f__law_take) = true)
    (ag__law_word : PySem.W.nsIn K mainGlobals "_law_word" = some (some (.ref f__law_word)))
    (l__law_word : K.lookup f__law_word = some ⟨oc__law_word, od__law_word, .func (PySem.W.fnOf "_law_word" "_law_word" (defArgs st__law_word) (defBody st__law_word) (defScope st__law_word) .none kV__law_word dc__law_word pm__law_word an__law_word cd__law_word ct__law_word), sl__law_word⟩)
    (c__law_word : PySem.W.codeIn K cd__law_word "_law_word" = true)
    (k__law_word : PySem.W.keepIn K (.ref f__law_word) = true)
    (ag__law_words : PySem.W.nsIn K mainGlobals "_law_words" = some (some (.ref f__law_words)))
    (l__law_words : K.lookup f__law_words = some ⟨oc__law_words, od__law_words, .func (PySem.W.fnOf "_law_words" "_law_words" (defArgs st__law_words) (defBody st__law_words) (defScope st__law_words) .none kV__law_words dc__law_words pm__law_words an__law_words cd__law_words ct__law_words), sl__law_words⟩)
    (c__law_words : PySem.W.codeIn K cd__law_words "_law_words" = true)
    (k__law_words : PySem.W.keepIn K (.ref f__law_words) = true)
    (ag__law_state : PySem.W.nsIn K mainGlobals "_law_state" = some (some (.ref f__law_state)))
    (l__law_state : K.lookup f__law_state = some ⟨oc__law_state, od__law_state, .func (PySem.W.fnOf "_law_state" "_law_state" (defArgs st__law_state) (defBody st__law_state) (defScope st__law_state) .none kV__law_state dc__law_state pm__law_state an__law_state cd__law_state ct__law_state), sl__law_state⟩)
    (c__law_state : PySem.W.codeIn K cd__law_state "_law_state" = true)
    (k__law_state : PySem.W.keepIn K (.ref f__law_state) = true)
    (ag__law_piece : PySem.W.nsIn K mainGlobals "_law_piece" = some (some (.ref f__law_piece)))
    (l__law_piece : K.lookup f__law_piece = some ⟨oc__law_piece, od__law_piece, .func (PySem.W.fnOf "_law_piece" "_law_piece" (defArgs st__law_piece) (defBody st__law_piece) (defScope st__law_piece) .none kV__law_piece dc__law_piece pm__law_piece an__law_piece cd__law_piece ct__law_piece), sl__law_piece⟩)
    (c__law_piece : PySem.W.codeIn K cd__law_piece "_law_piece" = true)
    (k__law_piece : PySem.W.keepIn K (.ref f__law_piece) = true)
    (ag__law_joint : PySem.W.nsIn K mainGlobals "_law_joint" = some (some (.ref f__law_joint)))
    (l__law_joint : K.lookup f__law_joint = some ⟨oc__law_joint, od__law_joint, .func (PySem.W.fnOf "_law_joint" "_law_joint" (defArgs st__law_joint) (defBody st__law_joint) (defScope st__law_joint) .none kV__law_joint dc__law_joint pm__law_joint an__law_joint cd__law_joint ct__law_joint), sl__law_joint⟩)
    (c__law_joint : PySem.W.codeIn K cd__law_joint "_law_joint" = true)
    (k__law_joint : PySem.W.keepIn K (.ref f__law_joint) = true)
    (ag__law_spec : PySem.W.nsIn K mainGlobals "_law_spec" = some (some (.ref f__law_spec)))
    (l__law_spec : K.lookup f__law_spec = some ⟨oc__law_spec, od__law_spec, .func (PySem.W.fnOf "_law_spec" "_law_spec" (defArgs st__law_spec) (defBody st__law_spec) (defScope st__law_spec) .none kV__law_spec dc__law_spec pm__law_spec an__law_spec cd__law_spec ct__law_spec), sl__law_spec⟩)
    (c__law_spec : PySem.W.codeIn K cd__law_spec "_law_spec" = true)
    (k__law_spec : PySem.W.keepIn K (.ref f__law_spec) = true)
    (ag__law_piece_row : PySem.W.nsIn K mainGlobals "_law_piece_row" = some (some (.ref f__law_piece_row)))
    (l__law_piece_row : K.lookup f__law_piece_row = some ⟨oc__law_piece_row, od__law_piece_row, .func (PySem.W.fnOf "_law_piece_row" "_law_piece_row" (defArgs st__law_piece_row) (defBody st__law_piece_row) (defScope st__law_piece_row) .none kV__law_piece_row dc__law_piece_row pm__law_piece_row an__law_piece_row cd__law_piece_row ct__law_piece_row), sl__law_piece_row⟩)
    (c__law_piece_row : PySem.W.codeIn K cd__law_piece_row "_law_piece_row" = true)
    (k__law_piece_row : PySem.W.keepIn K (.ref f__law_piece_row) = true)
    (ag__law_joint_row : PySem.W.nsIn K mainGlobals "_law_joint_row" = some (some (.ref f__law_joint_row)))
    (l__law_joint_row : K.lookup f__law_joint_row = some ⟨oc__law_joint_row, od__law_joint_row, .func (PySem.W.fnOf "_law_joint_row" "_law_joint_row" (defArgs st__law_joint_row) (defBody st__law_joint_row) (defScope st__law_joint_row) .none kV__law_joint_row dc__law_joint_row pm__law_joint_row an__law_joint_row cd__law_joint_row ct__law_joint_row), sl__law_joint_row⟩)
    (c__law_joint_row : PySem.W.codeIn K cd__law_joint_row "_law_joint_row" = true)
    (k__law_joint_row : PySem.W.keepIn K (.ref f__law_joint_row) = true)
    (ag__law_rows : PySem.W.nsIn K mainGlobals "_law_rows" = some (some (.ref f__law_rows)))
    (l__law_rows : K.lookup f__law_rows = some ⟨oc__law_rows, od__law_rows, .func (PySem.W.fnOf "_law_rows" "_law_rows" (defArgs st__law_rows) (defBody st__law_rows) (defScope st__law_rows) .none kV__law_rows dc__law_rows pm__law_rows an__law_rows cd__law_rows ct__law_rows), sl__law_rows⟩)
    (c__law_rows : PySem.W.codeIn K cd__law_rows "_law_rows" = true)
    (k__law_rows : PySem.W.keepIn K (.ref f__law_rows) = true)
    (ag__law_joined : PySem.W.nsIn K mainGlobals "_law_joined" = some (some (.ref f__law_joined)))
    (l__law_joined : K.lookup f__law_joined = some ⟨oc__law_joined, od__law_joined, .func (PySem.W.fnOf "_law_joined" "_law_joined" (defArgs st__law_joined) (defBody st__law_joined) (defScope st__law_joined) .none kV__law_joined dc__law_joined pm__law_joined an__law_joined cd__law_joined ct__law_joined), sl__law_joined⟩)
    (c__law_joined : PySem.W.codeIn K cd__law_joined "_law_joined" = true)
    (k__law_joined : PySem.W.keepIn K (.ref f__law_joined) = true)
    (ag__law_states : PySem.W.nsIn K mainGlobals "_law_states" = some (some (.ref f__law_states)))
    (l__law_states : K.lookup f__law_states = some ⟨oc__law_states, od__law_states, .func (PySem.W.fnOf "_law_states" "_law_states" (defArgs st__law_states) (defBody st__law_states) (defScope st__law_states) .none kV__law_states dc__law_states pm__law_states an__law_states cd__law_states ct__law_states), sl__law_states⟩)
    (c__law_states : PySem.W.codeIn K cd__law_states "_law_states" = true)
    (k__law_states : PySem.W.keepIn K (.ref f__law_states) = true)
    (ag__law_due : PySem.W.nsIn K mainGlobals "_law_due" = some (some (.ref f__law_due)))
    (l__law_due : K.lookup f__law_due = some ⟨oc__law_due, od__law_due, .func (PySem.W.fnOf "_law_due" "_law_due" (defArgs st__law_due) (defBody st__law_due) (defScope st__law_due) .none kV__law_due dc__law_due pm__law_due an__law_due cd__law_due ct__law_due), sl__law_due⟩)
    (c__law_due : PySem.W.codeIn K cd__law_due "_law_due" = true)
    (k__law_due : PySem.W.keepIn K (.ref f__law_due) = true)
    (ag__law_seen : PySem.W.nsIn K mainGlobals "_law_seen" = some (some (.ref f__law_seen)))
    (l__law_seen : K.lookup f__law_seen = some ⟨oc__law_seen, od__law_seen, .func (PySem.W.fnOf "_law_seen" "_law_seen" (defArgs st__law_seen) (defBody st__law_seen) (defScope st__law_seen) .none kV__law_seen dc__law_seen pm__law_seen an__law_seen cd__law_seen ct__law_seen), sl__law_seen⟩)
    (c__law_seen : PySem.W.codeIn K cd__law_seen "_law_seen" = true)
    (k__law_seen : PySem.W.keepIn K (.ref f__law_seen) = true)
    (ag__law_sort : PySem.W.nsIn K mainGlobals "_law_sort" = some (some (.ref f__law_sort)))
    (l__law_sort : K.lookup f__law_sort = some ⟨oc__law_sort, od__law_sort, .func (PySem.W.fnOf "_law_sort" "_law_sort" (defArgs st__law_sort) (defBody st__law_sort) (defScope st__law_sort) .none kV__law_sort dc__law_sort pm__law_sort an__law_sort cd__law_sort ct__law_sort), sl__law_sort⟩)
    (c__law_sort : PySem.W.codeIn K cd__law_sort "_law_sort" = true)
    (k__law_sort : PySem.W.keepIn K (.ref f__law_sort) = true)
    (ag__law_told : PySem.W.nsIn K mainGlobals "_law_told" = some (some (.ref f__law_told)))
    (l__law_told : K.lookup f__law_told = some ⟨oc__law_told, od__law_told, .func (PySem.W.fnOf "_law_told" "_law_told" (defArgs st__law_told) (defBody st__law_told) (defScope st__law_told) .none kV__law_told dc__law_told pm__law_told an__law_told cd__law_told ct__law_told), sl__law_told⟩)
    (c__law_told : PySem.W.codeIn K cd__law_told "_law_told" = true)
    (k__law_told : PySem.W.keepIn K (.ref f__law_told) = true)
    (ag__law_caught : PySem.W.nsIn K mainGlobals "_law_caught" = some (some (.ref f__law_caught)))
    (l__law_caught : K.lookup f__law_caught = some ⟨oc__law_caught, od__law_caught, .func (PySem.W.fnOf "_law_caught" "_law_caught" (defArgs st__law_caught) (defBody st__law_caught) (defScope st__law_caught) .none kV__law_caught dc__law_caught pm__law_caught an__law_caught cd__law_caught ct__law_caught), sl__law_caught⟩)
    (c__law_caught : PySem.W.codeIn K cd__law_caught "_law_caught" = true)
    (k__law_caught : PySem.W.keepIn K (.ref f__law_caught) = true)
    (ag__law_is_word : PySem.W.nsIn K mainGlobals "_law_is_word" = some (some (.ref f__law_is_word)))
    (l__law_is_word : K.lookup f__law_is_word = some ⟨oc__law_is_word, od__law_is_word, .func (PySem.W.fnOf "_law_is_word" "_law_is_word" (defArgs st__law_is_word) (defBody st__law_is_word) (defScope st__law_is_word) .none kV__law_is_word dc__law_is_word pm__law_is_word an__law_is_word cd__law_is_word ct__law_is_word), sl__law_is_word⟩)
    (c__law_is_word : PySem.W.codeIn K cd__law_is_word "_law_is_word" = true)
    (k__law_is_word : PySem.W.keepIn K (.ref f__law_is_word) = true)
    (ag__law_digit : PySem.W.nsIn K mainGlobals "_law_digit" = some (some (.ref f__law_digit)))
    (l__law_digit : K.lookup f__law_digit = some ⟨oc__law_digit, od__law_digit, .func (PySem.W.fnOf "_law_digit" "_law_digit" (defArgs st__law_digit) (defBody st__law_digit) (defScope st__law_digit) .none kV__law_digit dc__law_digit pm__law_digit an__law_digit cd__law_digit ct__law_digit), sl__law_digit⟩)
    (c__law_digit : PySem.W.codeIn K cd__law_digit "_law_digit" = true)
    (k__law_digit : PySem.W.keepIn K (.ref f__law_digit) = true)
    (ag__law_is_state : PySem.W.nsIn K mainGlobals "_law_is_state" = some (some (.ref f__law_is_state)))
    (l__law_is_state : K.lookup f__law_is_state = some ⟨oc__law_is_state, od__law_is_state, .func (PySem.W.fnOf "_law_is_state" "_law_is_state" (defArgs st__law_is_state) (defBody st__law_is_state) (defScope st__law_is_state) .none kV__law_is_state dc__law_is_state pm__law_is_state an__law_is_state cd__law_is_state ct__law_is_state), sl__law_is_state⟩)
    (c__law_is_state : PySem.W.codeIn K cd__law_is_state "_law_is_state" = true)
    (k__law_is_state : PySem.W.keepIn K (.ref f__law_is_state) = true)
    (ag__law_read_row : PySem.W.nsIn K mainGlobals "_law_read_row" = some (some (.ref f__law_read_row)))
    (l__law_read_row : K.lookup f__law_read_row = some ⟨oc__law_read_row, od__law_read_row, .func (PySem.W.fnOf "_law_read_row" "_law_read_row" (defArgs st__law_read_row) (defBody st__law_read_row) (defScope st__law_read_row) .none kV__law_read_row dc__law_read_row pm__law_read_row an__law_read_row cd__law_read_row ct__law_read_row), sl__law_read_row⟩)
    (c__law_read_row : PySem.W.codeIn K cd__law_read_row "_law_read_row" = true)
    (k__law_read_row : PySem.W.keepIn K (.ref f__law_read_row) = true)
    (ag__law_read : PySem.W.nsIn K mainGlobals "_law_read" = some (some (.ref f__law_read)))
    (l__law_read : K.lookup f__law_read = some ⟨oc__law_read, od__law_read, .func (PySem.W.fnOf "_law_read" "_law_read" (defArgs st__law_read) (defBody st__law_read) (defScope st__law_read) .none kV__law_read dc__law_read pm__law_read an__law_read cd__law_read ct__law_read), sl__law_read⟩)
    (c__law_read : PySem.W.codeIn K cd__law_read "_law_read" = true)
    (k__law_read : PySem.W.keepIn K (.ref f__law_read) = true)
    (ag__law_bent : PySem.W.nsIn K mainGlobals "_law_bent" = some (some (.ref f__law_bent)))
    (l__law_bent : K.lookup f__law_bent = some ⟨oc__law_bent, od__law_bent, .func (PySem.W.fnOf "_law_bent" "_law_bent" (defArgs st__law_bent) (defBody st__law_bent) (defScope st__law_bent) .none kV__law_bent dc__law_bent pm__law_bent an__law_bent cd__law_bent ct__law_bent), sl__law_bent⟩)
    (c__law_bent : PySem.W.codeIn K cd__law_bent "_law_bent" = true)
    (k__law_bent : PySem.W.keepIn K (.ref f__law_bent) = true)
    (ag__law_sorts : PySem.W.nsIn K mainGlobals "_law_sorts" = some (some (.ref f__law_sorts)))
    (l__law_sorts : K.lookup f__law_sorts = some ⟨oc__law_sorts, od__law_sorts, .func (PySem.W.fnOf "_law_sorts" "_law_sorts" (defArgs st__law_sorts) (defBody st__law_sorts) (defScope st__law_sorts) .none kV__law_sorts dc__law_sorts pm__law_sorts an__law_sorts cd__law_sorts ct__law_sorts), sl__law_sorts⟩)
    (c__law_sorts : PySem.W.codeIn K cd__law_sorts "_law_sorts" = true)
    (k__law_sorts : PySem.W.keepIn K (.ref f__law_sorts) = true)
    (ag__law_other_kind : PySem.W.nsIn K mainGlobals "_law_other_kind" = some (some (.ref f__law_other_kind)))
    (l__law_other_kind : K.lookup f__law_other_kind = some ⟨oc__law_other_kind, od__law_other_kind, .func (PySem.W.fnOf "_law_other_kind" "_law_other_kind" (defArgs st__law_other_kind) (defBody st__law_other_kind) (defScope st__law_other_kind) .none kV__law_other_kind dc__law_other_kind pm__law_other_kind an__law_other_kind cd__law_other_kind ct__law_other_kind), sl__law_other_kind⟩)
    (c__law_other_kind : PySem.W.codeIn K cd__law_other_kind "_law_other_kind" = true)
    (k__law_other_kind : PySem.W.keepIn K (.ref f__law_other_kind) = true)
    (ag__law_over : PySem.W.nsIn K mainGlobals "_law_over" = some (some (.ref f__law_over)))
    (l__law_over : K.lookup f__law_over = some ⟨oc__law_over, od__law_over, .func (PySem.W.fnOf "_law_over" "_law_over" (defArgs st__law_over) (defBody st__law_over) (defScope st__law_over) .none kV__law_over dc__law_over pm__law_over an__law_over cd__law_over ct__law_over), sl__law_over⟩)
    (c__law_over : PySem.W.codeIn K cd__law_over "_law_over" = true)
    (k__law_over : PySem.W.keepIn K (.ref f__law_over) = true)
    (ag__law_right : PySem.W.nsIn K mainGlobals "_law_right" = some (some (.ref f__law_right)))
    (l__law_right : K.lookup f__law_right = some ⟨oc__law_right, od__law_right, .func (PySem.W.fnOf "_law_right" "_law_right" (defArgs st__law_right) (defBody st__law_right) (defScope st__law_right) .none kV__law_right dc__law_right pm__law_right an__law_right cd__law_right ct__law_right), sl__law_right⟩)
    (c__law_right : PySem.W.codeIn K cd__law_right "_law_right" = true)
    (k__law_right : PySem.W.keepIn K (.ref f__law_right) = true)
    (ag__law_all_right : PySem.W.nsIn K mainGlobals "_law_all_right" = some (some (.ref f__law_all_right)))
    (l__law_all_right : K.lookup f__law_all_right = some ⟨oc__law_all_right, od__law_all_right, .func (PySem.W.fnOf "_law_all_right" "_law_all_right" (defArgs st__law_all_right) (defBody st__law_all_right) (defScope st__law_all_right) .none kV__law_all_right dc__law_all_right pm__law_all_right an__law_all_right cd__law_all_right ct__law_all_right), sl__law_all_right⟩)
    (c__law_all_right : PySem.W.codeIn K cd__law_all_right "_law_all_right" = true)
    (k__law_all_right : PySem.W.keepIn K (.ref f__law_all_right) = true)
    (ag_law : PySem.W.nsIn K mainGlobals "law" = some (some (.ref f_law)))
    (l_law : K.lookup f_law = some ⟨oc_law, od_law, .func (PySem.W.fnOf "law" "law" (defArgs st_law) (defBody st_law) (defScope st_law) .none kV_law dc_law pm_law an_law cd_law ct_law), sl_law⟩)
    (c_law : PySem.W.codeIn K cd_law "law" = true)
    (k_law : PySem.W.keepIn K (.ref f_law) = true)
    (aC_Borders : PySem.W.nsIn K mainGlobals "Borders" = some (some (.ref C_Borders)))
    (pg_Borders : PySem.W.plainGet K C_Borders Str.empty = true)
    (hd_Borders : PySem.W.hasDictIn K C_Borders = true)
    (po_Borders : PySem.W.plainOver K C_Borders = true)
    (sa_Borders : PySem.W.findIn K (.ref C_Borders) "__setattr__" = some (some (.builtin "object.__setattr__")))
    (mk_Borders : PySem.W.makesIn K C_Borders = true)
    (kc_Borders : PySem.W.keepIn K (.ref C_Borders) = true)
    (ne_Borders : PySem.W.findIn K (.ref C_Borders) "__ne__" = some (some (.builtin "object.__ne__")))
    (mro_Borders : PySem.W.mroIn K C_Borders (.type "object") = some true)
    (bool_Borders : PySem.W.findIn K (.ref C_Borders) "__bool__" = some none)
    (hcl_Borders : PySem.W.findIn K (.ref C_Borders) "__class__" = some (some (.builtin "object.__class__")))
    (hsp_Borders : PySem.W.specialIn K (.builtin "object.__class__") "__get__" = some (some (.builtin "getset_descriptor.__get__")))
    (htk_Borders : PySem.W.takesIn K (.builtin "object.__class__") = some true)
    (kwNoneType_Borders : PySem.W.kitOne K (.type "NoneType") (.ref C_Borders) = some false)
    (kwbool_Borders : PySem.W.kitOne K (.type "bool") (.ref C_Borders) = some false)
    (kwint_Borders : PySem.W.kitOne K (.type "int") (.ref C_Borders) = some false)
    (kwstr_Borders : PySem.W.kitOne K (.type "str") (.ref C_Borders) = some false)
    (kwtuple_Borders : PySem.W.kitOne K (.type "tuple") (.ref C_Borders) = some false)
    (kwlist_Borders : PySem.W.kitOne K (.type "list") (.ref C_Borders) = some false)
    (kwdict_Borders : PySem.W.kitOne K (.type "dict") (.ref C_Borders) = some false)
    (na_whole_Borders : PySem.W.findIn K (.ref C_Borders) "whole" = some none)
    (na_all_states_Borders : PySem.W.findIn K (.ref C_Borders) "all_states" = some none)
    (na_corner_names_Borders : PySem.W.findIn K (.ref C_Borders) "corner_names" = some none)
    (na_motif_Borders : PySem.W.findIn K (.ref C_Borders) "motif" = some none)
    (na_piece_rows_Borders : PySem.W.findIn K (.ref C_Borders) "piece_rows" = some none)
    (na_corner_rows_Borders : PySem.W.findIn K (.ref C_Borders) "corner_rows" = some none)
    (nolen_Borders : PySem.W.findIn K (.ref C_Borders) "__len__" = some none)
    (l_Borders___init__ : K.lookup f_Borders___init__ = some ⟨oc_Borders___init__, od_Borders___init__, .func (PySem.W.fnOf "__init__" "Borders.__init__" (defArgs st_Borders___init__) (defBody st_Borders___init__) (defScope st_Borders___init__) .none kV_Borders___init__ dc_Borders___init__ pm_Borders___init__ an_Borders___init__ cd_Borders___init__ ct_Borders___init__), sl_Borders___init__⟩)
    (c_Borders___init__ : PySem.W.codeIn K cd_Borders___init__ "Borders.__init__" = true)
    (k_Borders___init__ : PySem.W.keepIn K (.ref f_Borders___init__) = true)
    (e_Borders___init__ : PySem.W.findIn K (.ref C_Borders) "__init__" = some (some (.ref f_Borders___init__)))
    (i_Borders___init__ : PySem.W.isFn K (.ref f_Borders___init__) = true)
    (l_Borders_text : K.lookup f_Borders_text = some ⟨oc_Borders_text, od_Borders_text, .func (PySem.W.fnOf "text" "Borders.text" (defArgs st_Borders_text) (defBody st_Borders_text) (defScope st_Borders_text) .none kV_Borders_text dc_Borders_text pm_Borders_text an_Borders_text cd_Borders_text ct_Borders_text), sl_Borders_text⟩)
    (c_Borders_text : PySem.W.codeIn K cd_Borders_text "Borders.text" = true)
    (k_Borders_text : PySem.W.keepIn K (.ref f_Borders_text) = true)
    (e_Borders_text : PySem.W.findIn K (.ref C_Borders) "text" = some (some (.ref p_Borders_text)))
    (g_Borders_text : PySem.W.specialIn K (.ref p_Borders_text) "__get__" = some (some (.builtin "property.__get__")))
    (tk_Borders_text : PySem.W.takesIn K (.ref p_Borders_text) = some true)
    (r_Borders_text : PySem.W.recIn K p_Borders_text "property" = some (.ref f_Borders_text :: rest_Borders_text))
    (l_Borders_signs : K.lookup f_Borders_signs = some ⟨oc_Borders_signs, od_Borders_signs, .func (PySem.W.fnOf "signs" "Borders.signs" (defArgs st_Borders_signs) (defBody st_Borders_signs) (defScope st_Borders_signs) .none kV_Borders_signs dc_Borders_signs pm_Borders_signs an_Borders_signs cd_Borders_signs ct_Borders_signs), sl_Borders_signs⟩)
    (c_Borders_signs : PySem.W.codeIn K cd_Borders_signs "Borders.signs" = true)
    (k_Borders_signs : PySem.W.keepIn K (.ref f_Borders_signs) = true)
    (e_Borders_signs : PySem.W.findIn K (.ref C_Borders) "signs" = some (some (.ref p_Borders_signs)))
    (g_Borders_signs : PySem.W.specialIn K (.ref p_Borders_signs) "__get__" = some (some (.builtin "property.__get__")))
    (tk_Borders_signs : PySem.W.takesIn K (.ref p_Borders_signs) = some true)
    (r_Borders_signs : PySem.W.recIn K p_Borders_signs "property" = some (.ref f_Borders_signs :: rest_Borders_signs))
    (l_Borders_states : K.lookup f_Borders_states = some ⟨oc_Borders_states, od_Borders_states, .func (PySem.W.fnOf "states" "Borders.states" (defArgs st_Borders_states) (defBody st_Borders_states) (defScope st_Borders_states) .none kV_Borders_states dc_Borders_states pm_Borders_states an_Borders_states cd_Borders_states ct_Borders_states), sl_Borders_states⟩)
    (c_Borders_states : PySem.W.codeIn K cd_Borders_states "Borders.states" = true)
    (k_Borders_states : PySem.W.keepIn K (.ref f_Borders_states) = true)
    (e_Borders_states : PySem.W.findIn K (.ref C_Borders) "states" = some (some (.ref p_Borders_states)))
    (g_Borders_states : PySem.W.specialIn K (.ref p_Borders_states) "__get__" = some (some (.builtin "property.__get__")))
    (tk_Borders_states : PySem.W.takesIn K (.ref p_Borders_states) = some true)
    (r_Borders_states : PySem.W.recIn K p_Borders_states "property" = some (.ref f_Borders_states :: rest_Borders_states))
    (l_Borders_pieces : K.lookup f_Borders_pieces = some ⟨oc_Borders_pieces, od_Borders_pieces, .func (PySem.W.fnOf "pieces" "Borders.pieces" (defArgs st_Borders_pieces) (defBody st_Borders_pieces) (defScope st_Borders_pieces) .none kV_Borders_pieces dc_Borders_pieces pm_Borders_pieces an_Borders_pieces cd_Borders_pieces ct_Borders_pieces), sl_Borders_pieces⟩)
    (c_Borders_pieces : PySem.W.codeIn K cd_Borders_pieces "Borders.pieces" = true)
    (k_Borders_pieces : PySem.W.keepIn K (.ref f_Borders_pieces) = true)
    (e_Borders_pieces : PySem.W.findIn K (.ref C_Borders) "pieces" = some (some (.ref p_Borders_pieces)))
    (g_Borders_pieces : PySem.W.specialIn K (.ref p_Borders_pieces) "__get__" = some (some (.builtin "property.__get__")))
    (tk_Borders_pieces : PySem.W.takesIn K (.ref p_Borders_pieces) = some true)
    (r_Borders_pieces : PySem.W.recIn K p_Borders_pieces "property" = some (.ref f_Borders_pieces :: rest_Borders_pieces))
    (l_Borders_corners : K.lookup f_Borders_corners = some ⟨oc_Borders_corners, od_Borders_corners, .func (PySem.W.fnOf "corners" "Borders.corners" (defArgs st_Borders_corners) (defBody st_Borders_corners) (defScope st_Borders_corners) .none kV_Borders_corners dc_Borders_corners pm_Borders_corners an_Borders_corners cd_Borders_corners ct_Borders_corners), sl_Borders_corners⟩)
    (c_Borders_corners : PySem.W.codeIn K cd_Borders_corners "Borders.corners" = true)
    (k_Borders_corners : PySem.W.keepIn K (.ref f_Borders_corners) = true)
    (e_Borders_corners : PySem.W.findIn K (.ref C_Borders) "corners" = some (some (.ref p_Borders_corners)))
    (g_Borders_corners : PySem.W.specialIn K (.ref p_Borders_corners) "__get__" = some (some (.builtin "property.__get__")))
    (tk_Borders_corners : PySem.W.takesIn K (.ref p_Borders_corners) = some true)
    (r_Borders_corners : PySem.W.recIn K p_Borders_corners "property" = some (.ref f_Borders_corners :: rest_Borders_corners))
    (l_Borders_names : K.lookup f_Borders_names = some ⟨oc_Borders_names, od_Borders_names, .func (PySem.W.fnOf "names" "Borders.names" (defArgs st_Borders_names) (defBody st_Borders_names) (defScope st_Borders_names) .none kV_Borders_names dc_Borders_names pm_Borders_names an_Borders_names cd_Borders_names ct_Borders_names), sl_Borders_names⟩)
    (c_Borders_names : PySem.W.codeIn K cd_Borders_names "Borders.names" = true)
    (k_Borders_names : PySem.W.keepIn K (.ref f_Borders_names) = true)
    (e_Borders_names : PySem.W.findIn K (.ref C_Borders) "names" = some (some (.ref p_Borders_names)))
    (g_Borders_names : PySem.W.specialIn K (.ref p_Borders_names) "__get__" = some (some (.builtin "property.__get__")))
    (tk_Borders_names : PySem.W.takesIn K (.ref p_Borders_names) = some true)
    (r_Borders_names : PySem.W.recIn K p_Borders_names "property" = some (.ref f_Borders_names :: rest_Borders_names))
    (l_Borders___eq__ : K.lookup f_Borders___eq__ = some ⟨oc_Borders___eq__, od_Borders___eq__, .func (PySem.W.fnOf "__eq__" "Borders.__eq__" (defArgs st_Borders___eq__) (defBody st_Borders___eq__) (defScope st_Borders___eq__) .none kV_Borders___eq__ dc_Borders___eq__ pm_Borders___eq__ an_Borders___eq__ cd_Borders___eq__ ct_Borders___eq__), sl_Borders___eq__⟩)
    (c_Borders___eq__ : PySem.W.codeIn K cd_Borders___eq__ "Borders.__eq__" = true)
    (k_Borders___eq__ : PySem.W.keepIn K (.ref f_Borders___eq__) = true)
    (e_Borders___eq__ : PySem.W.findIn K (.ref C_Borders) "__eq__" = some (some (.ref f_Borders___eq__)))
    (i_Borders___eq__ : PySem.W.isFn K (.ref f_Borders___eq__) = true)
    (l_Borders___str__ : K.lookup f_Borders___str__ = some ⟨oc_Borders___str__, od_Borders___str__, .func (PySem.W.fnOf "__str__" "Borders.__str__" (defArgs st_Borders___str__) (defBody st_Borders___str__) (defScope st_Borders___str__) .none kV_Borders___str__ dc_Borders___str__ pm_Borders___str__ an_Borders___str__ cd_Borders___str__ ct_Borders___str__), sl_Borders___str__⟩)
    (c_Borders___str__ : PySem.W.codeIn K cd_Borders___str__ "Borders.__str__" = true)
    (k_Borders___str__ : PySem.W.keepIn K (.ref f_Borders___str__) = true)
    (e_Borders___str__ : PySem.W.findIn K (.ref C_Borders) "__str__" = some (some (.ref f_Borders___str__)))
    (i_Borders___str__ : PySem.W.isFn K (.ref f_Borders___str__) = true)
    (aC_BadValue : PySem.W.nsIn K mainGlobals "BadValue" = some (some (.ref C_BadValue)))
    (aC_InvalidText : PySem.W.nsIn K mainGlobals "InvalidText" = some (some (.ref C_InvalidText)))
    (aC_InvalidLine : PySem.W.nsIn K mainGlobals "InvalidLine" = some (some (.ref C_InvalidLine)))
    (aC_InvalidState : PySem.W.nsIn K mainGlobals "InvalidState" = some (some (.ref C_InvalidState)))
    (aC_InvalidNumber : PySem.W.nsIn K mainGlobals "InvalidNumber" = some (some (.ref C_InvalidNumber)))
    (aC_InvalidName : PySem.W.nsIn K mainGlobals "InvalidName" = some (some (.ref C_InvalidName)))
    (aC_InvalidIndex : PySem.W.nsIn K mainGlobals "InvalidIndex" = some (some (.ref C_InvalidIndex)))
    (aC_InvalidWish : PySem.W.nsIn K mainGlobals "InvalidWish" = some (some (.ref C_InvalidWish)))
    (aC_InvalidClaim : PySem.W.nsIn K mainGlobals "InvalidClaim" = some (some (.ref C_InvalidClaim)))
    (aC_NotBorders : PySem.W.nsIn K mainGlobals "NotBorders" = some (some (.ref C_NotBorders)))
    (aC_NotARoom : PySem.W.nsIn K mainGlobals "NotARoom" = some (some (.ref C_NotARoom)))
    (aC_InvalidSizes : PySem.W.nsIn K mainGlobals "InvalidSizes" = some (some (.ref C_InvalidSizes)))
    (aC_InvalidFilling : PySem.W.nsIn K mainGlobals "InvalidFilling" = some (some (.ref C_InvalidFilling)))
    (aC_InvalidNames : PySem.W.nsIn K mainGlobals "InvalidNames" = some (some (.ref C_InvalidNames)))
    (aC_InvalidLines : PySem.W.nsIn K mainGlobals "InvalidLines" = some (some (.ref C_InvalidLines)))
    (aC_BadName : PySem.W.nsIn K mainGlobals "BadName" = some (some (.ref C_BadName)))
    (aC_UnknownName : PySem.W.nsIn K mainGlobals "UnknownName" = some (some (.ref C_UnknownName)))
    (aC_InUse : PySem.W.nsIn K mainGlobals "InUse" = some (some (.ref C_InUse)))
    (aC_NoAnswer : PySem.W.nsIn K mainGlobals "NoAnswer" = some (some (.ref C_NoAnswer)))
    (aC_OtherLetters : PySem.W.nsIn K mainGlobals "OtherLetters" = some (some (.ref C_OtherLetters)))
    (aC_TooMany : PySem.W.nsIn K mainGlobals "TooMany" = some (some (.ref C_TooMany)))
    (aC_NothingToUndo : PySem.W.nsIn K mainGlobals "NothingToUndo" = some (some (.ref C_NothingToUndo)))
    (aC_NotAsked : PySem.W.nsIn K mainGlobals "NotAsked" = some (some (.ref C_NotAsked)))
    (aC_Broken : PySem.W.nsIn K mainGlobals "Broken" = some (some (.ref C_Broken)))
    (oex_InvalidText : oexB K C_InvalidText = true)
    (ecl_InvalidText : (PySem.W.clsIn K C_InvalidText).isSome = true)
    (ehd_InvalidText : PySem.W.hasDictIn K C_InvalidText = true)
    (ega_InvalidText : PySem.W.findIn K (.ref C_InvalidText) "__getattribute__" = some (some (.builtin "BaseException.__getattribute__")))
    (egt_InvalidText : PySem.W.findIn K (.ref C_InvalidText) "__getattr__" = some none)
    (esu_InvalidText : PySem.W.subIn K (.ref C_InvalidText) (.type "BaseException") = some true)
    (ehc_InvalidText : PySem.W.findIn K (.ref C_InvalidText) "__class__" = some (some (.builtin "object.__class__")))
    (esp_InvalidText : PySem.W.specialIn K (.builtin "object.__class__") "__get__" = some (some (.builtin "getset_descriptor.__get__")))
    (etk_InvalidText : PySem.W.takesIn K (.builtin "object.__class__") = some true)
    (emr_InvalidText : PySem.W.mroIn K C_InvalidText (.type "object") = some true)
    (esa_InvalidText : PySem.W.findIn K (.ref C_InvalidText) "__setattr__" = some (some (.builtin "object.__setattr__")))
    (ety_InvalidText : PySem.W.typeIn K (.ref C_InvalidText) = some (.type "type"))
    (ekp_InvalidText : PySem.W.keepIn K (.ref C_InvalidText) = true)
    (enogiven_InvalidText : PySem.W.findIn K (.ref C_InvalidText) "given" = some none)
    (enoindex_InvalidText : PySem.W.findIn K (.ref C_InvalidText) "index" = some none)
    (enoshown_InvalidText : PySem.W.findIn K (.ref C_InvalidText) "shown" = some none)
    (enolimit_InvalidText : PySem.W.findIn K (.ref C_InvalidText) "limit" = some none)
    (exm_InvalidText : PySem.W.exmAny K (.ref C_InvalidText) [.ref C_BadValue, .ref C_BadName, .ref C_NoAnswer] = some true)
    (kt_InvalidText_BadValue : PySem.W.kitOne K (.ref C_InvalidText) (.ref C_BadValue) = some true)
    (kt_InvalidText_InvalidText : PySem.W.kitOne K (.ref C_InvalidText) (.ref C_InvalidText) = some true)
    (kt_InvalidText_InvalidLine : PySem.W.kitOne K (.ref C_InvalidText) (.ref C_InvalidLine) = some false)
    (kt_InvalidText_InvalidState : PySem.W.kitOne K (.ref C_InvalidText) (.ref C_InvalidState) = some false)
    (kt_InvalidText_InvalidNumber : PySem.W.kitOne K (.ref C_InvalidText) (.ref C_InvalidNumber) = some false)
    (kt_InvalidText_InvalidName : PySem.W.kitOne K (.ref C_InvalidText) (.ref C_InvalidName) = some false)
    (kt_InvalidText_InvalidIndex : PySem.W.kitOne K (.ref C_InvalidText) (.ref C_InvalidIndex) = some false)
    (kt_InvalidText_InvalidWish : PySem.W.kitOne K (.ref C_InvalidText) (.ref C_InvalidWish) = some false)
    (kt_InvalidText_InvalidClaim : PySem.W.kitOne K (.ref C_InvalidText) (.ref C_InvalidClaim) = some false)
    (kt_InvalidText_NotBorders : PySem.W.kitOne K (.ref C_InvalidText) (.ref C_NotBorders) = some false)
    (kt_InvalidText_NotARoom : PySem.W.kitOne K (.ref C_InvalidText) (.ref C_NotARoom) = some false)
    (kt_InvalidText_InvalidSizes : PySem.W.kitOne K (.ref C_InvalidText) (.ref C_InvalidSizes) = some false)
    (kt_InvalidText_InvalidFilling : PySem.W.kitOne K (.ref C_InvalidText) (.ref C_InvalidFilling) = some false)
    (kt_InvalidText_InvalidNames : PySem.W.kitOne K (.ref C_InvalidText) (.ref C_InvalidNames) = some false)
    (kt_InvalidText_InvalidLines : PySem.W.kitOne K (.ref C_InvalidText) (.ref C_InvalidLines) = some false)
    (kt_InvalidText_BadName : PySem.W.kitOne K (.ref C_InvalidText) (.ref C_BadName) = some false)
    (kt_InvalidText_UnknownName : PySem.W.kitOne K (.ref C_InvalidText) (.ref C_UnknownName) = some false)
    (kt_InvalidText_InUse : PySem.W.kitOne K (.ref C_InvalidText) (.ref C_InUse) = some false)
    (kt_InvalidText_NoAnswer : PySem.W.kitOne K (.ref C_InvalidText) (.ref C_NoAnswer) = some false)
    (kt_InvalidText_OtherLetters : PySem.W.kitOne K (.ref C_InvalidText) (.ref C_OtherLetters) = some false)
    (kt_InvalidText_TooMany : PySem.W.kitOne K (.ref C_InvalidText) (.ref C_TooMany) = some false)
    (kt_InvalidText_NothingToUndo : PySem.W.kitOne K (.ref C_InvalidText) (.ref C_NothingToUndo) = some false)
    (kt_InvalidText_NotAsked : PySem.W.kitOne K (.ref C_InvalidText) (.ref C_NotAsked) = some false)
    (kt_InvalidText_Broken : PySem.W.kitOne K (.ref C_InvalidText) (.ref C_Broken) = some false)
    (kt_InvalidText_ValueError : PySem.W.kitOne K (.ref C_InvalidText) (.type "ValueError") = some true)
    (kt_InvalidText_LookupError : PySem.W.kitOne K (.ref C_InvalidText) (.type "LookupError") = some false)
    (kt_InvalidText_ArithmeticError : PySem.W.kitOne K (.ref C_InvalidText) (.type "ArithmeticError") = some false)
    (e_InvalidText_I : PySem.W.findIn K (.ref C_InvalidText) "__init__" = some (some (.ref f_InvalidText_I)))
    (l_InvalidText_I : K.lookup f_InvalidText_I = some ⟨oc_InvalidText_I, od_InvalidText_I, .func (PySem.W.fnOf "__init__" "InvalidText.__init__" (defArgs stI_InvalidText) (defBody stI_InvalidText) (defScope stI_InvalidText) .none kV_InvalidText_I dc_InvalidText_I pm_InvalidText_I an_InvalidText_I cd_InvalidText_I ct_InvalidText_I), sl_InvalidText_I⟩)
    (c_InvalidText_I : PySem.W.codeIn K cd_InvalidText_I "InvalidText.__init__" = true)
    (k_InvalidText_I : PySem.W.keepIn K (.ref f_InvalidText_I) = true)
    (t_InvalidText_I : PySem.W.typeIn K (.ref f_InvalidText_I) = some (.type "function"))
    (hcd : cd__law_right = .ref cL)
    (hTab : tabsK K = [(P, (⟨lamQ, rfl⟩ : LQ))]) : Tx K mg where
  n_ValueError := PySem.W.mg_none_of X G z_ValueError
  n_LookupError := PySem.W.mg_none_of X G z_LookupError
  n_ArithmeticError := PySem.W.mg_none_of X G z_ArithmeticError
  n_all := PySem.W.mg_none_of X G z_all
  n_len := PySem.W.mg_none_of X G z_len
  n_isinstance := PySem.W.mg_none_of X G z_isinstance
  n_str := PySem.W.mg_none_of X G z_str
  n_int := PySem.W.mg_none_of X G z_int
  n_tuple := PySem.W.mg_none_of X G z_tuple
  n_range := PySem.W.mg_none_of X G z_range
  n_sorted := PySem.W.mg_none_of X G z_sorted
  n_set := PySem.W.mg_none_of X G z_set
  n_abs := PySem.W.mg_none_of X G z_abs
  n_divmod := PySem.W.mg_none_of X G z_divmod
  n_min := PySem.W.mg_none_of X G z_min
  n_repr := PySem.W.mg_none_of X G z_repr
  n_max := PySem.W.mg_none_of X G z_max
  c_LETTERS := ⟨_, PySem.W.mg_of X G s_LETTERS⟩
  c_DIGITS := ⟨_, PySem.W.mg_of X G s_DIGITS⟩
  c_LONGEST_WORD := ⟨_, PySem.W.mg_of X G s_LONGEST_WORD⟩
  c_MOST_SIGNS := ⟨_, PySem.W.mg_of X G s_MOST_SIGNS⟩
  c_MOST_PIECES := ⟨_, PySem.W.mg_of X G s_MOST_PIECES⟩
  c_MOST_CORNERS := ⟨_, PySem.W.mg_of X G s_MOST_CORNERS⟩
  c_MOST_NAMES := ⟨_, PySem.W.mg_of X G s_MOST_NAMES⟩
  c_MOST_LONG := ⟨_, PySem.W.mg_of X G s_MOST_LONG⟩
  c_MOST_COST := ⟨_, PySem.W.mg_of X G s_MOST_COST⟩
  c_TURNS := ⟨_, PySem.W.mg_of X G s_TURNS, fun H => .inr ⟨_, _, _, l_TURNS, rfl, rfl, by show 2 ≤ sizeLine; decide, .cons ⟨_, rfl⟩ (.cons ⟨_, rfl⟩ (.nil))⟩⟩
  a_is_letters := f_is_letters
  d_is_letters := PySem.W.fnOf "is_letters" "is_letters" (defArgs st_is_letters) (defBody st_is_letters) (defScope st_is_letters) .none kV_is_letters dc_is_letters pm_is_letters an_is_letters cd_is_letters ct_is_letters
  F_is_letters := fun_mk (st := st_is_letters) l_is_letters c_is_letters k_is_letters
  b_is_letters := (fun_mk (st := st_is_letters) l_is_letters c_is_letters k_is_letters).binds (ps := ["text", "most"]) fun _ _ _ _ _ _ us hl => match us, hl with | [_, _], _ => rfl
  g_is_letters := PySem.W.mg_of X G ag_is_letters
  a_is_word := f_is_word
  d_is_word := PySem.W.fnOf "is_word" "is_word" (defArgs st_is_word) (defBody st_is_word) (defScope st_is_word) .none kV_is_word dc_is_word pm_is_word an_is_word cd_is_word ct_is_word
  F_is_word := fun_mk (st := st_is_word) l_is_word c_is_word k_is_word
  b_is_word := (fun_mk (st := st_is_word) l_is_word c_is_word k_is_word).binds (ps := ["value"]) fun _ _ _ _ _ _ us hl => match us, hl with | [_], _ => rfl
  g_is_word := PySem.W.mg_of X G ag_is_word
  a_number_of := f_number_of
  d_number_of := PySem.W.fnOf "number_of" "number_of" (defArgs st_number_of) (defBody st_number_of) (defScope st_number_of) .none kV_number_of dc_number_of pm_number_of an_number_of cd_number_of ct_number_of
  F_number_of := fun_mk (st := st_number_of) l_number_of c_number_of k_number_of
  b_number_of := (fun_mk (st := st_number_of) l_number_of c_number_of k_number_of).binds (ps := ["text", "least", "most"]) fun _ _ _ _ _ _ us hl => match us, hl with | [_, _, _], _ => rfl
  g_number_of := PySem.W.mg_of X G ag_number_of
  a_signs_of := f_signs_of
  d_signs_of := PySem.W.fnOf "signs_of" "signs_of" (defArgs st_signs_of) (defBody st_signs_of) (defScope st_signs_of) .none kV_signs_of dc_signs_of pm_signs_of an_signs_of cd_signs_of ct_signs_of
  F_signs_of := fun_mk (st := st_signs_of) l_signs_of c_signs_of k_signs_of
  b_signs_of := (fun_mk (st := st_signs_of) l_signs_of c_signs_of k_signs_of).binds (ps := ["line"]) fun _ _ _ _ _ _ us hl => match us, hl with | [_], _ => rfl
  g_signs_of := PySem.W.mg_of X G ag_signs_of
  a_states_of := f_states_of
  d_states_of := PySem.W.fnOf "states_of" "states_of" (defArgs st_states_of) (defBody st_states_of) (defScope st_states_of) .none kV_states_of dc_states_of pm_states_of an_states_of cd_states_of ct_states_of
  F_states_of := fun_mk (st := st_states_of) l_states_of c_states_of k_states_of
  b_states_of := (fun_mk (st := st_states_of) l_states_of c_states_of k_states_of).binds (ps := ["signs"]) fun _ _ _ _ _ _ us hl => match us, hl with | [_], _ => rfl
  g_states_of := PySem.W.mg_of X G ag_states_of
  a_piece_of := f_piece_of
  d_piece_of := PySem.W.fnOf "piece_of" "piece_of" (defArgs st_piece_of) (defBody st_piece_of) (defScope st_piece_of) .none kV_piece_of dc_piece_of pm_piece_of an_piece_of cd_piece_of ct_piece_of
  F_piece_of := fun_mk (st := st_piece_of) l_piece_of c_piece_of k_piece_of
  b_piece_of := (fun_mk (st := st_piece_of) l_piece_of c_piece_of k_piece_of).binds (ps := ["line", "states"]) fun _ _ _ _ _ _ us hl => match us, hl with | [_, _], _ => rfl
  g_piece_of := PySem.W.mg_of X G ag_piece_of
  a_corner_of := f_corner_of
  d_corner_of := PySem.W.fnOf "corner_of" "corner_of" (defArgs st_corner_of) (defBody st_corner_of) (defScope st_corner_of) .none kV_corner_of dc_corner_of pm_corner_of an_corner_of cd_corner_of ct_corner_of
  F_corner_of := fun_mk (st := st_corner_of) l_corner_of c_corner_of k_corner_of
  b_corner_of := (fun_mk (st := st_corner_of) l_corner_of c_corner_of k_corner_of).binds (ps := ["line", "states"]) fun _ _ _ _ _ _ us hl => match us, hl with | [_, _], _ => rfl
  g_corner_of := PySem.W.mg_of X G ag_corner_of
  a_names_of := f_names_of
  d_names_of := PySem.W.fnOf "names_of" "names_of" (defArgs st_names_of) (defBody st_names_of) (defScope st_names_of) .none kV_names_of dc_names_of pm_names_of an_names_of cd_names_of ct_names_of
  F_names_of := fun_mk (st := st_names_of) l_names_of c_names_of k_names_of
  b_names_of := (fun_mk (st := st_names_of) l_names_of c_names_of k_names_of).binds (ps := ["rows"]) fun _ _ _ _ _ _ us hl => match us, hl with | [_], _ => rfl
  g_names_of := PySem.W.mg_of X G ag_names_of
  a_pieces_fit := f_pieces_fit
  d_pieces_fit := PySem.W.fnOf "pieces_fit" "pieces_fit" (defArgs st_pieces_fit) (defBody st_pieces_fit) (defScope st_pieces_fit) .none kV_pieces_fit dc_pieces_fit pm_pieces_fit an_pieces_fit cd_pieces_fit ct_pieces_fit
  F_pieces_fit := fun_mk (st := st_pieces_fit) l_pieces_fit c_pieces_fit k_pieces_fit
  b_pieces_fit := (fun_mk (st := st_pieces_fit) l_pieces_fit c_pieces_fit k_pieces_fit).binds (ps := ["pieces"]) fun _ _ _ _ _ _ us hl => match us, hl with | [_], _ => rfl
  g_pieces_fit := PySem.W.mg_of X G ag_pieces_fit
  a_corners_fit := f_corners_fit
  d_corners_fit := PySem.W.fnOf "corners_fit" "corners_fit" (defArgs st_corners_fit) (defBody st_corners_fit) (defScope st_corners_fit) .none kV_corners_fit dc_corners_fit pm_corners_fit an_corners_fit cd_corners_fit ct_corners_fit
  F_corners_fit := fun_mk (st := st_corners_fit) l_corners_fit c_corners_fit k_corners_fit
  b_corners_fit := (fun_mk (st := st_corners_fit) l_corners_fit c_corners_fit k_corners_fit).binds (ps := ["corners"]) fun _ _ _ _ _ _ us hl => match us, hl with | [_], _ => rfl
  g_corners_fit := PySem.W.mg_of X G ag_corners_fit
  a_parts_of := f_parts_of
  d_parts_of := PySem.W.fnOf "parts_of" "parts_of" (defArgs st_parts_of) (defBody st_parts_of) (defScope st_parts_of) .none kV_parts_of dc_parts_of pm_parts_of an_parts_of cd_parts_of ct_parts_of
  F_parts_of := fun_mk (st := st_parts_of) l_parts_of c_parts_of k_parts_of
  b_parts_of := (fun_mk (st := st_parts_of) l_parts_of c_parts_of k_parts_of).binds (ps := ["text"]) fun _ _ _ _ _ _ us hl => match us, hl with | [_], _ => rfl
  g_parts_of := PySem.W.mg_of X G ag_parts_of
  a__law_spring := f__law_spring
  d__law_spring := PySem.W.fnOf "_law_spring" "_law_spring" (defArgs st__law_spring) (defBody st__law_spring) (defScope st__law_spring) .none kV__law_spring dc__law_spring pm__law_spring an__law_spring cd__law_spring ct__law_spring
  F__law_spring := fun_mk (st := st__law_spring) l__law_spring c__law_spring k__law_spring
  b__law_spring := (fun_mk (st := st__law_spring) l__law_spring c__law_spring k__law_spring).binds (ps := ["_law_cells", "_law_at"]) fun _ _ _ _ _ _ us hl => match us, hl with | [_, _], _ => rfl
  g__law_spring := PySem.W.mg_of X G ag__law_spring
  a__law_take := f__law_take
  d__law_take := PySem.W.fnOf "_law_take" "_law_take" (defArgs st__law_take) (defBody st__law_take) (defScope st__law_take) .none kV__law_take dc__law_take pm__law_take an__law_take cd__law_take ct__law_take
  F__law_take := fun_mk (st := st__law_take) l__law_take c__law_take k__law_take
  b__law_take := (fun_mk (st := st__law_take) l__law_take c__law_take k__law_take).binds (ps := ["_law_spring_here", "_law_much"]) fun _ _ _ _ _ _ us hl => match us, hl with | [_, _], _ => rfl
  g__law_take := PySem.W.mg_of X G ag__law_take
  a__law_word := f__law_word
  d__law_word := PySem.W.fnOf "_law_word" "_law_word" (defArgs st__law_word) (defBody st__law_word) (defScope st__law_word) .none kV__law_word dc__law_word pm__law_word an__law_word cd__law_word ct__law_word
  F__law_word := fun_mk (st := st__law_word) l__law_word c__law_word k__law_word
  b__law_word := (fun_mk (st := st__law_word) l__law_word c__law_word k__law_word).binds (ps := ["_law_spring_here"]) fun _ _ _ _ _ _ us hl => match us, hl with | [_], _ => rfl
  g__law_word := PySem.W.mg_of X G ag__law_word
  a__law_words := f__law_words
  d__law_words := PySem.W.fnOf "_law_words" "_law_words" (defArgs st__law_words) (defBody st__law_words) (defScope st__law_words) .none kV__law_words dc__law_words pm__law_words an__law_words cd__law_words ct__law_words
  F__law_words := fun_mk (st := st__law_words) l__law_words c__law_words k__law_words
  b__law_words := (fun_mk (st := st__law_words) l__law_words c__law_words k__law_words).binds (ps := ["_law_spring_here", "_law_much"]) fun _ _ _ _ _ _ us hl => match us, hl with | [_, _], _ => rfl
  g__law_words := PySem.W.mg_of X G ag__law_words
  a__law_state := f__law_state
  d__law_state := PySem.W.fnOf "_law_state" "_law_state" (defArgs st__law_state) (defBody st__law_state) (defScope st__law_state) .none kV__law_state dc__law_state pm__law_state an__law_state cd__law_state ct__law_state
  F__law_state := fun_mk (st := st__law_state) l__law_state c__law_state k__law_state
  b__law_state := (fun_mk (st := st__law_state) l__law_state c__law_state k__law_state).binds (ps := ["_law_spring_here", "_law_period"]) fun _ _ _ _ _ _ us hl => match us, hl with | [_, _], _ => rfl
  g__law_state := PySem.W.mg_of X G ag__law_state
  a__law_piece := f__law_piece
  d__law_piece := PySem.W.fnOf "_law_piece" "_law_piece" (defArgs st__law_piece) (defBody st__law_piece) (defScope st__law_piece) .none kV__law_piece dc__law_piece pm__law_piece an__law_piece cd__law_piece ct__law_piece
  F__law_piece := fun_mk (st := st__law_piece) l__law_piece c__law_piece k__law_piece
  b__law_piece := (fun_mk (st := st__law_piece) l__law_piece c__law_piece k__law_piece).binds (ps := ["_law_spring_here", "_law_title", "_law_period"]) fun _ _ _ _ _ _ us hl => match us, hl with | [_, _, _], _ => rfl
  g__law_piece := PySem.W.mg_of X G ag__law_piece
  a__law_joint := f__law_joint
  d__law_joint := PySem.W.fnOf "_law_joint" "_law_joint" (defArgs st__law_joint) (defBody st__law_joint) (defScope st__law_joint) .none kV__law_joint dc__law_joint pm__law_joint an__law_joint cd__law_joint ct__law_joint
  F__law_joint := fun_mk (st := st__law_joint) l__law_joint c__law_joint k__law_joint
  b__law_joint := (fun_mk (st := st__law_joint) l__law_joint c__law_joint k__law_joint).binds (ps := ["_law_spring_here", "_law_title", "_law_period"]) fun _ _ _ _ _ _ us hl => match us, hl with | [_, _, _], _ => rfl
  g__law_joint := PySem.W.mg_of X G ag__law_joint
  a__law_spec := f__law_spec
  d__law_spec := PySem.W.fnOf "_law_spec" "_law_spec" (defArgs st__law_spec) (defBody st__law_spec) (defScope st__law_spec) .none kV__law_spec dc__law_spec pm__law_spec an__law_spec cd__law_spec ct__law_spec
  F__law_spec := fun_mk (st := st__law_spec) l__law_spec c__law_spec k__law_spec
  b__law_spec := (fun_mk (st := st__law_spec) l__law_spec c__law_spec k__law_spec).binds (ps := ["_law_spring_here"]) fun _ _ _ _ _ _ us hl => match us, hl with | [_], _ => rfl
  g__law_spec := PySem.W.mg_of X G ag__law_spec
  a__law_piece_row := f__law_piece_row
  d__law_piece_row := PySem.W.fnOf "_law_piece_row" "_law_piece_row" (defArgs st__law_piece_row) (defBody st__law_piece_row) (defScope st__law_piece_row) .none kV__law_piece_row dc__law_piece_row pm__law_piece_row an__law_piece_row cd__law_piece_row ct__law_piece_row
  F__law_piece_row := fun_mk (st := st__law_piece_row) l__law_piece_row c__law_piece_row k__law_piece_row
  b__law_piece_row := (fun_mk (st := st__law_piece_row) l__law_piece_row c__law_piece_row k__law_piece_row).binds (ps := ["_law_part"]) fun _ _ _ _ _ _ us hl => match us, hl with | [_], _ => rfl
  g__law_piece_row := PySem.W.mg_of X G ag__law_piece_row
  a__law_joint_row := f__law_joint_row
  d__law_joint_row := PySem.W.fnOf "_law_joint_row" "_law_joint_row" (defArgs st__law_joint_row) (defBody st__law_joint_row) (defScope st__law_joint_row) .none kV__law_joint_row dc__law_joint_row pm__law_joint_row an__law_joint_row cd__law_joint_row ct__law_joint_row
  F__law_joint_row := fun_mk (st := st__law_joint_row) l__law_joint_row c__law_joint_row k__law_joint_row
  b__law_joint_row := (fun_mk (st := st__law_joint_row) l__law_joint_row c__law_joint_row k__law_joint_row).binds (ps := ["_law_joint_here"]) fun _ _ _ _ _ _ us hl => match us, hl with | [_], _ => rfl
  g__law_joint_row := PySem.W.mg_of X G ag__law_joint_row
  a__law_rows := f__law_rows
  d__law_rows := PySem.W.fnOf "_law_rows" "_law_rows" (defArgs st__law_rows) (defBody st__law_rows) (defScope st__law_rows) .none kV__law_rows dc__law_rows pm__law_rows an__law_rows cd__law_rows ct__law_rows
  F__law_rows := fun_mk (st := st__law_rows) l__law_rows c__law_rows k__law_rows
  b__law_rows := (fun_mk (st := st__law_rows) l__law_rows c__law_rows k__law_rows).binds (ps := ["_law_spec_here"]) fun _ _ _ _ _ _ us hl => match us, hl with | [_], _ => rfl
  g__law_rows := PySem.W.mg_of X G ag__law_rows
  a__law_joined := f__law_joined
  d__law_joined := PySem.W.fnOf "_law_joined" "_law_joined" (defArgs st__law_joined) (defBody st__law_joined) (defScope st__law_joined) .none kV__law_joined dc__law_joined pm__law_joined an__law_joined cd__law_joined ct__law_joined
  F__law_joined := fun_mk (st := st__law_joined) l__law_joined c__law_joined k__law_joined
  b__law_joined := (fun_mk (st := st__law_joined) l__law_joined c__law_joined k__law_joined).binds (ps := ["_law_spec_here"]) fun _ _ _ _ _ _ us hl => match us, hl with | [_], _ => rfl
  g__law_joined := PySem.W.mg_of X G ag__law_joined
  a__law_states := f__law_states
  d__law_states := PySem.W.fnOf "_law_states" "_law_states" (defArgs st__law_states) (defBody st__law_states) (defScope st__law_states) .none kV__law_states dc__law_states pm__law_states an__law_states cd__law_states ct__law_states
  F__law_states := fun_mk (st := st__law_states) l__law_states c__law_states k__law_states
  b__law_states := (fun_mk (st := st__law_states) l__law_states c__law_states k__law_states).binds (ps := ["_law_spec_here"]) fun _ _ _ _ _ _ us hl => match us, hl with | [_], _ => rfl
  g__law_states := PySem.W.mg_of X G ag__law_states
  a__law_due := f__law_due
  d__law_due := PySem.W.fnOf "_law_due" "_law_due" (defArgs st__law_due) (defBody st__law_due) (defScope st__law_due) .none kV__law_due dc__law_due pm__law_due an__law_due cd__law_due ct__law_due
  F__law_due := fun_mk (st := st__law_due) l__law_due c__law_due k__law_due
  b__law_due := (fun_mk (st := st__law_due) l__law_due c__law_due k__law_due).binds (ps := ["_law_spec_here"]) fun _ _ _ _ _ _ us hl => match us, hl with | [_], _ => rfl
  g__law_due := PySem.W.mg_of X G ag__law_due
  a__law_seen := f__law_seen
  d__law_seen := PySem.W.fnOf "_law_seen" "_law_seen" (defArgs st__law_seen) (defBody st__law_seen) (defScope st__law_seen) .none kV__law_seen dc__law_seen pm__law_seen an__law_seen cd__law_seen ct__law_seen
  F__law_seen := fun_mk (st := st__law_seen) l__law_seen c__law_seen k__law_seen
  b__law_seen := (fun_mk (st := st__law_seen) l__law_seen c__law_seen k__law_seen).binds (ps := ["_law_mine"]) fun _ _ _ _ _ _ us hl => match us, hl with | [_], _ => rfl
  g__law_seen := PySem.W.mg_of X G ag__law_seen
  a__law_sort := f__law_sort
  d__law_sort := PySem.W.fnOf "_law_sort" "_law_sort" (defArgs st__law_sort) (defBody st__law_sort) (defScope st__law_sort) .none kV__law_sort dc__law_sort pm__law_sort an__law_sort cd__law_sort ct__law_sort
  F__law_sort := fun_mk (st := st__law_sort) l__law_sort c__law_sort k__law_sort
  b__law_sort := (fun_mk (st := st__law_sort) l__law_sort c__law_sort k__law_sort).binds (ps := ["_law_e"]) fun _ _ _ _ _ _ us hl => match us, hl with | [_], _ => rfl
  g__law_sort := PySem.W.mg_of X G ag__law_sort
  a__law_told := f__law_told
  d__law_told := PySem.W.fnOf "_law_told" "_law_told" (defArgs st__law_told) (defBody st__law_told) (defScope st__law_told) .none kV__law_told dc__law_told pm__law_told an__law_told cd__law_told ct__law_told
  F__law_told := fun_mk (st := st__law_told) l__law_told c__law_told k__law_told
  b__law_told := (fun_mk (st := st__law_told) l__law_told c__law_told k__law_told).binds (ps := ["_law_e", "_law_word_here"]) fun _ _ _ _ _ _ us hl => match us, hl with | [_, _], _ => rfl
  g__law_told := PySem.W.mg_of X G ag__law_told
  a__law_caught := f__law_caught
  d__law_caught := PySem.W.fnOf "_law_caught" "_law_caught" (defArgs st__law_caught) (defBody st__law_caught) (defScope st__law_caught) .none kV__law_caught dc__law_caught pm__law_caught an__law_caught cd__law_caught ct__law_caught
  F__law_caught := fun_mk (st := st__law_caught) l__law_caught c__law_caught k__law_caught
  b__law_caught := (fun_mk (st := st__law_caught) l__law_caught c__law_caught k__law_caught).binds (ps := ["_law_act"]) fun _ _ _ _ _ _ us hl => match us, hl with | [_], _ => rfl
  g__law_caught := PySem.W.mg_of X G ag__law_caught
  a__law_is_word := f__law_is_word
  d__law_is_word := PySem.W.fnOf "_law_is_word" "_law_is_word" (defArgs st__law_is_word) (defBody st__law_is_word) (defScope st__law_is_word) .none kV__law_is_word dc__law_is_word pm__law_is_word an__law_is_word cd__law_is_word ct__law_is_word
  F__law_is_word := fun_mk (st := st__law_is_word) l__law_is_word c__law_is_word k__law_is_word
  b__law_is_word := (fun_mk (st := st__law_is_word) l__law_is_word c__law_is_word k__law_is_word).binds (ps := ["_law_thing"]) fun _ _ _ _ _ _ us hl => match us, hl with | [_], _ => rfl
  g__law_is_word := PySem.W.mg_of X G ag__law_is_word
  a__law_digit := f__law_digit
  d__law_digit := PySem.W.fnOf "_law_digit" "_law_digit" (defArgs st__law_digit) (defBody st__law_digit) (defScope st__law_digit) .none kV__law_digit dc__law_digit pm__law_digit an__law_digit cd__law_digit ct__law_digit
  F__law_digit := fun_mk (st := st__law_digit) l__law_digit c__law_digit k__law_digit
  b__law_digit := (fun_mk (st := st__law_digit) l__law_digit c__law_digit k__law_digit).binds (ps := ["_law_word_here", "_law_least_here", "_law_most_here"]) fun _ _ _ _ _ _ us hl => match us, hl with | [_, _, _], _ => rfl
  g__law_digit := PySem.W.mg_of X G ag__law_digit
  a__law_is_state := f__law_is_state
  d__law_is_state := PySem.W.fnOf "_law_is_state" "_law_is_state" (defArgs st__law_is_state) (defBody st__law_is_state) (defScope st__law_is_state) .none kV__law_is_state dc__law_is_state pm__law_is_state an__law_is_state cd__law_is_state ct__law_is_state
  F__law_is_state := fun_mk (st := st__law_is_state) l__law_is_state c__law_is_state k__law_is_state
  b__law_is_state := (fun_mk (st := st__law_is_state) l__law_is_state c__law_is_state k__law_is_state).binds (ps := ["_law_word_here", "_law_period"]) fun _ _ _ _ _ _ us hl => match us, hl with | [_, _], _ => rfl
  g__law_is_state := PySem.W.mg_of X G ag__law_is_state
  a__law_read_row := f__law_read_row
  d__law_read_row := PySem.W.fnOf "_law_read_row" "_law_read_row" (defArgs st__law_read_row) (defBody st__law_read_row) (defScope st__law_read_row) .none kV__law_read_row dc__law_read_row pm__law_read_row an__law_read_row cd__law_read_row ct__law_read_row
  F__law_read_row := fun_mk (st := st__law_read_row) l__law_read_row c__law_read_row k__law_read_row
  b__law_read_row := (fun_mk (st := st__law_read_row) l__law_read_row c__law_read_row k__law_read_row).binds (ps := ["_law_row", "_law_period"]) fun _ _ _ _ _ _ us hl => match us, hl with | [_, _], _ => rfl
  g__law_read_row := PySem.W.mg_of X G ag__law_read_row
  a__law_read := f__law_read
  d__law_read := PySem.W.fnOf "_law_read" "_law_read" (defArgs st__law_read) (defBody st__law_read) (defScope st__law_read) .none kV__law_read dc__law_read pm__law_read an__law_read cd__law_read ct__law_read
  F__law_read := fun_mk (st := st__law_read) l__law_read c__law_read k__law_read
  b__law_read := (fun_mk (st := st__law_read) l__law_read c__law_read k__law_read).binds (ps := ["_law_thing"]) fun _ _ _ _ _ _ us hl => match us, hl with | [_], _ => rfl
  g__law_read := PySem.W.mg_of X G ag__law_read
  a__law_bent := f__law_bent
  d__law_bent := PySem.W.fnOf "_law_bent" "_law_bent" (defArgs st__law_bent) (defBody st__law_bent) (defScope st__law_bent) .none kV__law_bent dc__law_bent pm__law_bent an__law_bent cd__law_bent ct__law_bent
  F__law_bent := fun_mk (st := st__law_bent) l__law_bent c__law_bent k__law_bent
  b__law_bent := (fun_mk (st := st__law_bent) l__law_bent c__law_bent k__law_bent).binds (ps := ["_law_spring_here", "_law_thing"]) fun _ _ _ _ _ _ us hl => match us, hl with | [_, _], _ => rfl
  g__law_bent := PySem.W.mg_of X G ag__law_bent
  a__law_sorts := f__law_sorts
  d__law_sorts := PySem.W.fnOf "_law_sorts" "_law_sorts" (defArgs st__law_sorts) (defBody st__law_sorts) (defScope st__law_sorts) .none kV__law_sorts dc__law_sorts pm__law_sorts an__law_sorts cd__law_sorts ct__law_sorts
  F__law_sorts := fun_mk (st := st__law_sorts) l__law_sorts c__law_sorts k__law_sorts
  b__law_sorts := (fun_mk (st := st__law_sorts) l__law_sorts c__law_sorts k__law_sorts).binds (ps := []) fun _ _ _ _ _ _ us hl => match us, hl with | [], _ => rfl
  g__law_sorts := PySem.W.mg_of X G ag__law_sorts
  a__law_other_kind := f__law_other_kind
  d__law_other_kind := PySem.W.fnOf "_law_other_kind" "_law_other_kind" (defArgs st__law_other_kind) (defBody st__law_other_kind) (defScope st__law_other_kind) .none kV__law_other_kind dc__law_other_kind pm__law_other_kind an__law_other_kind cd__law_other_kind ct__law_other_kind
  F__law_other_kind := fun_mk (st := st__law_other_kind) l__law_other_kind c__law_other_kind k__law_other_kind
  b__law_other_kind := (fun_mk (st := st__law_other_kind) l__law_other_kind c__law_other_kind k__law_other_kind).binds (ps := ["_law_spring_here", "_law_thing"]) fun _ _ _ _ _ _ us hl => match us, hl with | [_, _], _ => rfl
  g__law_other_kind := PySem.W.mg_of X G ag__law_other_kind
  a__law_over := f__law_over
  d__law_over := PySem.W.fnOf "_law_over" "_law_over" (defArgs st__law_over) (defBody st__law_over) (defScope st__law_over) .none kV__law_over dc__law_over pm__law_over an__law_over cd__law_over ct__law_over
  F__law_over := fun_mk (st := st__law_over) l__law_over c__law_over k__law_over
  b__law_over := (fun_mk (st := st__law_over) l__law_over c__law_over k__law_over).binds (ps := ["_law_spring_here"]) fun _ _ _ _ _ _ us hl => match us, hl with | [_], _ => rfl
  g__law_over := PySem.W.mg_of X G ag__law_over
  a__law_right := f__law_right
  d__law_right := PySem.W.fnOf "_law_right" "_law_right" (defArgs st__law_right) (defBody st__law_right) (defScope st__law_right) .none kV__law_right dc__law_right pm__law_right an__law_right cd__law_right ct__law_right
  F__law_right := fun_mk (st := st__law_right) l__law_right c__law_right k__law_right
  b__law_right := (fun_mk (st := st__law_right) l__law_right c__law_right k__law_right).binds (ps := ["_law_spring_here"]) fun _ _ _ _ _ _ us hl => match us, hl with | [_], _ => rfl
  g__law_right := PySem.W.mg_of X G ag__law_right
  a__law_all_right := f__law_all_right
  d__law_all_right := PySem.W.fnOf "_law_all_right" "_law_all_right" (defArgs st__law_all_right) (defBody st__law_all_right) (defScope st__law_all_right) .none kV__law_all_right dc__law_all_right pm__law_all_right an__law_all_right cd__law_all_right ct__law_all_right
  F__law_all_right := fun_mk (st := st__law_all_right) l__law_all_right c__law_all_right k__law_all_right
  b__law_all_right := (fun_mk (st := st__law_all_right) l__law_all_right c__law_all_right k__law_all_right).binds (ps := ["_law_spring_here"]) fun _ _ _ _ _ _ us hl => match us, hl with | [_], _ => rfl
  g__law_all_right := PySem.W.mg_of X G ag__law_all_right
  a_law := f_law
  d_law := PySem.W.fnOf "law" "law" (defArgs st_law) (defBody st_law) (defScope st_law) .none kV_law dc_law pm_law an_law cd_law ct_law
  F_law := fun_mk (st := st_law) l_law c_law k_law
  b_law := (fun_mk (st := st_law) l_law c_law k_law).binds (ps := ["_law_cells"]) fun _ _ _ _ _ _ us hl => match us, hl with | [_], _ => rfl
  g_law := PySem.W.mg_of X G ag_law
  a_Borders___init__ := f_Borders___init__
  d_Borders___init__ := PySem.W.fnOf "__init__" "Borders.__init__" (defArgs st_Borders___init__) (defBody st_Borders___init__) (defScope st_Borders___init__) .none kV_Borders___init__ dc_Borders___init__ pm_Borders___init__ an_Borders___init__ cd_Borders___init__ ct_Borders___init__
  F_Borders___init__ := fun_mk (st := st_Borders___init__) l_Borders___init__ c_Borders___init__ k_Borders___init__
  b_Borders___init__ := (fun_mk (st := st_Borders___init__) l_Borders___init__ c_Borders___init__ k_Borders___init__).binds (ps := ["self", "text"]) fun _ _ _ _ _ _ us hl => match us, hl with | [_, _], _ => rfl
  mk_Borders := ⟨mk_Borders, e_Borders___init__, i_Borders___init__, kc_Borders⟩
  kb_Borders := ⟨fun s us ws X l1 l2 => match us, ws, l1, l2 with | [_], [_], _, _ => .of_eq rfl, fun r1 r2 => r1.append r2⟩
  a_Borders_text := f_Borders_text
  d_Borders_text := PySem.W.fnOf "text" "Borders.text" (defArgs st_Borders_text) (defBody st_Borders_text) (defScope st_Borders_text) .none kV_Borders_text dc_Borders_text pm_Borders_text an_Borders_text cd_Borders_text ct_Borders_text
  F_Borders_text := fun_mk (st := st_Borders_text) l_Borders_text c_Borders_text k_Borders_text
  b_Borders_text := (fun_mk (st := st_Borders_text) l_Borders_text c_Borders_text k_Borders_text).binds (ps := ["self"]) fun _ _ _ _ _ _ us hl => match us, hl with | [_], _ => rfl
  p_Borders_text := p_Borders_text
  P_Borders_text := ⟨e_Borders_text, g_Borders_text, tk_Borders_text, ⟨_, r_Borders_text⟩⟩
  a_Borders_signs := f_Borders_signs
  d_Borders_signs := PySem.W.fnOf "signs" "Borders.signs" (defArgs st_Borders_signs) (defBody st_Borders_signs) (defScope st_Borders_signs) .none kV_Borders_signs dc_Borders_signs pm_Borders_signs an_Borders_signs cd_Borders_signs ct_Borders_signs
  F_Borders_signs := fun_mk (st := st_Borders_signs) l_Borders_signs c_Borders_signs k_Borders_signs
  b_Borders_signs := (fun_mk (st := st_Borders_signs) l_Borders_signs c_Borders_signs k_Borders_signs).binds (ps := ["self"]) fun _ _ _ _ _ _ us hl => match us, hl with | [_], _ => rfl
  p_Borders_signs := p_Borders_signs
  P_Borders_signs := ⟨e_Borders_signs, g_Borders_signs, tk_Borders_signs, ⟨_, r_Borders_signs⟩⟩
  a_Borders_states := f_Borders_states
  d_Borders_states := PySem.W.fnOf "states" "Borders.states" (defArgs st_Borders_states) (defBody st_Borders_states) (defScope st_Borders_states) .none kV_Borders_states dc_Borders_states pm_Borders_states an_Borders_states cd_Borders_states ct_Borders_states
  F_Borders_states := fun_mk (st := st_Borders_states) l_Borders_states c_Borders_states k_Borders_states
  b_Borders_states := (fun_mk (st := st_Borders_states) l_Borders_states c_Borders_states k_Borders_states).binds (ps := ["self"]) fun _ _ _ _ _ _ us hl => match us, hl with | [_], _ => rfl
  p_Borders_states := p_Borders_states
  P_Borders_states := ⟨e_Borders_states, g_Borders_states, tk_Borders_states, ⟨_, r_Borders_states⟩⟩
  a_Borders_pieces := f_Borders_pieces
  d_Borders_pieces := PySem.W.fnOf "pieces" "Borders.pieces" (defArgs st_Borders_pieces) (defBody st_Borders_pieces) (defScope st_Borders_pieces) .none kV_Borders_pieces dc_Borders_pieces pm_Borders_pieces an_Borders_pieces cd_Borders_pieces ct_Borders_pieces
  F_Borders_pieces := fun_mk (st := st_Borders_pieces) l_Borders_pieces c_Borders_pieces k_Borders_pieces
  b_Borders_pieces := (fun_mk (st := st_Borders_pieces) l_Borders_pieces c_Borders_pieces k_Borders_pieces).binds (ps := ["self"]) fun _ _ _ _ _ _ us hl => match us, hl with | [_], _ => rfl
  p_Borders_pieces := p_Borders_pieces
  P_Borders_pieces := ⟨e_Borders_pieces, g_Borders_pieces, tk_Borders_pieces, ⟨_, r_Borders_pieces⟩⟩
  a_Borders_corners := f_Borders_corners
  d_Borders_corners := PySem.W.fnOf "corners" "Borders.corners" (defArgs st_Borders_corners) (defBody st_Borders_corners) (defScope st_Borders_corners) .none kV_Borders_corners dc_Borders_corners pm_Borders_corners an_Borders_corners cd_Borders_corners ct_Borders_corners
  F_Borders_corners := fun_mk (st := st_Borders_corners) l_Borders_corners c_Borders_corners k_Borders_corners
  b_Borders_corners := (fun_mk (st := st_Borders_corners) l_Borders_corners c_Borders_corners k_Borders_corners).binds (ps := ["self"]) fun _ _ _ _ _ _ us hl => match us, hl with | [_], _ => rfl
  p_Borders_corners := p_Borders_corners
  P_Borders_corners := ⟨e_Borders_corners, g_Borders_corners, tk_Borders_corners, ⟨_, r_Borders_corners⟩⟩
  a_Borders_names := f_Borders_names
  d_Borders_names := PySem.W.fnOf "names" "Borders.names" (defArgs st_Borders_names) (defBody st_Borders_names) (defScope st_Borders_names) .none kV_Borders_names dc_Borders_names pm_Borders_names an_Borders_names cd_Borders_names ct_Borders_names
  F_Borders_names := fun_mk (st := st_Borders_names) l_Borders_names c_Borders_names k_Borders_names
  b_Borders_names := (fun_mk (st := st_Borders_names) l_Borders_names c_Borders_names k_Borders_names).binds (ps := ["self"]) fun _ _ _ _ _ _ us hl => match us, hl with | [_], _ => rfl
  p_Borders_names := p_Borders_names
  P_Borders_names := ⟨e_Borders_names, g_Borders_names, tk_Borders_names, ⟨_, r_Borders_names⟩⟩
  a_Borders___eq__ := f_Borders___eq__
  d_Borders___eq__ := PySem.W.fnOf "__eq__" "Borders.__eq__" (defArgs st_Borders___eq__) (defBody st_Borders___eq__) (defScope st_Borders___eq__) .none kV_Borders___eq__ dc_Borders___eq__ pm_Borders___eq__ an_Borders___eq__ cd_Borders___eq__ ct_Borders___eq__
  F_Borders___eq__ := fun_mk (st := st_Borders___eq__) l_Borders___eq__ c_Borders___eq__ k_Borders___eq__
  b_Borders___eq__ := (fun_mk (st := st_Borders___eq__) l_Borders___eq__ c_Borders___eq__ k_Borders___eq__).binds (ps := ["self", "other"]) fun _ _ _ _ _ _ us hl => match us, hl with | [_, _], _ => rfl
  f_Borders___eq__ := e_Borders___eq__
  k_Borders___eq__ := i_Borders___eq__
  a_Borders___str__ := f_Borders___str__
  d_Borders___str__ := PySem.W.fnOf "__str__" "Borders.__str__" (defArgs st_Borders___str__) (defBody st_Borders___str__) (defScope st_Borders___str__) .none kV_Borders___str__ dc_Borders___str__ pm_Borders___str__ an_Borders___str__ cd_Borders___str__ ct_Borders___str__
  F_Borders___str__ := fun_mk (st := st_Borders___str__) l_Borders___str__ c_Borders___str__ k_Borders___str__
  b_Borders___str__ := (fun_mk (st := st_Borders___str__) l_Borders___str__ c_Borders___str__ k_Borders___str__).binds (ps := ["self"]) fun _ _ _ _ _ _ us hl => match us, hl with | [_], _ => rfl
  f_Borders___str__ := e_Borders___str__
  k_Borders___str__ := i_Borders___str__
  C_Borders := C_Borders
  g_Borders := PySem.W.mg_of X G aC_Borders
  cl_Borders := ⟨pg_Borders, hd_Borders, po_Borders, sa_Borders⟩
  ne_Borders := ne_Borders
  mro_Borders := mro_Borders
  bool_Borders := bool_Borders
  i_Borders := ⟨fun t b h => own_kit kwNoneType_Borders kwbool_Borders kwint_Borders kwstr_Borders kwtuple_Borders kwlist_Borders kwdict_Borders t b h, fun D b h => by rw [own_is h]; exact ⟨⟨pg_Borders, hd_Borders, po_Borders, sa_Borders⟩, hcl_Borders, hsp_Borders, htk_Borders, mro_Borders⟩⟩
  na_whole := na_whole_Borders
  na_all_states := na_all_states_Borders
  na_corner_names := na_corner_names_Borders
  na_motif := na_motif_Borders
  na_piece_rows := na_piece_rows_Borders
  na_corner_rows := na_corner_rows_Borders
  nolen_Borders := nolen_Borders
  C_BadValue := C_BadValue
  g_BadValue := PySem.W.mg_of X G aC_BadValue
  C_InvalidText := C_InvalidText
  g_InvalidText := PySem.W.mg_of X G aC_InvalidText
  C_InvalidLine := C_InvalidLine
  g_InvalidLine := PySem.W.mg_of X G aC_InvalidLine
  C_InvalidState := C_InvalidState
  g_InvalidState := PySem.W.mg_of X G aC_InvalidState
  C_InvalidNumber := C_InvalidNumber
  g_InvalidNumber := PySem.W.mg_of X G aC_InvalidNumber
  C_InvalidName := C_InvalidName
  g_InvalidName := PySem.W.mg_of X G aC_InvalidName
  C_InvalidIndex := C_InvalidIndex
  g_InvalidIndex := PySem.W.mg_of X G aC_InvalidIndex
  C_InvalidWish := C_InvalidWish
  g_InvalidWish := PySem.W.mg_of X G aC_InvalidWish
  C_InvalidClaim := C_InvalidClaim
  g_InvalidClaim := PySem.W.mg_of X G aC_InvalidClaim
  C_NotBorders := C_NotBorders
  g_NotBorders := PySem.W.mg_of X G aC_NotBorders
  C_NotARoom := C_NotARoom
  g_NotARoom := PySem.W.mg_of X G aC_NotARoom
  C_InvalidSizes := C_InvalidSizes
  g_InvalidSizes := PySem.W.mg_of X G aC_InvalidSizes
  C_InvalidFilling := C_InvalidFilling
  g_InvalidFilling := PySem.W.mg_of X G aC_InvalidFilling
  C_InvalidNames := C_InvalidNames
  g_InvalidNames := PySem.W.mg_of X G aC_InvalidNames
  C_InvalidLines := C_InvalidLines
  g_InvalidLines := PySem.W.mg_of X G aC_InvalidLines
  C_BadName := C_BadName
  g_BadName := PySem.W.mg_of X G aC_BadName
  C_UnknownName := C_UnknownName
  g_UnknownName := PySem.W.mg_of X G aC_UnknownName
  C_InUse := C_InUse
  g_InUse := PySem.W.mg_of X G aC_InUse
  C_NoAnswer := C_NoAnswer
  g_NoAnswer := PySem.W.mg_of X G aC_NoAnswer
  C_OtherLetters := C_OtherLetters
  g_OtherLetters := PySem.W.mg_of X G aC_OtherLetters
  C_TooMany := C_TooMany
  g_TooMany := PySem.W.mg_of X G aC_TooMany
  C_NothingToUndo := C_NothingToUndo
  g_NothingToUndo := PySem.W.mg_of X G aC_NothingToUndo
  C_NotAsked := C_NotAsked
  g_NotAsked := PySem.W.mg_of X G aC_NotAsked
  C_Broken := C_Broken
  g_Broken := PySem.W.mg_of X G aC_Broken
  kt_InvalidText_BadValue := kt_InvalidText_BadValue
  kt_InvalidText_InvalidText := kt_InvalidText_InvalidText
  kt_InvalidText_InvalidLine := kt_InvalidText_InvalidLine
  kt_InvalidText_InvalidState := kt_InvalidText_InvalidState
  kt_InvalidText_InvalidNumber := kt_InvalidText_InvalidNumber
  kt_InvalidText_InvalidName := kt_InvalidText_InvalidName
  kt_InvalidText_InvalidIndex := kt_InvalidText_InvalidIndex
  kt_InvalidText_InvalidWish := kt_InvalidText_InvalidWish
  kt_InvalidText_InvalidClaim := kt_InvalidText_InvalidClaim
  kt_InvalidText_NotBorders := kt_InvalidText_NotBorders
  kt_InvalidText_NotARoom := kt_InvalidText_NotARoom
  kt_InvalidText_InvalidSizes := kt_InvalidText_InvalidSizes
  kt_InvalidText_InvalidFilling := kt_InvalidText_InvalidFilling
  kt_InvalidText_InvalidNames := kt_InvalidText_InvalidNames
  kt_InvalidText_InvalidLines := kt_InvalidText_InvalidLines
  kt_InvalidText_BadName := kt_InvalidText_BadName
  kt_InvalidText_UnknownName := kt_InvalidText_UnknownName
  kt_InvalidText_InUse := kt_InvalidText_InUse
  kt_InvalidText_NoAnswer := kt_InvalidText_NoAnswer
  kt_InvalidText_OtherLetters := kt_InvalidText_OtherLetters
  kt_InvalidText_TooMany := kt_InvalidText_TooMany
  kt_InvalidText_NothingToUndo := kt_InvalidText_NothingToUndo
  kt_InvalidText_NotAsked := kt_InvalidText_NotAsked
  kt_InvalidText_Broken := kt_InvalidText_Broken
  kt_InvalidText_ValueError := kt_InvalidText_ValueError
  kt_InvalidText_LookupError := kt_InvalidText_LookupError
  kt_InvalidText_ArithmeticError := kt_InvalidText_ArithmeticError
  aI_InvalidText := f_InvalidText_I
  dI_InvalidText := PySem.W.fnOf "__init__" "InvalidText.__init__" (defArgs stI_InvalidText) (defBody stI_InvalidText) (defScope stI_InvalidText) .none kV_InvalidText_I dc_InvalidText_I pm_InvalidText_I an_InvalidText_I cd_InvalidText_I ct_InvalidText_I
  FI_InvalidText := fun_mk (st := stI_InvalidText) l_InvalidText_I c_InvalidText_I k_InvalidText_I
  iC_InvalidText := e_InvalidText_I
  tI_InvalidText := t_InvalidText_I
  bI_InvalidText := (fun_mk (st := stI_InvalidText) l_InvalidText_I c_InvalidText_I k_InvalidText_I).binds (ps := ["self", "given"]) fun _ _ _ _ _ _ us hl => match us, hl with | [_, _], _ => rfl
  ox_InvalidText := ⟨oexB_ok oex_InvalidText, esa_InvalidText, esu_InvalidText, ety_InvalidText, ekp_InvalidText⟩
  xa_InvalidText := ⟨ecl_InvalidText, ehd_InvalidText, ega_InvalidText, egt_InvalidText, esu_InvalidText, ehc_InvalidText, esp_InvalidText, etk_InvalidText, emr_InvalidText⟩
  no_InvalidText_given := enogiven_InvalidText
  no_InvalidText_index := enoindex_InvalidText
  no_InvalidText_shown := enoshown_InvalidText
  no_InvalidText_limit := enolimit_InvalidText
  xm_InvalidText := exm_InvalidText
  cL := cL
  P := P
  FC := ⟨_, _, _, _, _, _, _, _, _, by rw [← hcd], l__law_right, by rw [← hcd]; exact c__law_right⟩
  hTab := hTab
  hT := by rw [hTab]; exact List.mem_cons_self
end K03

namespace K03
open PySem PySem.Spec PyProof.Rows L2 Cw

def optI : Option Int → D
  | none => .non
  | some i => .int i
abbrev one (k : Nat) : Str := ⟨#[k]⟩
def lower (k : Nat) : Bool := decide (97 ≤ k ∧ k ≤ 122)
def isLet (t : Str) (n : Int) : Bool := decide (1 ≤ (t.length : Int) ∧ (t.length : Int) ≤ n) && t.cps.toList.all lower
theorem lets : (("abcdefghijklmnopqrstuvwxyz" : Str).cps.toList) = (List.range 26).map (· + 97) := by decide +kernel
theorem let_in (k : Nat) : decide (k ∈ (("abcdefghijklmnopqrstuvwxyz" : Str).cps.toList)) = lower k := by
  rw [lets]; unfold lower; simp only [List.mem_map, List.mem_range]
  refine decide_eq_decide.mpr ⟨fun ⟨a, h, e⟩ => by omega, fun h => ⟨k - 97, by omega, by omega⟩⟩
def S_is_letters : Pm := fun c ds Φ => ∃ t n, ds = [.str t, .int n] ∧ t.length ≤ 50000 ∧ Φ (.bl (isLet t n)) c
section
variable {P : Program} {w : World} {K : PySem.W.Frag} {mg : Str → Option Value} {base : Heap}
set_option maxHeartbeats 8000000 in
theorem ok_is_letters (T : Tx K mg) : FnOk P w K mg base CX0 1 T.a_is_letters T.d_is_letters ["text", "most"] (spD K 0 2 S_is_letters) := by
  refine fnD T.F_is_letters sc_is_letters fun cdv A outer s H E hr => ⟨_, (psd_one (psd_ret (pd_and (pd_lele pd_int (pd_len (pd_v 0) T.n_len) (pd_v 1)) (pd_one (pd_all rfl (pd_lc (i := 2) rfl sc_is_letters.nd (pid_str (pd_v 0)) (by kernel_rfl) (fun _ _ _ _ _ => pg_name (i := 2) sc_is_letters.nd rfl (Or.inl rfl)) (fun _ _ _ _ _ => ptd_nil) (fun _ _ _ _ _ => (pd_in hr (pd_v 2) (pd_gs T.c_LETTERS)))) T.n_all))))), ?_⟩
  rintro c ds Φ hc - ⟨t, n, rfl, ht, hΦ⟩
  cases c with
  | cons _ _ => cases hc
  | nil =>
  conv => whnf
  refine ⟨Nat.le_trans ht (by decide), ?_⟩
  conv => whnf
  have big : t.length ≤ sizeLine := Nat.le_trans ht (by decide)
  split
  · rename_i h1
    have h1 : (1 : Int) ≤ t.length := by simpa using h1
    conv => whnf
    split
    · rename_i h2
      have h2 : (t.length : Int) ≤ n := by simpa using h2
      conv => whnf
      refine lc_map (c := []) (fun d => match d with | .str x => .bl (inS x "abcdefghijklmnopqrstuvwxyz") | _ => .non) rfl _ (fun d hd => ?_) (by show (t.cps.toList.map _).length ≤ _; rw [List.length_map]; exact big) ?_
      · obtain ⟨k, _, rfl⟩ := List.mem_map.mp hd
        exact ⟨rfl, fun acc Ψ _ h => h⟩
      · have e : bls ((chars t).map fun d => match d with | .str x => D.bl (inS x "abcdefghijklmnopqrstuvwxyz") | _ => .non) = some (t.cps.toList.map lower) := by
          show bls ((t.cps.toList.map _).map _) = _
          generalize t.cps.toList = l
          induction l with
          | nil => rfl
          | cons k l ih =>
            show (bls _).map _ = _
            rw [ih]
            show some (inS (one k) _ :: _) = _
            rw [show inS (one k) "abcdefghijklmnopqrstuvwxyz" = lower k from let_in k]; rfl
        refine ⟨_, e, ?_⟩
        conv => whnf
        have : isLet t n = ((t.cps.toList.map lower).all id) := by
          unfold isLet; rw [decide_eq_true ⟨h1, h2⟩]; simp [List.all_map]
        rw [this] at hΦ
        exact hΦ
    · rename_i h2
      have h2 : ¬ (t.length : Int) ≤ n := by simpa using h2
      conv => whnf
      have : isLet t n = false := by unfold isLet; rw [decide_eq_false (fun z => h2 z.2)]; rfl
      rw [this] at hΦ
      exact hΦ
    · rename_i h2 h3
      cases e : decide ((t.length : Int) ≤ n) with
      | true => exact (h2 (by simp [e])).elim
      | false => exact (h3 (by simp [e])).elim
  · rename_i h1
    have h1 : ¬ (1 : Int) ≤ t.length := by simpa using h1
    conv => whnf
    have : isLet t n = false := by unfold isLet; rw [decide_eq_false (fun z => h1 z.1)]; rfl
    rw [this] at hΦ
    exact hΦ
  · rename_i h1 h2
    cases e : decide ((1 : Int) ≤ t.length) with
    | true => exact (h1 (by simp [e])).elim
    | false => exact (h2 (by simp [e])).elim

end
end K03

namespace K03
open PySem PySem.Spec PyProof.Rows L2 Cw

theorem short {n : Nat} (h : n ≤ 60000) : n ≤ sizeLine := Nat.le_trans h (by decide)
theorem all_small {n k : Nat} (hk : k < n) {P : Nat → Prop} (h : ∀ i : Fin n, P i.val) : P k := h ⟨k, hk⟩
/-- a state -/
def stS (i : Nat) (d : Bool) : Str := toString (i : Int) ++ (if d then ">" else "<")
def stL (n : Nat) : List Str := (List.range n).flatMap fun i => [stS i false, stS i true]
def bendS (o : Bool) : Str := if o then "out" else "in"
structure Part where
  t : Str
  i : Nat
  d : Bool
  j : Nat
  e : Bool
  l : Nat
  c : Nat
structure Joint where
  t : Str
  o : Bool
  i : Nat
  d : Bool
  j : Nat
  e : Bool
  c : Nat
def Part.ok (n : Nat) (p : Part) : Prop := isLet p.t 8 = true ∧ (p.i < n ∧ p.j < n) ∧ (1 ≤ p.l ∧ p.l ≤ 6) ∧ p.c ≤ 9
def Joint.ok (n : Nat) (p : Joint) : Prop := isLet p.t 8 = true ∧ (p.i < n ∧ p.j < n) ∧ p.c ≤ 9
def Part.d' (p : Part) : D := .tup [.str p.t, .str (stS p.i p.d), .str (stS p.j p.e), .int p.l, .int p.c]
def Joint.k (p : Joint) : List Key := [.inr p.t, .inr (bendS p.o), .inr (stS p.i p.d), .inr (stS p.j p.e), .inl p.c]
def Joint.d' (p : Joint) : D := keyD p.k
def Part.ws (p : Part) : List Str := ["piece", p.t, stS p.i p.d, stS p.j p.e, "long", toString (p.l : Int), "cost", toString (p.c : Int)]
def Joint.ws (p : Joint) : List Str := ["corner", p.t, bendS p.o, stS p.i p.d, stS p.j p.e, "cost", toString (p.c : Int)]
def Part.row (p : Part) : Str := Txt.join " " p.ws
def Joint.row (p : Joint) : Str := Txt.join " " p.ws
/-- signs from 33 to 127, few of them -/
def tame (n : Nat) (t : Str) : Bool := t.cps.toList.all (fun k => decide (33 ≤ k ∧ k < 128)) && decide (t.length ≤ n)
theorem tame_no {n k : Nat} {t : Str} (h : tame n t = true) (hk : k < 33) : k ∉ TL.tl t := fun z => by
  have h1 := (Bool.and_eq_true_iff.mp h).1
  have := of_decide_eq_true (List.all_eq_true.mp h1 k z)
  omega
theorem tame_ok {n : Nat} {t : Str} (h : tame n t = true) : PyData.strOk t = true := by
  have h1 := (Bool.and_eq_true_iff.mp h).1
  unfold PyData.strOk
  rw [Array.all_eq_true_iff_forall_mem]
  intro k hk
  have := of_decide_eq_true (List.all_eq_true.mp h1 k (by simpa using hk))
  exact decide_eq_true (by omega)
theorem tame_len {n : Nat} {t : Str} (h : tame n t = true) : t.length ≤ n := of_decide_eq_true (Bool.and_eq_true_iff.mp h).2
theorem let_tame {t : Str} {n : Nat} (h : isLet t n = true) : tame n t = true := by
  unfold isLet at h
  obtain ⟨h1, h2⟩ := Bool.and_eq_true_iff.mp h
  have h1 := of_decide_eq_true h1
  refine Bool.and_eq_true_iff.mpr ⟨List.all_eq_true.mpr fun k hk => ?_, decide_eq_true (by omega)⟩
  have := of_decide_eq_true (List.all_eq_true.mp h2 k hk)
  exact decide_eq_true (by omega)
theorem st_tame {i : Nat} (d : Bool) (h : i < 5) : tame 2 (stS i d) = true := all_small h (P := fun i => tame 2 (stS i d) = true) (by cases d <;> decide +kernel)
theorem dig_tame {c : Nat} (h : c < 10) : tame 1 (toString (c : Int)) = true := all_small h (P := fun c : Nat => tame 1 (toString (c : Int)) = true) (by decide +kernel)
theorem bend_tame (o : Bool) : tame 3 (bendS o) = true := by cases o <;> decide +kernel
theorem join_len (y : Str) : ∀ xs : List Str, (Txt.join y xs).length ≤ (xs.map (·.length)).sum + y.length * xs.length := fun xs => by
  have key : ∀ xs : List Str, (TL.joinL (TL.tl y) (xs.map TL.tl)).length ≤ (xs.map (·.length)).sum + y.length * xs.length := by
    intro xs
    induction xs with
    | nil => exact Nat.zero_le _
    | cons x xs ih =>
      cases xs with
      | nil =>
        show (TL.tl x).length ≤ (x.length + 0) + y.length * 1
        rw [show (TL.tl x).length = x.length from Array.length_toList]
        omega
      | cons z r =>
        show (TL.tl x ++ (TL.tl y ++ TL.joinL (TL.tl y) ((z :: r).map TL.tl))).length ≤ (x.length + ((z :: r).map (·.length)).sum) + y.length * ((z :: r).length + 1)
        rw [List.length_append, List.length_append, show (TL.tl x).length = x.length from Array.length_toList, show (TL.tl y).length = y.length from Array.length_toList, Nat.mul_add]
        omega
  have e : (Txt.join y xs).length = (TL.joinL (TL.tl y) (xs.map TL.tl)).length := by
    rw [← TL.tl_join, ← TL.join_eq]; exact Array.length_toList.symm
  rw [e]; exact key xs
theorem Part.tames {n : Nat} {p : Part} (h : p.ok n) (hn : n ≤ 5) : ∀ w ∈ p.ws, tame 8 w = true := by
  have up : ∀ {k : Nat} {t : Str}, k ≤ 8 → tame k t = true → tame 8 t = true := fun hk h => by
    obtain ⟨h1, h2⟩ := Bool.and_eq_true_iff.mp h
    exact Bool.and_eq_true_iff.mpr ⟨h1, decide_eq_true (Nat.le_trans (of_decide_eq_true h2) hk)⟩
  obtain ⟨h1, ⟨h2, h3⟩, ⟨h4, h5⟩, h6⟩ := h
  simp only [Part.ws, List.forall_mem_cons, List.not_mem_nil, false_implies, implies_true, and_true]
  exact ⟨by decide +kernel, let_tame h1, up (by decide) (st_tame _ (by omega)), up (by decide) (st_tame _ (by omega)), by decide +kernel, up (by decide) (dig_tame (by omega)), by decide +kernel, up (by decide) (dig_tame (by omega))⟩
theorem Joint.tames {n : Nat} {p : Joint} (h : p.ok n) (hn : n ≤ 5) : ∀ w ∈ p.ws, tame 8 w = true := by
  have up : ∀ {k : Nat} {t : Str}, k ≤ 8 → tame k t = true → tame 8 t = true := fun hk h => by
    obtain ⟨h1, h2⟩ := Bool.and_eq_true_iff.mp h
    exact Bool.and_eq_true_iff.mpr ⟨h1, decide_eq_true (Nat.le_trans (of_decide_eq_true h2) hk)⟩
  obtain ⟨h1, ⟨h2, h3⟩, h6⟩ := h
  simp only [Joint.ws, List.forall_mem_cons, List.not_mem_nil, false_implies, implies_true, and_true]
  exact ⟨by decide +kernel, let_tame h1, up (by decide) (bend_tame _), up (by decide) (st_tame _ (by omega)), up (by decide) (st_tame _ (by omega)), by decide +kernel, up (by decide) (dig_tame (by omega))⟩
theorem ws_split {ws : List Str} (h : ∀ w ∈ ws, tame 8 w = true) (hn : ws ≠ []) : Txt.split (Txt.join " " ws) " " = ws :=
  TL.split_join (s := 32) (S := []) (by decide +kernel) (by decide +kernel) hn fun w hw => tame_no (h w hw) (by decide)
theorem ws_len {ws : List Str} (h : ∀ w ∈ ws, tame 8 w = true) : (Txt.join " " ws).length ≤ 9 * ws.length := by
  have h2 : (ws.map (·.length)).sum ≤ 8 * ws.length := by
    induction ws with
    | nil => exact Nat.le_refl _
    | cons w ws ih =>
      have a := tame_len (h w List.mem_cons_self)
      have b := ih (fun x hx => h x (List.mem_cons_of_mem _ hx))
      rw [List.map_cons, List.sum_cons, List.length_cons]
      omega
  have h1 := join_len (" " : Str) ws
  have h3 : (" " : Str).length = 1 := by decide
  rw [h3] at h1
  omega
theorem joinL_no {S : List Nat} {k : Nat} (hs : k ∉ S) : ∀ {ps : List (List Nat)}, (∀ p ∈ ps, k ∉ p) → k ∉ TL.joinL S ps
  | [], _ => by simp [TL.joinL]
  | [p], h => h p (by simp)
  | p :: q :: r, h => fun z => by
    rcases List.mem_append.mp z with z | z
    · exact h p (by simp) z
    · rcases List.mem_append.mp z with z | z
      · exact hs z
      · exact joinL_no hs (fun x hx => h x (List.mem_cons_of_mem _ hx)) z
theorem ws_line {ws : List Str} (h : ∀ w ∈ ws, tame 8 w = true) : 10 ∉ TL.tl (Txt.join " " ws) := by
  rw [TL.join_eq, TL.tl_join]
  refine joinL_no (by decide +kernel) fun p hp => ?_
  obtain ⟨w, hw, rfl⟩ := List.mem_map.mp hp
  exact tame_no (h w hw) (by decide)
theorem st_mem {n i : Nat} {d : Bool} (h : i < n) : stS i d ∈ stL n := List.mem_flatMap.mpr ⟨i, List.mem_range.mpr h, by cases d <;> simp⟩
def Part.py (p : Part) : PyData := .tuple [.str p.t, .str (stS p.i p.d), .str (stS p.j p.e), .int p.l, .int p.c]
def Joint.py (p : Joint) : PyData := .tuple [.str p.t, .str (bendS p.o), .str (stS p.i p.d), .str (stS p.j p.e), .int p.c]
section
variable {α : Type} {d : α → D} {py : α → PyData}
theorem pys_of (h : ∀ x, D.py (d x) = some (py x)) : ∀ xs : List α, D.pys (xs.map d) = some (xs.map py)
  | [] => rfl
  | x :: xs => by
    show (match D.py (d x), D.pys (xs.map d) with | some p, some ps => some (p :: ps) | _, _ => none) = _
    rw [h x, pys_of h xs]; rfl
theorem lay_of : ∀ {xs : List α}, (∀ x ∈ xs, (py x).canLay0 = true) → PyData.canLayAll0 (xs.map py) = true
  | [], _ => rfl
  | x :: xs, h => by
    show ((py x).canLay0 && PyData.canLayAll0 (xs.map py)) = true
    rw [h x List.mem_cons_self, lay_of fun y hy => h y (List.mem_cons_of_mem _ hy)]; rfl
theorem dep_of {n : Nat} : ∀ {xs : List α}, (∀ x ∈ xs, (py x).depth ≤ n) → PyData.depthAll (xs.map py) ≤ n
  | [], _ => Nat.zero_le _
  | x :: xs, h => by
    show max (py x).depth (PyData.depthAll (xs.map py)) ≤ n
    have h1 := h x List.mem_cons_self
    have h2 := dep_of fun y hy => h y (List.mem_cons_of_mem _ hy)
    omega
theorem shaped_of {xs : List α} (h1 : ∀ x ∈ xs, (py x).canLay0 = true) (h2 : ∀ x ∈ xs, (py x).depth ≤ 1) : SeqAt.shaped (.list (xs.map py)) = true := by
  show (PyData.canLayAll0 (xs.map py) && decide (PyData.depthAll (xs.map py) + 1 ≤ 64)) = true
  have := dep_of h2
  rw [lay_of h1, decide_eq_true (by omega)]; rfl
end
theorem Part.lay {n : Nat} {p : Part} (h : p.ok n) (hn : n ≤ 5) : p.py.canLay0 = true := by
  show (PyData.strOk p.t && (PyData.strOk (stS p.i p.d) && (PyData.strOk (stS p.j p.e) && true))) = true
  rw [tame_ok (let_tame (n := 8) h.1), tame_ok (st_tame _ (by have := h.2.1.1; omega)), tame_ok (st_tame _ (by have := h.2.1.2; omega))]; rfl
theorem Joint.lay {n : Nat} {p : Joint} (h : p.ok n) (hn : n ≤ 5) : p.py.canLay0 = true := by
  show (PyData.strOk p.t && (PyData.strOk (bendS p.o) && (PyData.strOk (stS p.i p.d) && (PyData.strOk (stS p.j p.e) && true)))) = true
  rw [tame_ok (let_tame (n := 8) h.1), tame_ok (bend_tame p.o), tame_ok (st_tame _ (by have := h.2.1.1; omega)), tame_ok (st_tame _ (by have := h.2.1.2; omega))]; rfl
theorem nodup_sub : ∀ {l ks : List Str}, l.Nodup → (∀ x ∈ l, x ∈ ks) → l.length ≤ ks.length
  | [], _, _, _ => Nat.zero_le _
  | x :: l, ks, nd, sub => by
    obtain ⟨hx, nd'⟩ := List.nodup_cons.mp nd
    have hm := sub x List.mem_cons_self
    have h1 := nodup_sub (ks := ks.erase x) nd' fun y hy => (List.mem_erase_of_ne (fun z => by subst z; exact hx hy)).mpr (sub y (List.mem_cons_of_mem _ hy))
    have h2 := List.length_erase_of_mem hm
    have h3 := List.length_pos_of_mem hm
    show l.length + 1 ≤ _
    omega
end K03

namespace K03
open PySem PySem.Spec PyProof.Rows L2 Cw
def numberOf (t : Str) (lo hi : Int) : Option Int := match t.cps.toList with
  | [k] => if (48 ≤ k ∧ k ≤ 57) ∧ lo ≤ (k : Int) - 48 ∧ (k : Int) - 48 ≤ hi then some ((k : Int) - 48) else none
  | _ => none
theorem str_one {t : Str} (h : (t.length : Int) = 1) : ∃ k, t = one k := by
  cases t with | mk a => cases a with | mk l =>
    have h : ((l.length : Nat) : Int) = 1 := h
    match l, h with
    | [k], _ => exact ⟨k, rfl⟩
    | [], h => simp at h
    | _ :: _ :: _, h => simp at h; omega
theorem digs : (("0123456789" : Str).cps.toList) = [48, 49, 50, 51, 52, 53, 54, 55, 56, 57] := by decide +kernel
theorem dig_in (k : Nat) : k ∈ (("0123456789" : Str).cps.toList) ↔ (48 ≤ k ∧ k ≤ 57) := by
  rw [digs]; simp; omega
theorem dig_val {k : Nat} (h : 48 ≤ k ∧ k ≤ 57) : PySem.intText? (one k) = some ((k : Int) - 48) := by
  have : k = 48 ∨ k = 49 ∨ k = 50 ∨ k = 51 ∨ k = 52 ∨ k = 53 ∨ k = 54 ∨ k = 55 ∨ k = 56 ∨ k = 57 := by omega
  rcases this with h | h | h | h | h | h | h | h | h | h <;> subst h <;> decide +kernel
def S_number_of : Pm := fun c ds Φ => ∃ t lo hi, ds = [.str t, .int lo, .int hi] ∧ t.length ≤ 50000 ∧ Φ (optI (numberOf t lo hi)) c

def S_is_word : Pm := fun c ds Φ => ∃ t, ds = [.str t] ∧ t.length ≤ 50000 ∧ Φ (.bl (isLet t 8)) c
def signL (m : Str) : Str := Txt.join " " ["signs", m]
def stD (n : Nat) : D := .tup ((stL n).map .str)
def S_states_of : Pm := fun c ds Φ => ∃ m : Str, ds = [.str m] ∧ m.length ≤ 5 ∧ Φ (stD m.length) c
section
variable {P : Program} {w : World} {K : PySem.W.Frag} {mg : Str → Option Value} {base : Heap}
set_option maxHeartbeats 8000000 in
theorem ok_number_of (T : Tx K mg) : FnOk P w K mg base CX0 1 T.a_number_of T.d_number_of ["text", "least", "most"] (spD K 0 3 S_number_of) := by
  refine fnD T.F_number_of sc_number_of fun cdv A outer s H E hr => ⟨_, (psd_cons (psd_if (PDw.pt (pdw_or (pdt_ne hr (pd_len (pd_v 0) T.n_len) pd_int) (pdw_or (pdt_nin hr (pd_v 0) (pd_gs T.c_DIGITS)) (pdw_or1 (pdt_not (pdt_lele (pd_v 1) (pd_intc (pd_v 0) T.n_int) (pd_v 2))))))) (psd_one (psd_ret pd_non)) psd_nil) (psd_one (psd_ret (pd_intc (pd_v 0) T.n_int)))), ?_⟩
  rintro c ds Φ hc - ⟨t, lo, hi, rfl, ht, hΦ⟩
  cases c with
  | cons _ _ => cases hc
  | nil =>
  conv => whnf
  refine ⟨Nat.le_trans ht (by decide), ?_⟩
  conv => whnf
  split
  · rename_i he
    conv => whnf
    have he : ¬ (t.length : Int) = 1 := by simpa using he
    have : numberOf t lo hi = none := by
      unfold numberOf
      split
      · rename_i k e
        refine absurd ?_ he
        show ((t.cps.size : Nat) : Int) = 1
        rw [← Array.length_toList, e]; rfl
      · rfl
    rw [this] at hΦ
    exact hΦ
  · rename_i he
    have he : (t.length : Int) = 1 := by simpa using he
    obtain ⟨k, rfl⟩ := str_one he
    conv => whnf
    split
    · rename_i hd
      conv => whnf
      have hd : ¬ (48 ≤ k ∧ k ≤ 57) := by
        rw [← dig_in]
        simpa [inS] using hd
      have : numberOf (one k) lo hi = none := by
        show (if _ then _ else _) = _
        rw [if_neg (fun z => hd z.1)]
      rw [this] at hΦ
      exact hΦ
    · rename_i hd
      have hd : 48 ≤ k ∧ k ≤ 57 := by
        rw [← dig_in]
        simpa [inS] using hd
      conv => whnf
      refine ⟨by show 1 ≤ 640; decide, _, dig_val hd, ?_⟩
      conv => whnf
      have fin : ∀ b : Bool, (b = true → lo ≤ (k : Int) - 48 ∧ (k : Int) - 48 ≤ hi) → (b = false → ¬ (lo ≤ (k : Int) - 48 ∧ (k : Int) - 48 ≤ hi)) → (match (!b) with
        | true => retD 0 Φ .non []
        | false => dRet (dCB (un1 fInt) (dCons (dVar 0) dNil)) ⟨fun _ c' => retD 0 Φ .non c', retD 0 Φ, fun _ _ => False, fun _ _ => False⟩ (startD ["text", "least", "most"] [.str (one k), .int lo, .int hi]) []) := fun b h1 h2 => by
        cases b with
        | true =>
          conv => whnf
          refine ⟨by show 1 ≤ 640; decide, _, dig_val hd, ?_⟩
          conv => whnf
          have : numberOf (one k) lo hi = some ((k : Int) - 48) := by
            show (if _ then _ else _) = _
            rw [if_pos ⟨hd, h1 rfl⟩]
          rw [this] at hΦ
          exact hΦ
        | false =>
          conv => whnf
          have : numberOf (one k) lo hi = none := by
            show (if _ then _ else _) = _
            rw [if_neg (fun z => h2 rfl z.2)]
          rw [this] at hΦ
          exact hΦ
      split
      · rename_i he
        have hl : lo ≤ (k : Int) - 48 := by simpa using he
        conv => whnf
        exact fin (decide ((k : Int) - 48 ≤ hi)) (fun h => ⟨hl, of_decide_eq_true h⟩) (fun h z => of_decide_eq_false h z.2)
      · rename_i he
        have hl : ¬ lo ≤ (k : Int) - 48 := by simpa using he
        exact fin false (fun h => by cases h) (fun _ z => hl z.1)
      · rename_i h1 h2
        cases e : decide (lo ≤ (k : Int) - 48) with
        | true => exact (h1 (by simp [e])).elim
        | false => exact (h2 (by simp [e])).elim
set_option maxHeartbeats 8000000 in
theorem ok_is_word (T : Tx K mg) : FnOk P w K mg base CX0 2 T.a_is_word T.d_is_word ["value"] (spD K 0 1 S_is_word) := by
  refine fnD T.F_is_word sc_is_word fun cdv A outer s H E hr => ⟨_, (psd_one (psd_ret (pd_and (pd_isi isi_str (.ty "str") (pd_v 0) (pe_bltn rfl T.n_str (by decide +kernel) rfl) T.n_isinstance) (pd_one (pd_callP (ok_is_letters T) (hr.mono (by decide)) T.g_is_letters T.F_is_letters.kp T.b_is_letters pass0 (pds_cons (pd_v 0) (pds_cons (pd_gi T.c_LONGEST_WORD) pds_nil))))))), ?_⟩
  rintro c ds Φ hc - ⟨t, rfl, ht, hΦ⟩
  cases c with
  | cons _ _ => cases hc
  | nil =>
  conv => whnf
  refine ⟨_, true, rfl, rfl, ?_⟩
  conv => whnf
  exact ⟨rfl, rfl, t, 8, rfl, ht, hΦ⟩
set_option maxHeartbeats 8000000 in
theorem ok_states_of (T : Tx K mg) : FnOk P w K mg base CX0 1 T.a_states_of T.d_states_of ["signs"] (spD K 0 1 S_states_of) := by
  refine fnD T.F_states_of sc_states_of fun cdv A outer s H E hr => ⟨_, (psd_one (psd_ret (pd_tuplec (pd_lc2 (i := 1) (j := 2) rfl sc_states_of.nd (pid_range1 (pd_len (pd_v 0) T.n_len) T.n_range) (by kernel_rfl) (fun _ _ _ _ _ => pg_name (i := 1) sc_states_of.nd rfl (Or.inl rfl)) (fun _ _ _ _ _ => (pid_str pd_str)) (fun _ _ _ _ _ => pg_name (i := 2) sc_states_of.nd rfl (Or.inl rfl)) (fun _ _ _ _ _ => (pd_fs2 (pd_v 1) (pd_v 2)))) T.n_tuple))), ?_⟩
  rintro c ds Φ hc - ⟨m, rfl, hm, hΦ⟩
  cases c with
  | cons _ _ => cases hc
  | nil =>
  conv => whnf
  refine ⟨short (by omega), ?_⟩
  conv => whnf
  have mi : ∀ d ∈ rng 0 ((m.length : Int).toNat), ∃ i : Nat, i < 5 ∧ d = .int i := fun d hd => by
    obtain ⟨i, hi, rfl⟩ := List.mem_map.mp hd
    exact ⟨i, by have := List.mem_range.mp hi; simp at this; omega, by simp⟩
  have tl : ∀ i : Nat, i < 5 → (toString (i : Int) : Str).length ≤ 1 ∧ (i : Int).natAbs.log2 < 1920 := fun i hi =>
    ⟨tame_len (dig_tame (by omega)), by
      have : (i : Int).natAbs < 16 := by omega
      have : (i : Int).natAbs.log2 < 4 := by
        by_cases h0 : (i : Int).natAbs = 0
        · rw [h0]; decide
        · exact (Nat.log2_lt h0).mpr (by omega)
      omega⟩
  refine ⟨⟨by omega, by omega⟩, fun _ => [.str "<", .str ">"], fun a b => match a, b with | .int i, .str x => .str ((toString i : Str) ++ x) | _, _ => .non, rfl, ?_, ?_, ?_, ?_⟩
  · intro d hd acc Ψ h
    conv => whnf
    exact h
  · intro d hd e he
    obtain ⟨i, hi, rfl⟩ := mi d hd
    obtain ⟨h1, h2⟩ := tl i hi
    have fin : ∀ x : Str, x.length = 1 → okD 0 (.str ((toString (i : Int) : Str) ++ x)) = true ∧ ∀ acc (Ψ : D → List Cell → Prop), Ψ (.str ((toString (i : Int) : Str) ++ x)) [.lst acc] → dFs2 (dVar 1) (dVar 2) ((((List.set (startD ["signs", "phase", "way"] [.str m]) 2 none).set 1 none).set 1 (some (.int i))).set 2 (some (.str x))) [.lst acc] Ψ := fun x hx => by
      refine ⟨rfl, fun acc Ψ h => ?_⟩
      conv => whnf
      refine ⟨_, by show (if _ then _ else _) = _; exact if_pos h2, short (by omega), ?_⟩
      conv => whnf
      exact ⟨_, by show (if _ then _ else _) = _; exact if_pos (short (by omega)), short (by omega), h⟩
    rcases List.mem_cons.mp he with rfl | he
    · exact fin "<" (by decide)
    · rw [List.mem_singleton.mp he]; exact fin ">" (by decide)
  · have : ∀ l : List D, (l.flatMap fun d => ([.str "<", .str ">"] : List D).map fun b => match d, b with | .int i, .str x => D.str ((toString i : Str) ++ x) | _, _ => .non).length = 2 * l.length := fun l => by
      induction l with
      | nil => rfl
      | cons d l ih => rw [List.flatMap_cons, List.length_append, ih, List.length_cons, List.length_map]; show 2 + _ = _; omega
    refine Nat.le_trans (Nat.le_of_eq (this _)) ?_
    rw [rng_len]
    exact short (by simp; omega)
  · conv => whnf
    have e : ((rng 0 ((m.length : Int).toNat)).flatMap fun d => ([.str "<", .str ">"] : List D).map fun b => match d, b with | .int i, .str x => D.str ((toString i : Str) ++ x) | _, _ => .non) = (stL m.length).map .str := by
      unfold rng stL
      rw [List.flatMap_map, List.map_flatMap]
      simp [stS]
    rw [e]
    exact hΦ

end
end K03

namespace K03
open PySem PySem.Spec PyProof.Rows L2 Cw

theorem dig_num {l : Nat} (h : l < 10) (lo hi : Int) (h1 : lo ≤ l) (h2 : (l : Int) ≤ hi) : numberOf (toString (l : Int)) lo hi = some (l : Int) := by
  have e : (toString (l : Int) : Str).cps.toList = [l + 48] := all_small h (P := fun l : Nat => (toString (l : Int) : Str).cps.toList = [l + 48]) (by decide +kernel)
  unfold numberOf
  rw [e]
  show (if _ then _ else _) = _
  have e2 : ((l + 48 : Nat) : Int) - 48 = l := by omega
  rw [e2, if_pos ⟨⟨by omega, by omega⟩, h1, h2⟩]
theorem txt_flat (ys : List Str) : (ys.map D.str).all flatD = true := by
  rw [List.all_map]; exact List.all_eq_true.mpr fun x _ => rfl
section
variable {P : Program} {w : World} {K : PySem.W.Frag} {mg : Str → Option Value} {base : Heap}
end
end K03

namespace K03
open PySem PySem.Spec PyProof.Rows L2 Cw

def S_names_of : Pm := fun c ds Φ => ∃ rs : List (Str × List D), ds = [.tup (rs.map fun r => .tup (.str r.1 :: r.2))] ∧ rs.length < 64 ∧ ∀ zs : List Str, zs.Nodup → sortedS zs = true → (∀ x, x ∈ zs ↔ x ∈ rs.map (·.1)) → Φ (.tup (zs.map .str)) c
theorem at_zero {α : Type} (x : α) (l : List α) : L2.atI (x :: l) 0 = some x := by
  unfold L2.atI L2.ixN
  rw [if_pos (by decide), if_pos (by simp)]; rfl
theorem ok_parts (ps : List Part) : okDs 0 [.tup (ps.map Part.d')] = true := by
  show (okDs 0 (ps.map Part.d') && true) = true
  rw [okDs_map (fun _ => rfl)]; rfl
theorem ok_joints (ps : List Joint) : okDs 0 [.tup (ps.map Joint.d')] = true := by
  show (okDs 0 (ps.map Joint.d') && true) = true
  rw [okDs_map (fun _ => rfl)]; rfl
theorem d_part (p : Part) : D.py p.d' = some p.py := rfl
theorem d_joint (p : Joint) : D.py p.d' = some p.py := rfl
section
variable {P : Program} {w : World} {K : PySem.W.Frag} {mg : Str → Option Value} {base : Heap}
set_option maxHeartbeats 8000000 in
theorem ok_names_of (T : Tx K mg) : FnOk P w K mg base CX0 1 T.a_names_of T.d_names_of ["rows"] (spD K 0 1 S_names_of) := by
  refine fnD T.F_names_of sc_names_of fun cdv A outer s H E hr => ⟨_, (psd_one (psd_ret (pd_tuplec (pd_sortSet T.n_sorted rfl sc_names_of.nd (pid_tup (pd_v 0)) (by kernel_rfl) (fun _ _ _ _ _ => pg_name (i := 1) sc_names_of.nd rfl (Or.inl rfl)) (fun _ _ _ _ _ => (pd_ix (pd_v 1) pd_int))) T.n_tuple))), ?_⟩
  rintro c ds Φ hc - ⟨rs, rfl, few, hΦ⟩
  cases c with
  | cons _ _ => cases hc
  | nil =>
  conv => whnf
  refine ⟨rs.map (·.1), by rw [List.length_map, List.length_map], by rw [List.length_map]; exact few, ?_, fun zs nd so mem => ?_⟩
  · intro j d y hd hy Ψ h
    rw [List.getElem?_map] at hd hy
    cases e : rs[j]? with
    | none => rw [e] at hd; cases hd
    | some r =>
      rw [e] at hd hy
      cases hd; cases hy
      conv => whnf
      rw [at_zero]
      exact h
  · conv => whnf
    exact hΦ zs nd so mem
end
end K03

namespace K03
open PySem PySem.Spec PyProof.Rows L2 Cw

structure Sp where
  m : Str
  ps : List Part
  js : List Joint
def Sp.lines (s : Sp) : List Str := signL s.m :: (s.ps.map Part.row ++ s.js.map Joint.row)
def Sp.text (s : Sp) : Str := Txt.join "\n" s.lines
structure Sp.ok (s : Sp) : Prop where
  m : isLet s.m 5 = true
  ps : ∀ p ∈ s.ps, p.ok s.m.length
  np : s.ps.length ≤ 8
  dp : (s.ps.map (·.t)).Nodup
  js : ∀ p ∈ s.js, p.ok s.m.length
  nj : s.js.length ≤ 12
  dj : (s.js.map Joint.k).Nodup
  pool : ∃ pool : List Str, pool.length ≤ 4 ∧ ∀ p ∈ s.js, p.t ∈ pool
def Sp.d (s : Sp) : D := .tup [.str s.m, .tup (s.ps.map Part.d'), .tup (s.js.map Joint.d')]
theorem starts_t {x y : Str} {r : List Nat} (h : TL.tl x = TL.tl y ++ r) : Txt.startswith x y = true := by
  have lx : x.length = (TL.tl x).length := Array.length_toList.symm
  have ly : y.length = (TL.tl y).length := Array.length_toList.symm
  show (decide (0 + y.length ≤ x.length) && Builtin.Str.subAt x y 0) = true
  rw [PySem.StrLaws.subAt_eq, decide_eq_true (by rw [lx, ly, h, List.length_append]; omega), show x.cps.toList = TL.tl y ++ r from h, ly, List.drop_zero, List.take_left]
  simp [TL.tl]
theorem starts_f {x y : Str} {a b : Nat} {r q : List Nat} (h : TL.tl x = a :: r) (h2 : TL.tl y = b :: q) (ne : a ≠ b) : Txt.startswith x y = false := by
  have ly : y.length = (TL.tl y).length := Array.length_toList.symm
  show (decide (0 + y.length ≤ x.length) && Builtin.Str.subAt x y 0) = false
  rw [PySem.StrLaws.subAt_eq, show x.cps.toList = a :: r from h, show y.cps.toList = b :: q from h2, ly, h2]
  simp [ne]
theorem part_starts (p : Part) : Txt.startswith p.row "piece " = true := by
  refine starts_t (r := TL.joinL (TL.tl " ") ([p.t, stS p.i p.d, stS p.j p.e, "long", toString (p.l : Int), "cost", toString (p.c : Int)].map TL.tl)) ?_
  unfold Part.row Part.ws
  rw [TL.join_eq, TL.tl_join, show TL.tl ("piece " : Str) = TL.tl ("piece" : Str) ++ TL.tl (" " : Str) by decide +kernel, List.append_assoc]
  rfl
theorem joint_starts (p : Joint) : Txt.startswith p.row "piece " = false := by
  refine starts_f (a := 99) (b := 112) (r := [111, 114, 110, 101, 114] ++ (TL.tl (" " : Str) ++ TL.joinL (TL.tl " ") ([p.t, bendS p.o, stS p.i p.d, stS p.j p.e, "cost", toString (p.c : Int)].map TL.tl))) (q := [105, 101, 99, 101, 32]) ?_ (by decide +kernel) (by decide)
  unfold Joint.row Joint.ws
  rw [TL.join_eq, TL.tl_join]
  show TL.tl ("corner" : Str) ++ (TL.tl (" " : Str) ++ _) = _
  rw [show TL.tl ("corner" : Str) = [99, 111, 114, 110, 101, 114] by decide +kernel]
  rfl
theorem cut_from {α : Type} (xs : List α) (k : Nat) : Cw.cutD xs (some (k : Int)) none = xs.drop k := by
  unfold Cw.cutD
  rw [HT.sIx_nat, HT.sIx_none]
  by_cases h : k ≤ xs.length
  · rw [Nat.min_eq_left h, List.take_of_length_le (by rw [List.length_drop]; omega)]
  · rw [Nat.min_eq_right (by omega), List.drop_length, List.drop_of_length_le (by omega)]; simp
theorem cut_both {α : Type} (xs : List α) (k n : Nat) : Cw.cutD xs (some (k : Int)) (some (n : Int)) = (xs.take n).drop k := by
  unfold Cw.cutD
  rw [HT.sIx_nat, HT.sIx_nat, List.drop_take]
  by_cases h : k ≤ xs.length
  · rw [Nat.min_eq_left h]
    by_cases h2 : n ≤ xs.length
    · rw [Nat.min_eq_left h2]
    · rw [Nat.min_eq_right (by omega), List.take_of_length_le (by rw [List.length_drop]; omega), List.take_of_length_le (by rw [List.length_drop]; omega)]
  · rw [Nat.min_eq_right (show xs.length ≤ k by omega), List.drop_length, List.drop_of_length_le (show xs.length ≤ k by omega)]; simp
theorem Sp.split {s : Sp} (h : s.ok) : Txt.split s.text "
" = s.lines := by
  have hn : s.m.length ≤ 5 := tame_len (let_tame (n := 5) h.m)
  refine TL.split_join (s := 10) (S := []) (by decide +kernel) (by decide +kernel) (by simp [Sp.lines]) fun p hp => ?_
  rcases List.mem_cons.mp hp with rfl | hp
  · refine ws_line (ws := ["signs", s.m]) fun w hw => ?_
    rcases List.mem_cons.mp hw with rfl | hw
    · decide +kernel
    · rw [List.mem_singleton.mp hw]
      obtain ⟨h1, h2⟩ := Bool.and_eq_true_iff.mp (let_tame (n := 5) h.m)
      exact Bool.and_eq_true_iff.mpr ⟨h1, decide_eq_true (by omega)⟩
  · rcases List.mem_append.mp hp with hp | hp
    · obtain ⟨q, hq, rfl⟩ := List.mem_map.mp hp
      exact ws_line (Part.tames (h.ps q hq) hn)
    · obtain ⟨q, hq, rfl⟩ := List.mem_map.mp hp
      exact ws_line (Joint.tames (h.js q hq) hn)
theorem sum_le {xs : List Str} {k : Nat} (h : ∀ x ∈ xs, x.length ≤ k) : (xs.map (·.length)).sum ≤ k * xs.length := by
  induction xs with
  | nil => exact Nat.zero_le _
  | cons x xs ih =>
    have h1 := h x List.mem_cons_self
    have h2 := ih fun y hy => h y (List.mem_cons_of_mem _ hy)
    rw [List.map_cons, List.sum_cons, List.length_cons, Nat.mul_add]
    omega
theorem Sp.sums {s : Sp} (h : s.ok) : (s.lines.map (·.length)).sum ≤ 2100 ∧ s.lines.length ≤ 21 := by
  have hn : s.m.length ≤ 5 := tame_len (let_tame (n := 5) h.m)
  have h2 : (s.lines.map (·.length)).sum ≤ 100 * s.lines.length := sum_le fun x hx => by
    rcases List.mem_cons.mp hx with rfl | hx
    · have h1 := join_len (" " : Str) [("signs" : Str), s.m]
      have h3 : (" " : Str).length = 1 := by decide
      have h4 : ("signs" : Str).length = 5 := by decide
      rw [h3] at h1
      simp only [List.map_cons, List.map_nil, List.sum_cons, List.sum_nil, List.length_cons, List.length_nil, h4] at h1
      exact Nat.le_trans h1 (by omega)
    · rcases List.mem_append.mp hx with hx | hx
      · obtain ⟨q, hq, rfl⟩ := List.mem_map.mp hx
        exact Nat.le_trans (ws_len (Part.tames (h.ps q hq) hn)) (by simp [Part.ws])
      · obtain ⟨q, hq, rfl⟩ := List.mem_map.mp hx
        exact Nat.le_trans (ws_len (Joint.tames (h.js q hq) hn)) (by simp [Joint.ws])
  have h3 : s.lines.length ≤ 21 := by
    have a := h.np
    have b := h.nj
    simp [Sp.lines]; omega
  exact ⟨by omega, h3⟩
theorem Sp.len {s : Sp} (h : s.ok) : s.text.length ≤ 2200 := by
  have h1 := join_len ("
" : Str) s.lines
  obtain ⟨h2, h3⟩ := Sp.sums h
  have h4 : ("
" : Str).length = 1 := by decide
  rw [h4] at h1
  show (Txt.join "
" s.lines).length ≤ 2200
  omega
theorem lc_pair {α : Type} {i : Nat} {te : TD} {ρ : Cw.Env} {c : List Cell} {Φ : List D → List Cell → Prop} (d r : α → D) (hc : okCs c.length c = true) : ∀ (xs : List α) (acc : List D),
    (∀ x ∈ xs, okD c.length (r x) = true ∧ ∀ acc (Ψ : D → List Cell → Prop), okDs c.length acc = true → Ψ (r x) (c ++ [.lst acc]) → te (ρ.set i (some (d x))) (c ++ [.lst acc]) Ψ) →
    okDs c.length acc = true → acc.length + xs.length ≤ sizeLine → Φ (acc ++ xs.map r) c → lcD i dYes te (xs.map d) acc ρ c Φ
  | [], acc, _, h, _, q => ⟨hc, h, by simpa using q⟩
  | x :: xs, acc, he, h, hl, q => by
    have hl' : acc.length + (xs.length + 1) ≤ sizeLine := hl
    obtain ⟨hk, ht⟩ := he x List.mem_cons_self
    show te _ _ _
    refine ht acc _ h ⟨by omega, inner_same ?_⟩
    refine lc_pair d r hc xs _ (fun y hy => he y (List.mem_cons_of_mem _ hy)) (okDs_app h (okDs_one hk)) (by rw [List.length_append]; show acc.length + 1 + xs.length ≤ _; omega) ?_
    simpa using q
theorem counted (ps : List Part) (js : List Joint) : (((ps.map Part.row ++ js.map Joint.row).map D.str).filter fun d => match d with | .str x => Txt.startswith x "piece " | _ => false).length = ps.length := by
  rw [List.map_append, List.filter_append, List.map_map, List.map_map, List.filter_eq_self.mpr, List.filter_eq_nil_iff.mpr]
  · simp
  · intro d hd
    obtain ⟨p, _, rfl⟩ := List.mem_map.mp hd
    show ¬ Txt.startswith p.row "piece " = true
    rw [joint_starts]; decide
  · intro d hd
    obtain ⟨p, _, rfl⟩ := List.mem_map.mp hd
    exact part_starts p
section
variable {P : Program} {w : World} {K : PySem.W.Frag} {mg : Str → Option Value} {base : Heap}
end
end K03

namespace K03
open PySem PySem.Spec PyProof.Rows L2 Cw

def fldB : List Str := ["whole", "motif", "piece_rows", "corner_rows", "all_states", "corner_names"]
def bordD (C : Addr) (t m ps js st nm : D) : D := .ins C fldB [t, m, ps, js, st, nm]
def S_Borders_text (C : Addr) : Pm := fun c ds Φ => ∃ t m ps js st nm, ds = [bordD C t m ps js st nm] ∧ okD 0 t = true ∧ Φ t c
def S_Borders_signs (C : Addr) : Pm := fun c ds Φ => ∃ t m ps js st nm, ds = [bordD C t m ps js st nm] ∧ okD 0 m = true ∧ Φ m c
def S_Borders_states (C : Addr) : Pm := fun c ds Φ => ∃ t m ps js st nm, ds = [bordD C t m ps js st nm] ∧ okD 0 st = true ∧ Φ st c
def S_Borders_pieces (C : Addr) : Pm := fun c ds Φ => ∃ t m ps js st nm, ds = [bordD C t m ps js st nm] ∧ okD 0 ps = true ∧ Φ ps c
def S_Borders_corners (C : Addr) : Pm := fun c ds Φ => ∃ t m ps js st nm, ds = [bordD C t m ps js st nm] ∧ okD 0 js = true ∧ Φ js c
def S_Borders_names (C : Addr) : Pm := fun c ds Φ => ∃ t m ps js st nm, ds = [bordD C t m ps js st nm] ∧ okD 0 nm = true ∧ Φ nm c
def S_Borders___str__ (C : Addr) : Pm := fun c ds Φ => ∃ t m ps js st nm, ds = [bordD C (.str t) m ps js st nm] ∧ Φ (.str t) c
section
variable {P : Program} {w : World} {K : PySem.W.Frag} {mg : Str → Option Value} {base : Heap}
set_option maxHeartbeats 8000000 in
theorem ok_Borders_text (T : Tx K mg) : FnOk P w K mg base CX0 1 T.a_Borders_text T.d_Borders_text ["self"] (spD K 0 1 (S_Borders_text T.C_Borders)) := by
  refine fnD T.F_Borders_text sc_Borders_text fun cdv A outer s H E hr => ⟨_, (psd_one (psd_ret (pd_fld T.cl_Borders T.na_whole (pd_v 0)))), ?_⟩
  rintro c ds Φ hc - ⟨t, m, ps, js, st, nm, rfl, hok, hΦ⟩
  cases c with
  | cons _ _ => cases hc
  | nil =>
  conv => whnf
  refine ⟨rfl, _, rfl, ?_⟩
  conv => whnf
  exact hΦ
set_option maxHeartbeats 8000000 in
theorem ok_Borders_signs (T : Tx K mg) : FnOk P w K mg base CX0 1 T.a_Borders_signs T.d_Borders_signs ["self"] (spD K 0 1 (S_Borders_signs T.C_Borders)) := by
  refine fnD T.F_Borders_signs sc_Borders_signs fun cdv A outer s H E hr => ⟨_, (psd_one (psd_ret (pd_fld T.cl_Borders T.na_motif (pd_v 0)))), ?_⟩
  rintro c ds Φ hc - ⟨t, m, ps, js, st, nm, rfl, hok, hΦ⟩
  cases c with
  | cons _ _ => cases hc
  | nil =>
  conv => whnf
  refine ⟨rfl, _, rfl, ?_⟩
  conv => whnf
  exact hΦ
set_option maxHeartbeats 8000000 in
theorem ok_Borders_states (T : Tx K mg) : FnOk P w K mg base CX0 1 T.a_Borders_states T.d_Borders_states ["self"] (spD K 0 1 (S_Borders_states T.C_Borders)) := by
  refine fnD T.F_Borders_states sc_Borders_states fun cdv A outer s H E hr => ⟨_, (psd_one (psd_ret (pd_fld T.cl_Borders T.na_all_states (pd_v 0)))), ?_⟩
  rintro c ds Φ hc - ⟨t, m, ps, js, st, nm, rfl, hok, hΦ⟩
  cases c with
  | cons _ _ => cases hc
  | nil =>
  conv => whnf
  refine ⟨rfl, _, rfl, ?_⟩
  conv => whnf
  exact hΦ
set_option maxHeartbeats 8000000 in
theorem ok_Borders_pieces (T : Tx K mg) : FnOk P w K mg base CX0 1 T.a_Borders_pieces T.d_Borders_pieces ["self"] (spD K 0 1 (S_Borders_pieces T.C_Borders)) := by
  refine fnD T.F_Borders_pieces sc_Borders_pieces fun cdv A outer s H E hr => ⟨_, (psd_one (psd_ret (pd_fld T.cl_Borders T.na_piece_rows (pd_v 0)))), ?_⟩
  rintro c ds Φ hc - ⟨t, m, ps, js, st, nm, rfl, hok, hΦ⟩
  cases c with
  | cons _ _ => cases hc
  | nil =>
  conv => whnf
  refine ⟨rfl, _, rfl, ?_⟩
  conv => whnf
  exact hΦ
set_option maxHeartbeats 8000000 in
theorem ok_Borders_corners (T : Tx K mg) : FnOk P w K mg base CX0 1 T.a_Borders_corners T.d_Borders_corners ["self"] (spD K 0 1 (S_Borders_corners T.C_Borders)) := by
  refine fnD T.F_Borders_corners sc_Borders_corners fun cdv A outer s H E hr => ⟨_, (psd_one (psd_ret (pd_fld T.cl_Borders T.na_corner_rows (pd_v 0)))), ?_⟩
  rintro c ds Φ hc - ⟨t, m, ps, js, st, nm, rfl, hok, hΦ⟩
  cases c with
  | cons _ _ => cases hc
  | nil =>
  conv => whnf
  refine ⟨rfl, _, rfl, ?_⟩
  conv => whnf
  exact hΦ
set_option maxHeartbeats 8000000 in
theorem ok_Borders_names (T : Tx K mg) : FnOk P w K mg base CX0 1 T.a_Borders_names T.d_Borders_names ["self"] (spD K 0 1 (S_Borders_names T.C_Borders)) := by
  refine fnD T.F_Borders_names sc_Borders_names fun cdv A outer s H E hr => ⟨_, (psd_one (psd_ret (pd_fld T.cl_Borders T.na_corner_names (pd_v 0)))), ?_⟩
  rintro c ds Φ hc - ⟨t, m, ps, js, st, nm, rfl, hok, hΦ⟩
  cases c with
  | cons _ _ => cases hc
  | nil =>
  conv => whnf
  refine ⟨rfl, _, rfl, ?_⟩
  conv => whnf
  exact hΦ
set_option maxHeartbeats 8000000 in
theorem ok_Borders___str__ (T : Tx K mg) : FnOk P w K mg base CX0 1 T.a_Borders___str__ T.d_Borders___str__ ["self"] (spD K 0 1 (S_Borders___str__ T.C_Borders)) := by
  refine fnD T.F_Borders___str__ sc_Borders___str__ fun cdv A outer s H E hr => ⟨_, (psd_one (psd_ret (pd_strc (pd_fld T.cl_Borders T.na_whole (pd_v 0)) T.n_str))), ?_⟩
  rintro c ds Φ hc - ⟨t, m, ps, js, st, nm, rfl, hΦ⟩
  cases c with
  | cons _ _ => cases hc
  | nil =>
  conv => whnf
  refine ⟨rfl, _, rfl, ?_⟩
  conv => whnf
  exact hΦ
end
end K03

namespace K03
open PySem PySem.Spec PyProof.Rows L2 Cw
def spr (a b k : Int) : Cell := .lst [.int a, .int b, .int k]
def S__law_take : Pm := fun c ds Φ => ∃ a b k m, c = [spr a b k] ∧ ds = [.cell 0, .int m] ∧ (0 ≤ a ∧ a < 2147483587) ∧ 0 ≤ b ∧ (0 ≤ k ∧ k < 100000) ∧ (0 < m ∧ m < 1073741824) ∧ ∀ v a' b', 0 ≤ v → v < m → 0 ≤ a' → a' < 2147483587 → 0 ≤ b' → Φ (.int v) [spr a' b' (k + 1)]
def intsD (ns : List Int) : D := .fl (ns.map .int)
def S__law_spring : Pn := fun ds Φ => ∃ ns at_, ds = [intsD ns, .int at_] ∧ (0 ≤ at_ ∧ at_ ≤ 100) ∧ ns.length ≤ 63 ∧ ∀ a b : Int, (0 ≤ a ∧ a < 2147483587) → 0 ≤ b → Φ [.int a, .int b, .int 0]
theorem spring_tail {Φ : List D → Prop} {ns : List Int} {at_ own mix : Int} {x4 : Option D} (ha : 0 ≤ at_ ∧ at_ ≤ 100) (hm : 0 ≤ mix ∧ mix < 2147483587) (hΦ : ∀ (a b : Int), 0 ≤ a ∧ a < 2147483587 → 0 ≤ b → Φ [D.int a, D.int b, D.int 0]) :
    dRet (dLstM (dCons (dBin fMod (dCB (un1 fInt) (dCons (dBin fAdd (dBin fAdd (dBin fMul (dVar 3) (dC (.int 48271))) (dBin fMul (dC (.int 977)) (dVar 1))) (dC (.int 13))) dNil)) (dC (.int 2147483587)))
      (dCons (dIf (dOr (dT (dBin fLt (dVar 2) (dC (.int 0)))) (dT (dBin fGe (dVar 2) (dBin fPow (dC (.int 10)) (dC (.int 18)))))) (dCB (un1 fAbs) (dCons (dVar 2) dNil)) (dC (.int 0))) (dCons (dC (.int 0)) dNil))))
      ⟨fun _ _ => False, retN Φ, fun _ _ => False, fun _ _ => False⟩ [some (intsD ns), some (.int at_), some (.int own), some (.int mix), x4] [] := by
  conv => whnf
  ((refine ⟨?num, ?_⟩); (case num => first | omega | (left; omega) | (right; omega)); (conv => whnf))
  ((refine ⟨?num, ?_⟩); (case num => first | omega | (left; omega) | (right; omega)); (conv => whnf))
  ((refine ⟨?num, ?_⟩); (case num => first | omega | (left; omega) | (right; omega)); (conv => whnf))
  have fin : ∀ b : Int, 0 ≤ b → [D.int ((mix * 48271 + 977 * at_ + 13) % 2147483587), D.int b, D.int 0].length ≤ sizeLine ∧ retN Φ (.cell 0) [.lst [D.int ((mix * 48271 + 977 * at_ + 13) % 2147483587), D.int b, D.int 0]] := fun b hb =>
    ⟨by show 3 ≤ sizeLine; decide, _, rfl, rfl, hΦ _ b ⟨Int.emod_nonneg _ (by decide), Int.emod_lt_of_pos _ (by decide)⟩ hb⟩
  split
  · conv => whnf
    refine fin _ ?_
    split <;> omega
  · rename_i he
    have he : ¬ own < 0 := of_decide_eq_false he
    conv => whnf
    refine ⟨by decide, ?_⟩
    conv => whnf
    split
    · conv => whnf
      refine fin _ ?_
      split <;> omega
    · conv => whnf
      exact fin 0 (by decide)
def B3 (a b k : Int) (lim : Int) : Prop := (0 ≤ a ∧ a < 2147483587) ∧ 0 ≤ b ∧ (0 ≤ k ∧ k ≤ lim)
theorem B3.up {a b k l l' : Int} (h : B3 a b k l) (hl : l ≤ l') : B3 a b k l' := ⟨h.1, h.2.1, h.2.2.1, Int.le_trans h.2.2.2 hl⟩
theorem take_call {a b k m lim : Int} {rest : List Cell} {Φ : D → List Cell → Prop} (hB : B3 a b k lim) (hl : lim < 99999) (hm : 0 < m ∧ m < 1073741824)
    (h : ∀ v a' b' k', 0 ≤ v → v < m → B3 a' b' k' (lim + 1) → Φ (.int v) (spr a' b' k' :: rest)) : callM S__law_take [.cell 0, .int m] (spr a b k :: rest) Φ :=
  ⟨spr a b k, rfl, rfl, rfl, a, b, k, m, rfl, rfl, hB.1, hB.2.1, ⟨hB.2.2.1, by have := hB.2.2.2; omega⟩, hm, fun v a' b' h1 h2 h3 h4 h5 => ⟨rfl, rfl, h v a' b' _ h1 h2 ⟨⟨h3, h4⟩, h5, by have := hB.2.2.1; omega, by have := hB.2.2.2; omega⟩⟩⟩
theorem lc_inv {i : Nat} {te : TD} {ρ : Cw.Env} {Φ : List D → List Cell → Prop} (I : List D → List D → List Cell → Prop) (fin : ∀ acc c, I [] acc c → okCs c.length c = true ∧ okDs c.length acc = true ∧ Φ acc c)
    (step : ∀ d ds acc c (F : List D → List Cell → Prop), (∀ acc c, I ds acc c → F acc c) → I (d :: ds) acc c → te (ρ.set i (some d)) (c ++ [.lst acc]) fun y c3 => acc.length < sizeLine ∧ inner c.length acc y c3 fun c4 => F (acc ++ [y]) c4) : ∀ ds acc c, I ds acc c → lcD i dYes te ds acc ρ c Φ
  | [], acc, c, h => fin acc c h
  | d :: ds, acc, c, h => step d ds acc c _ (fun acc c h => lc_inv I fin step ds acc c h) h
section
variable {P : Program} {w : World} {K : PySem.W.Frag} {mg : Str → Option Value} {base : Heap}
set_option maxHeartbeats 8000000 in
theorem ok__law_take (T : Tx K mg) : FnOk P w K mg base CX0 1 T.a__law_take T.d__law_take ["_law_spring_here", "_law_much"] (spD K 1 2 S__law_take) := by
  refine fnD T.F__law_take sc__law_take fun cdv A outer s H E hr => ⟨_, (psd_cons (psd_asg (pd_add (pd_ix (pd_v 0) pd_int) pd_int) (pgd_sub (pd_v 0) pd_int)) (psd_cons (psd_set (i := 2) sc__law_take.nd (pd_intc (pd_ix (pd_v 0) pd_int) T.n_int)) (psd_cons (psd_set (i := 3) sc__law_take.nd (pd_add (pd_mod (pd_intc (pd_div (pd_v 2) pd_int) T.n_int) pd_int) pd_int)) (psd_cons (psd_asg (pd_mod (pd_intc (pd_add (pd_add (pd_mul (pd_v 2) (pd_v 3)) (pd_mul pd_int (pd_ix (pd_v 0) pd_int))) pd_int) T.n_int) pd_int) (pgd_sub (pd_v 0) pd_int)) (psd_cons (psd_if (pdt_gt (pd_ix (pd_v 0) pd_int) pd_int) (psd_cons (psd_asg (pd_divmod (pd_ix (pd_v 0) pd_int) (pd_v 1) T.n_divmod) (pgd_tup rfl (pgds_cons (pgd_sub (pd_v 0) pd_int) (pgds_cons (pgd_name (i := 4) sc__law_take.nd) pgds_nil)))) (psd_one (psd_ret (pd_v 4)))) psd_nil) (psd_one (psd_ret (pd_mod (pd_intc (pd_div (pd_ix (pd_v 0) pd_int) pd_int) T.n_int) (pd_v 1))))))))), ?_⟩
  rintro c ds Φ hc - ⟨a, b, k, m, rfl, rfl, ha, hb, hk, hm, hΦ⟩
  conv => whnf
  refine ⟨0, rfl, ?_⟩
  conv => whnf
  refine ⟨2, _, 2, rfl, rfl, rfl, ?_⟩
  conv => whnf
  ((refine ⟨?num, ?_⟩); (case num => first | omega | (left; omega) | (right; omega)); (conv => whnf))
  ((refine ⟨?num, ?_⟩); (case num => first | omega | (left; omega) | (right; omega)); (conv => whnf))
  ((refine ⟨?num, ?_⟩); (case num => first | omega | (left; omega) | (right; omega)); (conv => whnf))
  ((refine ⟨?num, ?_⟩); (case num => first | omega | (left; omega) | (right; omega)); (conv => whnf))
  ((refine ⟨?num, ?_⟩); (case num => first | omega | (left; omega) | (right; omega)); (conv => whnf))
  refine ⟨0, rfl, ?_⟩
  conv => whnf
  refine ⟨0, _, 0, rfl, rfl, rfl, ?_⟩
  conv => whnf
  have ha' := Int.emod_nonneg (a * (a / 8 % 40009 + 30011) + 8009 * (k + 1) + 29) (show (2147483587 : Int) ≠ 0 by decide)
  have ha'' := Int.emod_lt_of_pos (a * (a / 8 % 40009 + 30011) + 8009 * (k + 1) + 29) (show (0 : Int) < 2147483587 by decide)
  generalize (a * (a / 8 % 40009 + 30011) + 8009 * (k + 1) + 29) % 2147483587 = a1 at *
  split
  · rename_i he
    have hbp : 0 < b := of_decide_eq_true he
    conv => whnf
    refine ⟨hm, ?_⟩
    conv => whnf
    refine ⟨rfl, ?_⟩
    conv => whnf
    refine ⟨0, rfl, ?_⟩
    conv => whnf
    refine ⟨1, _, 1, rfl, rfl, rfl, ?_⟩
    conv => whnf
    refine ⟨rfl, ?_⟩
    conv => whnf
    exact hΦ (b % m) a1 (b / m) (Int.emod_nonneg _ (by omega)) (Int.emod_lt_of_pos _ hm.1) ha' ha'' (Int.ediv_nonneg hb (by omega))
  · conv => whnf
    refine ⟨by decide, ?_⟩
    conv => whnf
    refine ⟨hm.1, ?_⟩
    conv => whnf
    exact hΦ _ a1 b (Int.emod_nonneg _ (by omega)) (Int.emod_lt_of_pos _ hm.1) ha' ha'' hb
set_option maxHeartbeats 8000000 in
theorem ok__law_spring (T : Tx K mg) : FnOk P w K mg base CX0 1 T.a__law_spring T.d__law_spring ["_law_cells", "_law_at"] (spN K 2 S__law_spring) := by
  refine fnN T.F__law_spring sc__law_spring fun cdv A outer s H E hr => ⟨_, (psd_cons (psd_set (i := 2) sc__law_spring.nd (pd_if (pdt_lt (pd_v 1) (pd_len (pd_v 0) T.n_len)) (pd_ix (pd_v 0) (pd_v 1)) (pd_add (pd_mul pd_int (pd_v 1)) pd_int))) (psd_cons (psd_set (i := 3) sc__law_spring.nd (pd_mod (pd_intc (pd_v 2) T.n_int) pd_int)) (psd_cons (psd_if (pdt_ge (pd_v 1) (pd_len (pd_v 0) T.n_len)) (psd_one (psd_for PassesOwn.never rfl (pid_list (pd_sl (pd_v 0) po_no (po_so pd_int))) (pgd_name (i := 4) sc__law_spring.nd) (psd_one (psd_set (i := 3) sc__law_spring.nd (pd_mod (pd_intc (pd_add (pd_mul (pd_v 3) pd_int) (pd_v 4)) T.n_int) pd_int))))) psd_nil) (psd_one (psd_ret (pd_lstM (pds_cons (pd_mod (pd_intc (pd_add (pd_add (pd_mul (pd_v 3) pd_int) (pd_mul pd_int (pd_v 1))) pd_int) T.n_int) pd_int) (pds_cons (pd_if (PDw.pt (pdw_or (pdt_lt (pd_v 2) pd_int) (pdw_or1 (pdt_ge (pd_v 2) (pd_pow pd_int pd_int))))) (pd_abs (pd_v 2) T.n_abs) pd_int) (pds_cons pd_int pds_nil))))))))), ?_⟩
  rintro ds Φ - ⟨ns, at_, rfl, ha, hl, hΦ⟩
  conv => whnf
  split
  · rename_i he
    have hlt : at_ < ns.length := by have := of_decide_eq_true he; simpa using this
    have hj : ∃ j, at_ = (j : Nat) := ⟨at_.toNat, by omega⟩
    obtain ⟨j, rfl⟩ := hj
    have hj : j < ns.length := by omega
    have e1 : ixN (ns.map D.int).length (j : Int) = some j := by
      unfold ixN
      rw [List.length_map, if_pos (by omega), if_pos (by omega)]
      rfl
    have e2 : atI (ns.map D.int) (j : Int) = some (.int ns[j]) := by
      unfold atI
      rw [e1]
      show (ns.map D.int)[j]? = _
      rw [List.getElem?_map, List.getElem?_eq_getElem hj]
      rfl
    conv => whnf
    rw [e2]
    generalize ns[j] = own
    conv => whnf
    refine ⟨by decide, ?_⟩
    conv => whnf
    have hm := Int.emod_nonneg own (show (2147483587 : Int) ≠ 0 by decide)
    have hm' := Int.emod_lt_of_pos own (show (0 : Int) < 2147483587 by decide)
    generalize own % 2147483587 = mix0 at *
    have e3 : decide ((((ns.map D.int).length : Nat) : Int) ≤ (j : Int)) = false := decide_eq_false (by rw [List.length_map]; omega)
    split
    · rename_i h3
      exact absurd (e3.symm.trans h3) (by decide)
    · exact spring_tail ha ⟨hm, hm'⟩ hΦ
  · rename_i he
    have hge : ns.length ≤ at_ := by have := of_decide_eq_false he; simpa using this
    conv => whnf
    refine ⟨.inl (by decide), ?_⟩
    conv => whnf
    refine ⟨by decide, ?_⟩
    conv => whnf
    have hm := Int.emod_nonneg (11 * at_ + 5) (show (2147483587 : Int) ≠ 0 by decide)
    have hm' := Int.emod_lt_of_pos (11 * at_ + 5) (show (0 : Int) < 2147483587 by decide)
    have e2 : decide ((((ns.map D.int).length : Nat) : Int) ≤ at_) = true := decide_eq_true (by rw [List.length_map]; exact hge)
    generalize (11 * at_ + 5) % 2147483587 = mix0 at *
    split
    · conv => whnf
      refine forD_inv (fun ds ρ c => c = [] ∧ (∃ (mix : Int) (x4 : Option D), ρ = [some (intsD ns), some (.int at_), some (.int (11 * at_ + 5)), some (.int mix), x4] ∧ 0 ≤ mix ∧ mix < 2147483587) ∧ ∀ d ∈ ds, ∃ i : Int, d = .int i) ?_ ?_ _ _ _ ?_
      · rintro ρ c ⟨rfl, ⟨mix, x4, rfl, h1, h2⟩, -⟩
        exact spring_tail ha ⟨h1, h2⟩ hΦ
      · rintro d ds ρ c F hF ⟨rfl, ⟨mix, x4, rfl, h1, h2⟩, hi⟩
        obtain ⟨i, rfl⟩ := hi d List.mem_cons_self
        conv => whnf
        ((refine ⟨?num, ?_⟩); (case num => first | omega | (left; omega) | (right; omega)); (conv => whnf))
        ((refine ⟨?num, ?_⟩); (case num => first | omega | (left; omega) | (right; omega)); (conv => whnf))
        exact hF _ _ ⟨rfl, ⟨_, _, rfl, Int.emod_nonneg _ (by decide), Int.emod_lt_of_pos _ (by decide)⟩, fun d hd => hi d (List.mem_cons_of_mem _ hd)⟩
      · refine ⟨rfl, ⟨mix0, none, rfl, hm, hm'⟩, fun d hd => ?_⟩
        have hd := List.mem_of_mem_drop (List.mem_of_mem_take hd)
        obtain ⟨i, _, rfl⟩ := List.mem_map.mp hd
        exact ⟨i, rfl⟩
    · rename_i h3
      exact absurd (e2.symm.trans h3) (by decide)

end
end K03

namespace K03
open PySem PySem.Spec PyProof.Rows L2 Cw

theorem txts_of_ones : ∀ ks : List Nat, Cw.txts (ks.map fun q => D.str (one q)) = some (ks.map one)
  | [] => rfl
  | k :: ks => by
    show (Cw.txts (ks.map fun q => D.str (one q))).map (one k :: ·) = _
    rw [txts_of_ones ks]; rfl
theorem sum_ones (ks : List Nat) : ((ks.map one).map (·.length)).sum = ks.length := by
  induction ks with
  | nil => rfl
  | cons k ks ih => rw [List.map_cons, List.map_cons, List.sum_cons, ih, List.length_cons]; show 1 + _ = _; omega
def S__law_word : Pm := fun c ds Φ => ∃ a b k lim, c = [spr a b k] ∧ ds = [.cell 0] ∧ B3 a b k lim ∧ lim ≤ 80000 ∧ ∀ t a' b' k', isLet t 8 = true → B3 a' b' k' (lim + 10) → Φ (.str t) [spr a' b' k']
theorem at_small {v : Int} (h : 0 ≤ v ∧ v < 26) : ∃ k, L2.atI ("abcdefghijklmnopqrstuvwxyz" : Str).cps.toList v = some k ∧ lower k = true := by
  obtain ⟨n, rfl⟩ : ∃ n : Nat, v = n := ⟨v.toNat, by omega⟩
  refine ⟨97 + n, ?_, decide_eq_true (by omega)⟩
  exact all_small (show n < 26 by omega) (P := fun n : Nat => L2.atI ("abcdefghijklmnopqrstuvwxyz" : Str).cps.toList (n : Int) = some (97 + n)) (by decide +kernel)
theorem join_ones : ∀ ks : List Nat, Txt.join "" (ks.map one) = (⟨ks.toArray⟩ : Str) := fun ks => by
  refine TL.ext_tl ?_
  rw [TL.join_eq, TL.tl_join, show TL.tl ("" : Str) = [] by decide +kernel]
  show _ = ks
  have key : ∀ ks : List Nat, TL.joinL [] ((ks.map one).map TL.tl) = ks := by
    intro ks
    induction ks with
    | nil => rfl
    | cons k ks ih =>
      cases ks with
      | nil => rfl
      | cons q r =>
        show [k] ++ ([] ++ TL.joinL [] (((q :: r).map one).map TL.tl)) = k :: q :: r
        rw [ih]; rfl
  exact key ks
theorem let_mk {ks : List Nat} {n : Int} (h : ks.all lower = true) (h1 : 1 ≤ ks.length) (h2 : (ks.length : Int) ≤ n) : isLet ⟨ks.toArray⟩ n = true := by
  unfold isLet
  have e : (⟨ks.toArray⟩ : Str).length = ks.length := by show ks.toArray.size = _; simp
  rw [e, decide_eq_true ⟨by omega, h2⟩]
  exact h
/-- letters drawn one by one -/
theorem drawn {i : Nat} {te : TD} {ρ : Cw.Env} {Φ : List D → List Cell → Prop} {n : Nat} {lim : Int} (hl : lim + n < 90000) {a b k : Int} (hB : B3 a b k lim)
    (ht : ∀ (d : D) (acc : List D) (a b k lim : Int) (Ψ : D → List Cell → Prop), B3 a b k lim → lim < 90000 → (∀ q a' b' k', lower q = true → B3 a' b' k' (lim + 1) → Ψ (.str (one q)) [spr a' b' k', .lst acc]) → te (ρ.set i (some d)) [spr a b k, .lst acc] Ψ)
    (hn : n ≤ 60) (q : ∀ (ks : List Nat) a' b' k', ks.all lower = true → ks.length = n → B3 a' b' k' (lim + n) → Φ (ks.map fun q => .str (one q)) [spr a' b' k']) : lcD i dYes te (rng 0 n) [] ρ [spr a b k] Φ := by
  refine lc_inv (fun ds acc c => ∃ (ks : List Nat) (a b k : Int), acc = ks.map (fun q => .str (one q)) ∧ c = [spr a b k] ∧ ks.all lower = true ∧ ks.length + ds.length = n ∧ B3 a b k (lim + ks.length)) ?_ ?_ _ _ _ ⟨[], a, b, k, rfl, rfl, rfl, by rw [rng_len]; simp, by simpa using hB⟩
  · rintro acc c ⟨ks, a, b, k, rfl, rfl, h1, h2, h3⟩
    have e : ks.length = n := by simpa using h2
    exact ⟨rfl, okDs_map (fun _ => rfl) ks, q ks a b k h1 e (by rw [← e]; exact h3)⟩
  · rintro d ds acc c F hF ⟨ks, a, b, k, rfl, rfl, h1, h2, h3⟩
    have h2 : ks.length + (ds.length + 1) = n := h2
    refine ht d _ a b k _ _ h3 (by omega) fun q a' b' k' hq hB' => ⟨by rw [List.length_map]; exact Nat.lt_of_lt_of_le (show ks.length < 100 by omega) (by decide), rfl, ?_⟩
    refine hF _ _ ⟨ks ++ [q], a', b', k', by simp, rfl, by simp [h1, hq], by simp; omega, hB'.up (by simp; omega)⟩
section
variable {P : Program} {w : World} {K : PySem.W.Frag} {mg : Str → Option Value} {base : Heap}
set_option maxHeartbeats 8000000 in
theorem ok__law_word (T : Tx K mg) : FnOk P w K mg base CX0 2 T.a__law_word T.d__law_word ["_law_spring_here"] (spD K 1 1 S__law_word) := by
  refine fnD T.F__law_word sc__law_word fun cdv A outer s H E hr => ⟨_, (psd_cons (psd_set (i := 1) sc__law_word.nd (pd_lst (pds_cons pd_str (pds_cons pd_str (pds_cons pd_str (pds_cons pd_str (pds_cons pd_str (pds_cons pd_str (pds_cons pd_str (pds_cons pd_str (pds_cons pd_str (pds_cons pd_str pds_nil)))))))))))) (psd_cons (psd_if (pdt_eq hr (pd_callM (ok__law_take T) (hr.mono (by decide)) T.g__law_take T.F__law_take.kp T.b__law_take pass0 (pds_cons (pd_v 0) (pds_cons pd_int pds_nil))) pd_int) (psd_one (psd_ret (pd_ix (pd_v 1) (pd_callM (ok__law_take T) (hr.mono (by decide)) T.g__law_take T.F__law_take.kp T.b__law_take pass0 (pds_cons (pd_v 0) (pds_cons pd_int pds_nil)))))) psd_nil) (psd_cons (psd_set (i := 2) sc__law_word.nd pd_str) (psd_one (psd_ret (pd_join pd_str (pd_lc (i := 3) rfl sc__law_word.nd (pid_range1 (pd_add pd_int (pd_callM (ok__law_take T) (hr.mono (by decide)) T.g__law_take T.F__law_take.kp T.b__law_take pass0 (pds_cons (pd_v 0) (pds_cons pd_int pds_nil)))) T.n_range) (by kernel_rfl) (fun _ _ _ _ _ => pg_name (i := 3) sc__law_word.nd rfl (Or.inl rfl)) (fun _ _ _ _ _ => ptd_nil) (fun _ _ _ _ _ => (pd_ix (pd_v 2) (pd_callM (ok__law_take T) (hr.mono (by decide)) T.g__law_take T.F__law_take.kp T.b__law_take pass0 (pds_cons (pd_v 0) (pds_cons pd_int pds_nil)))))))))))), ?_⟩
  rintro c ds Φ hc - ⟨a, b, k, lim, rfl, rfl, hB, hl, hΦ⟩
  conv => whnf
  refine ⟨by show (10 : Nat) ≤ _; decide, ?_⟩
  conv => whnf
  refine ⟨rfl, ?_⟩
  refine take_call (rest := []) hB (by omega) (by decide) fun v a1 b1 k1 v1 v2 hB1 => ?_
  conv => whnf
  split
  · conv => whnf
    refine ⟨rfl, ?_⟩
    refine take_call (rest := []) hB1 (by omega) (by decide) fun v a2 b2 k2 v1 v2 hB2 => ?_
    have hv : v = 0 ∨ v = 1 ∨ v = 2 ∨ v = 3 ∨ v = 4 ∨ v = 5 ∨ v = 6 ∨ v = 7 ∨ v = 8 ∨ v = 9 := by omega
    rcases hv with rfl | rfl | rfl | rfl | rfl | rfl | rfl | rfl | rfl | rfl
    all_goals
      conv => whnf
      exact hΦ _ _ _ _ (by decide +kernel) (hB2.up (by omega))
  · conv => whnf
    refine ⟨_, rfl, ?_⟩
    conv => whnf
    refine ⟨rfl, ?_⟩
    refine take_call (rest := []) hB1 (by omega) (by decide) fun v a2 b2 k2 v1 v2 hB2 => ?_
    conv => whnf
    refine ⟨by omega, ?_⟩
    have e : (1 + v).toNat ≤ 8 := by omega
    refine drawn (lim := lim + 1 + 1) (by omega) hB2 (fun d acc a b k lim Ψ hB hl h => ?_) (by omega) fun ks a' b' k' h1 h2 h3 => ?_
    · conv => whnf
      refine ⟨rfl, ?_⟩
      refine take_call (rest := [.lst acc]) hB (by omega) (by decide) fun v a' b' k' v1 v2 hB' => ?_
      obtain ⟨q, e1, e2⟩ := at_small ⟨v1, v2⟩
      conv => whnf
      refine ⟨by show (26 : Nat) ≤ _; decide, ?_⟩
      rw [e1]
      exact h q a' b' k' e2 hB'
    · conv => whnf
      refine ⟨ks.map one, txts_of_ones ks, ?_, ?_⟩
      · rw [show ("" : Str).length = 0 by decide, sum_ones]; omega
      · rw [join_ones]
        exact hΦ _ a' b' k' (let_mk h1 (by omega) (by omega)) (h3.up (by omega))

end
end K03

namespace K03
open PySem PySem.Spec PyProof.Rows L2 Cw

theorem word_call {a b k lim : Int} {rest : List Cell} {Φ : D → List Cell → Prop} (hB : B3 a b k lim) (hl : lim ≤ 80000)
    (h : ∀ t a' b' k', isLet t 8 = true → B3 a' b' k' (lim + 10) → Φ (.str t) (spr a' b' k' :: rest)) : callM S__law_word [.cell 0] (spr a b k :: rest) Φ :=
  ⟨spr a b k, rfl, rfl, rfl, a, b, k, lim, rfl, rfl, hB, hl, fun t a' b' k' h1 h2 => ⟨rfl, rfl, h t a' b' k' h1 h2⟩⟩
def S__law_words : Pm := fun c ds Φ => ∃ a b k lim m, c = [spr a b k] ∧ ds = [.cell 0, .int m] ∧ (1 ≤ m ∧ m ≤ 8) ∧ B3 a b k lim ∧ lim ≤ 3000 ∧
  ∀ (ws : List Str) a' b' k', (∀ w ∈ ws, isLet w 8 = true) → ws.Nodup → (ws.length : Int) ≤ m → ws ≠ [] → B3 a' b' k' (lim + 100) → Φ (.lst (ws.map .str)) [spr a' b' k']
theorem pys_txts : ∀ ws : List Str, D.pys (ws.map .str) = some (ws.map .str)
  | [] => rfl
  | w :: ws => by
    show (match D.py (.str w), D.pys (ws.map D.str) with | some p, some ps => some (p :: ps) | _, _ => none) = _
    rw [pys_txts ws]; rfl
theorem inF_strs (x : Str) (ys : List Str) : inF (.str x) (ys.map .str) = decide (x ∈ ys) := by
  unfold inF inV
  rw [List.map_map, List.any_map]
  show (ys.any fun y => y == x) = _
  rw [Bool.eq_iff_iff]
  simp [List.any_eq_true]
theorem let_cut {w : Str} {v : Int} (h : isLet w 8 = true) (h1 : 0 ≤ v) (h2 : v < w.length) : isLet (cutS w none (some (1 + v))) 8 = true := by
  unfold isLet at h
  obtain ⟨g1, g2⟩ := Bool.and_eq_true_iff.mp h
  have g1 := of_decide_eq_true g1
  obtain ⟨n, rfl⟩ : ∃ n : Nat, v = n := ⟨v.toNat, by omega⟩
  have e : cutS w none (some (1 + (n : Int))) = (⟨(w.cps.toList.take (n + 1)).toArray⟩ : Str) := by
    refine TL.ext_tl ?_
    show (w.cps.toList.drop (HT.sIx w.length 0 none)).take (HT.sIx w.length w.length (some (1 + (n : Int))) - HT.sIx w.length 0 none) = w.cps.toList.take (n + 1)
    rw [show (1 : Int) + (n : Int) = ((n + 1 : Nat) : Int) by omega, HT.sIx_nat, HT.sIx_none, List.drop_zero, Nat.min_eq_left (by omega)]; rfl
  rw [e]
  have hl : w.cps.toList.length = w.length := Array.length_toList
  refine let_mk (List.all_eq_true.mpr fun k hk => List.all_eq_true.mp g2 k (List.mem_of_mem_take hk)) ?_ ?_
  · rw [List.length_take, hl]; omega
  · rw [List.length_take, hl]; omega
section
variable {P : Program} {w : World} {K : PySem.W.Frag} {mg : Str → Option Value} {base : Heap}
set_option maxHeartbeats 8000000 in
theorem ok__law_words (T : Tx K mg) : FnOk P w K mg base CX0 3 T.a__law_words T.d__law_words ["_law_spring_here", "_law_much"] (spD K 1 2 S__law_words) := by
  refine fnD T.F__law_words sc__law_words fun cdv A outer s H E hr => ⟨_, (psd_cons (psd_set (i := 2) sc__law_words.nd (pd_lstM pds_nil)) (psd_cons (psd_for PassesOwn.never rfl (pid_range1 (pd_v 1) T.n_range) (pgd_name (i := 3) sc__law_words.nd) (psd_cons (psd_set (i := 4) sc__law_words.nd (pd_callM (ok__law_word T) (hr.mono (by decide)) T.g__law_word T.F__law_word.kp T.b__law_word pass0 (pds_cons (pd_v 0) pds_nil))) (psd_cons (psd_if (PDw.pt (pdw_and (pdt_ne hr (pd_v 2) (pd_lst pds_nil)) (pdw_and1 (pdt_eq hr (pd_callM (ok__law_take T) (hr.mono (by decide)) T.g__law_take T.F__law_take.kp T.b__law_take pass0 (pds_cons (pd_v 0) (pds_cons pd_int pds_nil))) pd_int)))) (psd_one (psd_set (i := 4) sc__law_words.nd (pd_sl (pd_ix (pd_v 2) pd_int) po_no (po_so (pd_add pd_int (pd_callM (ok__law_take T) (hr.mono (by decide)) T.g__law_take T.F__law_take.kp T.b__law_take pass0 (pds_cons (pd_v 0) (pds_cons (pd_len (pd_ix (pd_v 2) pd_int) T.n_len) pds_nil)))))))) psd_nil) (psd_one (psd_if (pdt_nin hr (pd_v 4) (pd_v 2)) (psd_one (psd_expr (pd_append (pd_v 2) (pd_v 4)))) psd_nil))))) (psd_one (psd_ret (pd_v 2))))), ?_⟩
  rintro c ds Φ hc - ⟨a0, b0, k0, lim, m, rfl, rfl, hm, hB0, hl, hΦ⟩
  conv => whnf
  refine ⟨Nat.zero_le _, ?_⟩
  conv => whnf
  refine ⟨by omega, ?_⟩
  refine forD_inv (fun ds ρ c => ∃ (ws : List Str) (a b k : Int) (x3 x4 : Option D), ρ = [some (.cell 0), some (.int m), some (.cell 1), x3, x4] ∧ c = [spr a b k, .lst (ws.map .str)] ∧ (∀ w ∈ ws, isLet w 8 = true) ∧ ws.Nodup ∧ (ws.length : Int) + ds.length ≤ m ∧ (ws ≠ [] ∨ ds ≠ []) ∧ B3 a b k (lim + 12 * (m - ds.length))) ?_ ?_ _ _ _ ⟨[], a0, b0, k0, none, none, rfl, rfl, by simp, List.nodup_nil, by rw [rng_len]; simp; omega, .inr (fun z => by have := congrArg List.length z; rw [rng_len] at this; simp at this; omega), hB0.up (by rw [rng_len]; omega)⟩
  · rintro ρ c ⟨ws, a, b, k, x3, x4, rfl, rfl, h1, h2, h3, h4, h5⟩
    have hne := h4.resolve_right fun z => z rfl
    exact ⟨rfl, _, rfl, rfl, okDs_map (fun _ => rfl) ws, hΦ ws a b k h1 h2 (by simpa using h3) hne (h5.up (by simp; omega))⟩
  · rintro d ds ρ c F hF ⟨ws, a, b, k, x3, x4, rfl, rfl, h1, h2, h3, h4, h5⟩
    have h3 : (ws.length : Int) + ((ds.length + 1 : Nat) : Int) ≤ m := h3
    have h5 : B3 a b k (lim + 12 * (m - ((ds.length + 1 : Nat) : Int))) := h5
    conv => whnf
    refine ⟨rfl, ?_⟩
    refine word_call (rest := [.lst (ws.map .str)]) h5 (by omega) fun w a1 b1 k1 hw hB1 => ?_
    conv => whnf
    refine ⟨by decide, ?_⟩
    conv => whnf
    refine ⟨_, _, by show D.py (.lst (ws.map D.str)) = _; unfold D.py; rw [pys_txts]; rfl, rfl, ?_, by decide +kernel, ?_⟩
    · refine shaped_of (fun x hx => ?_) (fun x hx => Nat.zero_le _)
      exact tame_ok (let_tame (n := 8) (h1 x hx))
    cases ws with
    | nil =>
      conv => whnf
      refine .inl ⟨_, rfl, rfl, txt_flat _, ?_⟩
      rw [inF_strs]
      by_cases hmem : w ∈ ([] : List Str)
      · rw [decide_eq_true hmem]
        conv => whnf
        exact hF _ _ ⟨([] : List Str), a1, b1, k1, _, _, rfl, rfl, h1, h2, by omega, .inl (List.ne_nil_of_mem hmem), hB1.up (by omega)⟩
      · rw [decide_eq_false hmem]
        conv => whnf
        refine ⟨1, rfl, ⟨_, rfl⟩, ?_⟩
        conv => whnf
        have few : (([] : List Str)).length < 100 := by omega
        refine ⟨_, rfl, by rw [List.length_map]; exact Nat.lt_of_lt_of_le few (by decide), ?_⟩
        conv => whnf
        exact hF _ _ ⟨([] : List Str) ++ [w], a1, b1, k1, _, _, rfl, by rw [List.map_append]; rfl, fun z hz => (List.mem_append.mp hz).elim (h1 z) fun e => by rw [List.mem_singleton.mp e]; exact hw, List.nodup_append.mpr ⟨h2, by simp, fun x hx y hy e => by rw [List.mem_singleton.mp hy] at e; subst e; exact hmem hx⟩, by rw [List.length_append]; simp only [List.length_cons, List.length_nil] at h3 ⊢; omega, .inl (by simp), hB1.up (by omega)⟩
    | cons w0 r =>
      conv => whnf
      refine ⟨rfl, ?_⟩
      refine take_call (rest := [.lst ((w0 :: r).map .str)]) hB1 (by omega) (by decide) fun v a2 b2 k2 v1 v2 hB2 => ?_
      conv => whnf
      split
      · conv => whnf
        have hw0 := h1 w0 List.mem_cons_self
        have t0 := tame_len (let_tame (n := 8) hw0)
        have t1 : 1 ≤ w0.length := by
          have := of_decide_eq_true (Bool.and_eq_true_iff.mp (show (decide (1 ≤ (w0.length : Int) ∧ (w0.length : Int) ≤ 8) && w0.cps.toList.all lower) = true from hw0)).1
          omega
        rw [show L2.atI (List.map D.str (w0 :: r)) 0 = some (.str w0) from at_zero _ _]
        conv => whnf
        rw [show L2.atI (List.map D.str (w0 :: r)) 0 = some (.str w0) from at_zero _ _]
        conv => whnf
        refine ⟨short (by omega), ?_⟩
        conv => whnf
        refine ⟨rfl, ?_⟩
        refine take_call (rest := [.lst ((w0 :: r).map .str)]) hB2 (by omega) ⟨by omega, by omega⟩ fun u a3 b3 k3 u1 u2 hB3 => ?_
        conv => whnf
        refine ⟨short (by omega), ?_⟩
        have hcut := let_cut hw0 u1 u2
        generalize cutS w0 none (some (1 + u)) = w3 at hcut
        conv => whnf
        refine .inl ⟨_, rfl, rfl, txt_flat _, ?_⟩
        rw [inF_strs]
        by_cases hmem : w3 ∈ (w0 :: r)
        · rw [decide_eq_true hmem]
          conv => whnf
          exact hF _ _ ⟨(w0 :: r), a3, b3, k3, _, _, rfl, rfl, h1, h2, by omega, .inl (List.ne_nil_of_mem hmem), hB3.up (by omega)⟩
        · rw [decide_eq_false hmem]
          conv => whnf
          refine ⟨1, rfl, ⟨_, rfl⟩, ?_⟩
          conv => whnf
          have few : ((w0 :: r)).length < 100 := by omega
          refine ⟨_, rfl, by rw [List.length_map]; exact Nat.lt_of_lt_of_le few (by decide), ?_⟩
          conv => whnf
          exact hF _ _ ⟨(w0 :: r) ++ [w3], a3, b3, k3, _, _, rfl, by rw [List.map_append]; rfl, fun z hz => (List.mem_append.mp hz).elim (h1 z) fun e => by rw [List.mem_singleton.mp e]; exact hcut, List.nodup_append.mpr ⟨h2, by simp, fun x hx y hy e => by rw [List.mem_singleton.mp hy] at e; subst e; exact hmem hx⟩, by rw [List.length_append]; simp only [List.length_cons, List.length_nil] at h3 ⊢; omega, .inl (by simp), hB3.up (by omega)⟩
      · conv => whnf
        conv => whnf
        refine .inl ⟨_, rfl, rfl, txt_flat _, ?_⟩
        rw [inF_strs]
        by_cases hmem : w ∈ (w0 :: r)
        · rw [decide_eq_true hmem]
          conv => whnf
          exact hF _ _ ⟨(w0 :: r), a2, b2, k2, _, _, rfl, rfl, h1, h2, by omega, .inl (List.ne_nil_of_mem hmem), hB2.up (by omega)⟩
        · rw [decide_eq_false hmem]
          conv => whnf
          refine ⟨1, rfl, ⟨_, rfl⟩, ?_⟩
          conv => whnf
          have few : ((w0 :: r)).length < 100 := by omega
          refine ⟨_, rfl, by rw [List.length_map]; exact Nat.lt_of_lt_of_le few (by decide), ?_⟩
          conv => whnf
          exact hF _ _ ⟨(w0 :: r) ++ [w], a2, b2, k2, _, _, rfl, by rw [List.map_append]; rfl, fun z hz => (List.mem_append.mp hz).elim (h1 z) fun e => by rw [List.mem_singleton.mp e]; exact hw, List.nodup_append.mpr ⟨h2, by simp, fun x hx y hy e => by rw [List.mem_singleton.mp hy] at e; subst e; exact hmem hx⟩, by rw [List.length_append]; simp only [List.length_cons, List.length_nil] at h3 ⊢; omega, .inl (by simp), hB2.up (by omega)⟩

end
end K03

namespace K03
open PySem PySem.Spec PyProof.Rows L2 Cw

def S__law_state : Pm := fun c ds Φ => ∃ a b k lim n, c = [spr a b k] ∧ ds = [.cell 0, .int n] ∧ (1 ≤ n ∧ n ≤ 5) ∧ B3 a b k lim ∧ lim ≤ 90000 ∧ ∀ (i : Nat) (d : Bool) a' b' k', (i : Int) < n → B3 a' b' k' (lim + 2) → Φ (.str (stS i d)) [spr a' b' k']
def S__law_piece : Pm := fun c ds Φ => ∃ a b k lim n t, c = [spr a b k] ∧ ds = [.cell 0, .str t, .int n] ∧ (1 ≤ n ∧ n ≤ 5) ∧ isLet t 8 = true ∧ B3 a b k lim ∧ lim ≤ 3900 ∧ ∀ (p : Part) a' b' k', p.ok n.toNat → p.t = t → B3 a' b' k' (lim + 6) → Φ p.d' [spr a' b' k']
def S__law_joint : Pm := fun c ds Φ => ∃ a b k lim n t, c = [spr a b k] ∧ ds = [.cell 0, .str t, .int n] ∧ (1 ≤ n ∧ n ≤ 5) ∧ isLet t 8 = true ∧ B3 a b k lim ∧ lim ≤ 3900 ∧ ∀ (p : Joint) a' b' k', p.ok n.toNat → p.t = t → B3 a' b' k' (lim + 6) → Φ p.d' [spr a' b' k']
theorem state_call {a b k lim n : Int} {rest : List Cell} {Φ : D → List Cell → Prop} (hB : B3 a b k lim) (hl : lim ≤ 90000) (hn : 1 ≤ n ∧ n ≤ 5)
    (h : ∀ (i : Nat) (d : Bool) a' b' k', (i : Int) < n → B3 a' b' k' (lim + 2) → Φ (.str (stS i d)) (spr a' b' k' :: rest)) : callM S__law_state [.cell 0, .int n] (spr a b k :: rest) Φ :=
  ⟨spr a b k, rfl, rfl, rfl, a, b, k, lim, n, rfl, rfl, hn, hB, hl, fun i d a' b' k' h1 h2 => ⟨rfl, rfl, h i d a' b' k' h1 h2⟩⟩
section
variable {P : Program} {w : World} {K : PySem.W.Frag} {mg : Str → Option Value} {base : Heap}
set_option maxHeartbeats 8000000 in
theorem ok__law_state (T : Tx K mg) : FnOk P w K mg base CX0 2 T.a__law_state T.d__law_state ["_law_spring_here", "_law_period"] (spD K 1 2 S__law_state) := by
  refine fnD T.F__law_state sc__law_state fun cdv A outer s H E hr => ⟨_, (psd_one (psd_ret (pd_add (pd_strc (pd_callM (ok__law_take T) (hr.mono (by decide)) T.g__law_take T.F__law_take.kp T.b__law_take pass0 (pds_cons (pd_v 0) (pds_cons (pd_v 1) pds_nil))) T.n_str) (pd_ix pd_str (pd_callM (ok__law_take T) (hr.mono (by decide)) T.g__law_take T.F__law_take.kp T.b__law_take pass0 (pds_cons (pd_v 0) (pds_cons pd_int pds_nil))))))), ?_⟩
  rintro c ds Φ hc - ⟨a, b, k, lim, n, rfl, rfl, hn, hB, hl, hΦ⟩
  conv => whnf
  refine ⟨rfl, ?_⟩
  refine take_call (rest := []) hB (by omega) ⟨by omega, by omega⟩ fun v a1 b1 k1 v1 v2 hB1 => ?_
  obtain ⟨i, rfl⟩ : ∃ i : Nat, v = i := ⟨v.toNat, by omega⟩
  conv => whnf
  refine ⟨?_, ?_⟩
  · have : (i : Int).natAbs < 16 := by omega
    have : (i : Int).natAbs.log2 < 4 := by
      by_cases h0 : (i : Int).natAbs = 0
      · rw [h0]; decide
      · exact (Nat.log2_lt h0).mpr (by omega)
    omega
  conv => whnf
  refine ⟨rfl, ?_⟩
  refine take_call (rest := []) hB1 (by omega) (by decide) fun u a2 b2 k2 u1 u2 hB2 => ?_
  have hi : (toString (i : Int) : Str).length ≤ 1 := tame_len (dig_tame (by omega))
  have hu : u = 0 ∨ u = 1 := by omega
  rcases hu with rfl | rfl
  · conv => whnf
    refine ⟨short (by decide), ?_⟩
    conv => whnf
    refine ⟨short (by show _ + 1 ≤ _; omega), ?_⟩
    conv => whnf
    exact hΦ i false _ _ _ v2 (hB2.up (by omega))
  · conv => whnf
    refine ⟨short (by decide), ?_⟩
    conv => whnf
    refine ⟨short (by show _ + 1 ≤ _; omega), ?_⟩
    conv => whnf
    exact hΦ i true _ _ _ v2 (hB2.up (by omega))
set_option maxHeartbeats 8000000 in
theorem ok__law_piece (T : Tx K mg) : FnOk P w K mg base CX0 3 T.a__law_piece T.d__law_piece ["_law_spring_here", "_law_title", "_law_period"] (spD K 1 3 S__law_piece) := by
  refine fnD T.F__law_piece sc__law_piece fun cdv A outer s H E hr => ⟨_, (psd_cons (psd_par (i := 3) (j := 4) rfl sc__law_piece.nd (pd_callM (ok__law_state T) (hr.mono (by decide)) T.g__law_state T.F__law_state.kp T.b__law_state pass0 (pds_cons (pd_v 0) (pds_cons (pd_v 2) pds_nil))) (pd_callM (ok__law_state T) (hr.mono (by decide)) T.g__law_state T.F__law_state.kp T.b__law_state pass0 (pds_cons (pd_v 0) (pds_cons (pd_v 2) pds_nil)))) (psd_one (psd_ret (pd_tup (pds_cons (pd_v 1) (pds_cons (pd_v 3) (pds_cons (pd_v 4) (pds_cons (pd_add pd_int (pd_callM (ok__law_take T) (hr.mono (by decide)) T.g__law_take T.F__law_take.kp T.b__law_take pass0 (pds_cons (pd_v 0) (pds_cons pd_int pds_nil)))) (pds_cons (pd_callM (ok__law_take T) (hr.mono (by decide)) T.g__law_take T.F__law_take.kp T.b__law_take pass0 (pds_cons (pd_v 0) (pds_cons pd_int pds_nil))) pds_nil))))))))), ?_⟩
  rintro c ds Φ hc - ⟨a, b, k, lim, n, t, rfl, rfl, hn, ht, hB, hl, hΦ⟩
  conv => whnf
  refine ⟨rfl, ?_⟩
  refine state_call (rest := []) hB (by omega) hn fun i d a1 b1 k1 i1 hB1 => ?_
  conv => whnf
  refine ⟨rfl, ?_⟩
  refine state_call (rest := []) hB1 (by omega) hn fun j e a2 b2 k2 j1 hB2 => ?_
  conv => whnf
  refine ⟨rfl, ?_⟩
  refine take_call (rest := []) hB2 (by omega) (by decide) fun v a3 b3 k3 v1 v2 hB3 => ?_
  conv => whnf
  refine ⟨rfl, ?_⟩
  refine take_call (rest := []) hB3 (by omega) (by decide) fun u a4 b4 k4 u1 u2 hB4 => ?_
  conv => whnf
  obtain ⟨v, rfl⟩ : ∃ i : Nat, v = i := ⟨v.toNat, by omega⟩
  obtain ⟨u, rfl⟩ : ∃ i : Nat, u = i := ⟨u.toNat, by omega⟩
  refine ⟨by show (5 : Nat) ≤ sizeLine; decide, ?_⟩
  conv => whnf
  have := hΦ ⟨t, i, d, j, e, 1 + v, u⟩ a4 b4 k4 ⟨ht, ⟨by show i < n.toNat; omega, by show j < n.toNat; omega⟩, ⟨by show 1 ≤ 1 + v; omega, by show 1 + v ≤ 6; omega⟩, by show u ≤ 9; omega⟩ rfl (hB4.up (by omega))
  rw [show Part.d' ⟨t, i, d, j, e, 1 + v, u⟩ = .tup [.str t, .str (stS i d), .str (stS j e), .int (1 + (v : Int)), .int u] from by unfold Part.d'; simp] at this
  exact this
set_option maxHeartbeats 8000000 in
theorem ok__law_joint (T : Tx K mg) : FnOk P w K mg base CX0 3 T.a__law_joint T.d__law_joint ["_law_spring_here", "_law_title", "_law_period"] (spD K 1 3 S__law_joint) := by
  refine fnD T.F__law_joint sc__law_joint fun cdv A outer s H E hr => ⟨_, (psd_cons (psd_set (i := 3) sc__law_joint.nd (pd_ix (pd_lst (pds_cons pd_str (pds_cons pd_str pds_nil))) (pd_callM (ok__law_take T) (hr.mono (by decide)) T.g__law_take T.F__law_take.kp T.b__law_take pass0 (pds_cons (pd_v 0) (pds_cons pd_int pds_nil))))) (psd_cons (psd_par (i := 4) (j := 5) rfl sc__law_joint.nd (pd_callM (ok__law_state T) (hr.mono (by decide)) T.g__law_state T.F__law_state.kp T.b__law_state pass0 (pds_cons (pd_v 0) (pds_cons (pd_v 2) pds_nil))) (pd_callM (ok__law_state T) (hr.mono (by decide)) T.g__law_state T.F__law_state.kp T.b__law_state pass0 (pds_cons (pd_v 0) (pds_cons (pd_v 2) pds_nil)))) (psd_one (psd_ret (pd_tup (pds_cons (pd_v 1) (pds_cons (pd_v 3) (pds_cons (pd_v 4) (pds_cons (pd_v 5) (pds_cons (pd_callM (ok__law_take T) (hr.mono (by decide)) T.g__law_take T.F__law_take.kp T.b__law_take pass0 (pds_cons (pd_v 0) (pds_cons pd_int pds_nil))) pds_nil)))))))))), ?_⟩
  rintro c ds Φ hc - ⟨a, b, k, lim, n, t, rfl, rfl, hn, ht, hB, hl, hΦ⟩
  conv => whnf
  refine ⟨by show (2 : Nat) ≤ sizeLine; decide, ?_⟩
  conv => whnf
  refine ⟨rfl, ?_⟩
  refine take_call (rest := []) hB (by omega) (by decide) fun v a0 b0 k0 v1 v2 hB0 => ?_
  have hv : v = 0 ∨ v = 1 := by omega
  rcases hv with rfl | rfl
  all_goals
    conv => whnf
    refine ⟨rfl, ?_⟩
    refine state_call (rest := []) hB0 (by omega) hn fun i d a1 b1 k1 i1 hB1 => ?_
    conv => whnf
    refine ⟨rfl, ?_⟩
    refine state_call (rest := []) hB1 (by omega) hn fun j e a2 b2 k2 j1 hB2 => ?_
    conv => whnf
    refine ⟨rfl, ?_⟩
    refine take_call (rest := []) hB2 (by omega) (by decide) fun u a4 b4 k4 u1 u2 hB4 => ?_
    conv => whnf
    obtain ⟨u, rfl⟩ : ∃ i : Nat, u = i := ⟨u.toNat, by omega⟩
    refine ⟨by show (5 : Nat) ≤ sizeLine; decide, ?_⟩
    conv => whnf
    first
      | exact hΦ ⟨t, true, i, d, j, e, u⟩ a4 b4 k4 ⟨ht, ⟨by show i < n.toNat; omega, by show j < n.toNat; omega⟩, by show u ≤ 9; omega⟩ rfl (hB4.up (by omega))
      | exact hΦ ⟨t, false, i, d, j, e, u⟩ a4 b4 k4 ⟨ht, ⟨by show i < n.toNat; omega, by show j < n.toNat; omega⟩, by show u ≤ 9; omega⟩ rfl (hB4.up (by omega))

end
end K03

namespace K03
open PySem PySem.Spec PyProof.Rows L2 Cw

theorem cut_to {α : Type} (xs : List α) (n : Nat) : Cw.cutD xs none (some (n : Int)) = xs.take n := by
  have e := cut_both xs 0 n
  rw [List.drop_zero] at e
  exact e
theorem at_mem {ys : List Str} {w : Int} (h : 0 ≤ w) (h2 : w < ys.length) : ∃ t, t ∈ ys ∧ L2.atI (ys.map D.str) w = some (.str t) := by
  obtain ⟨n, rfl⟩ : ∃ n : Nat, w = n := ⟨w.toNat, by omega⟩
  have hn : n < ys.length := by omega
  refine ⟨ys[n], List.getElem_mem hn, ?_⟩
  unfold L2.atI L2.ixN
  rw [if_pos (by omega), if_pos (by rw [List.length_map]; omega)]
  show (ys.map D.str)[(n : Int).toNat]? = _
  rw [Int.toNat_natCast, List.getElem?_map, List.getElem?_eq_getElem hn]; rfl
theorem eqvAll_self : ∀ ps : List PyData, (∀ p ∈ ps, PyData.eqv p p = true) → PyData.eqvAll ps ps = true
  | [], _ => rfl
  | p :: ps, h => by
    show (PyData.eqv p p && PyData.eqvAll ps ps) = true
    rw [h p List.mem_cons_self, eqvAll_self ps fun q hq => h q (List.mem_cons_of_mem _ hq)]; rfl
theorem joint_eqv {p q : Joint} (h : p.k = q.k) : PyData.eqv p.py q.py = true := by
  unfold Joint.k at h
  injection h with e1 h
  injection h with e2 h
  injection h with e3 h
  injection h with e4 h
  injection h with e5 _
  injection e1 with e1
  injection e2 with e2
  injection e3 with e3
  injection e4 with e4
  injection e5 with e5
  have : p.py = q.py := by unfold Joint.py; rw [e1, e2, e3, e4, e5]
  rw [this]
  refine eqvAll_self _ fun x hx => ?_
  simp only [List.mem_cons, List.not_mem_nil, or_false] at hx
  rcases hx with rfl | rfl | rfl | rfl | rfl
  · show (_ == _) = true; simp
  · show (_ == _) = true; simp
  · show (_ == _) = true; simp
  · show (_ == _) = true; simp
  · show (_ == _) = true; simp
def S__law_spec : Pm := fun c ds Φ => ∃ a b k lim, c = [spr a b k] ∧ ds = [.cell 0] ∧ B3 a b k lim ∧ lim ≤ 2500 ∧ ∀ (s : Sp) a' b' k', s.ok → B3 a' b' k' (lim + 400) → Φ s.d [spr a' b' k']
theorem words_call {a b k lim m : Int} {rest : List Cell} {Φ : D → List Cell → Prop} (hB : B3 a b k lim) (hl : lim ≤ 3000) (hm : 1 ≤ m ∧ m ≤ 8)
    (h : ∀ (ws : List Str) a' b' k', (∀ w ∈ ws, isLet w 8 = true) → ws.Nodup → (ws.length : Int) ≤ m → ws ≠ [] → B3 a' b' k' (lim + 100) → Φ (.lst (ws.map .str)) (spr a' b' k' :: rest)) : callM S__law_words [.cell 0, .int m] (spr a b k :: rest) Φ :=
  ⟨spr a b k, rfl, rfl, rfl, a, b, k, lim, m, rfl, rfl, hm, hB, hl, fun ws a' b' k' h1 h2 h3 h4 h5 => ⟨rfl, by show okDs 0 (ws.map D.str) = true; exact okDs_map (fun _ => rfl) ws, h ws a' b' k' h1 h2 h3 h4 h5⟩⟩
theorem piece_call {a b k lim n : Int} {t : Str} {rest : List Cell} {Φ : D → List Cell → Prop} (hB : B3 a b k lim) (hl : lim ≤ 3900) (hn : 1 ≤ n ∧ n ≤ 5) (ht : isLet t 8 = true)
    (h : ∀ (p : Part) a' b' k', p.ok n.toNat → p.t = t → B3 a' b' k' (lim + 6) → Φ p.d' (spr a' b' k' :: rest)) : callM S__law_piece [.cell 0, .str t, .int n] (spr a b k :: rest) Φ :=
  ⟨spr a b k, rfl, rfl, rfl, a, b, k, lim, n, t, rfl, rfl, hn, ht, hB, hl, fun p a' b' k' h1 h2 h3 => ⟨rfl, rfl, h p a' b' k' h1 h2 h3⟩⟩
theorem joint_call {a b k lim n : Int} {t : Str} {rest : List Cell} {Φ : D → List Cell → Prop} (hB : B3 a b k lim) (hl : lim ≤ 3900) (hn : 1 ≤ n ∧ n ≤ 5) (ht : isLet t 8 = true)
    (h : ∀ (p : Joint) a' b' k', p.ok n.toNat → p.t = t → B3 a' b' k' (lim + 6) → Φ p.d' (spr a' b' k' :: rest)) : callM S__law_joint [.cell 0, .str t, .int n] (spr a b k :: rest) Φ :=
  ⟨spr a b k, rfl, rfl, rfl, a, b, k, lim, n, t, rfl, rfl, hn, ht, hB, hl, fun p a' b' k' h1 h2 h3 => ⟨rfl, rfl, h p a' b' k' h1 h2 h3⟩⟩
section
variable {P : Program} {w : World} {K : PySem.W.Frag} {mg : Str → Option Value} {base : Heap}
set_option maxHeartbeats 8000000 in
theorem ok__law_spec (T : Tx K mg) : FnOk P w K mg base CX0 4 T.a__law_spec T.d__law_spec ["_law_spring_here"] (spD K 1 1 S__law_spec) := by
  refine fnD T.F__law_spec sc__law_spec fun cdv A outer s H E hr => ⟨_, (psd_cons (psd_asg (pd_tup (pds_cons pd_str (pds_cons (pd_add pd_int (pd_callM (ok__law_take T) (hr.mono (by decide)) T.g__law_take T.F__law_take.kp T.b__law_take pass0 (pds_cons (pd_v 0) (pds_cons pd_int pds_nil)))) pds_nil))) (pgd_tup rfl (pgds_cons (pgd_name (i := 1) sc__law_spec.nd) (pgds_cons (pgd_name (i := 2) sc__law_spec.nd) pgds_nil)))) (psd_cons (psd_set (i := 3) sc__law_spec.nd (pd_ix (pd_lst (pds_cons pd_int (pds_cons pd_int pds_nil))) (pd_callM (ok__law_take T) (hr.mono (by decide)) T.g__law_take T.F__law_take.kp T.b__law_take pass0 (pds_cons (pd_v 0) (pds_cons pd_int pds_nil))))) (psd_cons (psd_set (i := 4) sc__law_spec.nd (pd_join pd_str (pd_lc (i := 8) rfl sc__law_spec.nd (pid_range1 (pd_v 2) T.n_range) (by kernel_rfl) (fun _ _ _ _ _ => pg_name (i := 8) sc__law_spec.nd rfl (Or.inl rfl)) (fun _ _ _ _ _ => ptd_nil) (fun _ _ _ _ _ => (pd_ix (pd_v 1) (pd_callM (ok__law_take T) (hr.mono (by decide)) T.g__law_take T.F__law_take.kp T.b__law_take pass0 (pds_cons (pd_v 0) (pds_cons (pd_v 3) pds_nil)))))))) (psd_cons (psd_setLc (j := 5) (i := 10) rfl sc__law_spec.nd rfl rfl (sw_true rfl rfl rfl (by kernel_rfl)) (pid_list (pd_sl (pd_callM (ok__law_words T) (hr.mono (by decide)) T.g__law_words T.F__law_words.kp T.b__law_words pass0 (pds_cons (pd_v 0) (pds_cons pd_int pds_nil))) po_no (po_so (pd_callM (ok__law_take T) (hr.mono (by decide)) T.g__law_take T.F__law_take.kp T.b__law_take pass0 (pds_cons (pd_v 0) (pds_cons pd_int pds_nil)))))) (by kernel_rfl) (fun _ _ _ _ _ => pg_name (i := 10) sc__law_spec.nd rfl (Or.inl rfl)) (fun _ _ _ _ _ => ptd_nil) (fun _ _ _ _ _ => (pd_callM (ok__law_piece T) (hr.mono (by decide)) T.g__law_piece T.F__law_piece.kp T.b__law_piece pass0 (pds_cons (pd_v 0) (pds_cons (pd_v 10) (pds_cons (pd_v 2) pds_nil)))))) (psd_cons (psd_par (i := 6) (j := 7) rfl sc__law_spec.nd (pd_callM (ok__law_words T) (hr.mono (by decide)) T.g__law_words T.F__law_words.kp T.b__law_words pass0 (pds_cons (pd_v 0) (pds_cons pd_int pds_nil))) (pd_lstM pds_nil)) (psd_cons (psd_for PassesOwn.never rfl (pid_range1 (pd_callM (ok__law_take T) (hr.mono (by decide)) T.g__law_take T.F__law_take.kp T.b__law_take pass0 (pds_cons (pd_v 0) (pds_cons pd_int pds_nil))) T.n_range) (pgd_name (i := 8) sc__law_spec.nd) (psd_cons (psd_set (i := 9) sc__law_spec.nd (pd_callM (ok__law_joint T) (hr.mono (by decide)) T.g__law_joint T.F__law_joint.kp T.b__law_joint pass0 (pds_cons (pd_v 0) (pds_cons (pd_ix (pd_v 6) (pd_callM (ok__law_take T) (hr.mono (by decide)) T.g__law_take T.F__law_take.kp T.b__law_take pass0 (pds_cons (pd_v 0) (pds_cons (pd_len (pd_v 6) T.n_len) pds_nil)))) (pds_cons (pd_v 2) pds_nil))))) (psd_one (psd_if (pdt_nin hr (pd_v 9) (pd_v 7)) (psd_one (psd_expr (pd_append (pd_v 7) (pd_v 9)))) psd_nil)))) (psd_one (psd_ret (pd_tup (pds_cons (pd_v 4) (pds_cons (pd_tuplec (pd_v 5) T.n_tuple) (pds_cons (pd_tuplec (pd_v 7) T.n_tuple) pds_nil)))))))))))), ?_⟩
  rintro c ds Φ hc - ⟨a, b, k, lim, rfl, rfl, hB, hl, hΦ⟩
  conv => whnf
  refine ⟨rfl, ?_⟩
  refine take_call (rest := []) hB (by omega) (by decide) fun n a1 b1 k1 n1 n2 hB1 => ?_
  conv => whnf
  refine ⟨by show (2 : Nat) ≤ sizeLine; decide, ?_⟩
  conv => whnf
  refine ⟨rfl, ?_⟩
  refine ⟨rfl, ?_⟩
  conv => whnf
  refine ⟨by show (2 : Nat) ≤ sizeLine; decide, ?_⟩
  conv => whnf
  refine ⟨rfl, ?_⟩
  refine take_call (rest := []) hB1 (by omega) (by decide) fun r a2 b2 k2 r1 r2 hB2 => ?_
  have hr : ∃ m, (m = 2 ∨ m = 26) ∧ L2.atI ([.int 2, .int 26] : List D) r = some (.int m) := by
    have : r = 0 ∨ r = 1 := by omega
    rcases this with rfl | rfl
    · exact ⟨2, .inl rfl, rfl⟩
    · exact ⟨26, .inr rfl, rfl⟩
  obtain ⟨m, hm, em⟩ := hr
  conv => whnf
  rw [em]
  conv => whnf
  refine ⟨_, rfl, ?_⟩
  conv => whnf
  refine ⟨by omega, ?_⟩
  refine drawn (lim := lim + 1 + 1) (by omega) hB2 (fun d acc a b k lim Ψ hB hl h => ?_) (by omega) fun ks a3 b3 k3 h1 h2 hB3 => ?_
  · conv => whnf
    refine ⟨rfl, ?_⟩
    refine take_call (rest := [.lst acc]) hB (by omega) (by omega) fun v a' b' k' v1 v2 hB' => ?_
    obtain ⟨q, e1, e2⟩ := at_small (v := v) ⟨v1, by omega⟩
    conv => whnf
    refine ⟨by show (26 : Nat) ≤ _; decide, ?_⟩
    rw [e1]
    exact h q a' b' k' e2 hB'
  have hB3 : B3 a3 b3 k3 (lim + 7) := hB3.up (by omega)
  have hM := let_mk (n := 5) h1 (by omega) (by omega)
  have lM : (⟨ks.toArray⟩ : Str).length = (1 + n).toNat := by rw [← h2]; show ks.toArray.size = _; simp
  conv => whnf
  refine ⟨ks.map one, txts_of_ones ks, by rw [show ("" : Str).length = 0 by decide, sum_ones]; omega, ?_⟩
  rw [join_ones]
  generalize (⟨ks.toArray⟩ : Str) = M at hM lM
  conv => whnf
  refine ⟨rfl, ?_⟩
  refine words_call (rest := []) hB3 (by omega) (by decide) fun ws a4 b4 k4 w1 w2 w3 w4 hB4 => ?_
  conv => whnf
  refine ⟨rfl, ?_⟩
  refine take_call (rest := []) hB4 (by omega) (by decide) fun v a5 b5 k5 v1 v2 hB5 => ?_
  conv => whnf
  have hT : Cw.cutD (ws.map D.str) none (some v) = (ws.take v.toNat).map .str := by
    have e := cut_to (ws.map D.str) v.toNat
    rw [show ((v.toNat : Nat) : Int) = v by omega, ← List.map_take] at e
    exact e
  rw [hT]
  have tW : ∀ t ∈ ws.take v.toNat, isLet t 8 = true := fun t ht => w1 t (List.mem_of_mem_take ht)
  have tN : (ws.take v.toNat).Nodup := w2.sublist (List.take_sublist _ _)
  have tL : (ws.take v.toNat).length ≤ 8 := by rw [List.length_take]; omega
  generalize ws.take v.toNat = T' at tW tN tL
  refine lc_inv (fun rest acc c => ∃ (ts : List Str) (ps : List Part) (a b k : Int), rest = ts.map .str ∧ acc = ps.map Part.d' ∧ c = [spr a b k] ∧ ps.map (·.t) ++ ts = T' ∧ (∀ p ∈ ps, p.ok M.length) ∧ B3 a b k (lim + 108 + 6 * ps.length)) ?_ ?_ _ _ _ ⟨T', [], a5, b5, k5, rfl, rfl, rfl, rfl, by simp, hB5.up (by simp; omega)⟩
  case refine_2 =>
    rintro d ds acc c F hF ⟨ts, ps, a, b, k, e1, rfl, rfl, e2, ok1, hB⟩
    cases ts with
    | nil => cases e1
    | cons t ts =>
      cases e1
      have pl : ps.length + (ts.length + 1) ≤ 8 := by
        have := congrArg List.length e2
        rw [List.length_append, List.length_map] at this
        have h8 : (t :: ts).length = ts.length + 1 := rfl
        omega
      conv => whnf
      refine ⟨rfl, ?_⟩
      refine piece_call (rest := [.lst (ps.map Part.d')]) hB (by omega) ⟨by omega, by omega⟩ (tW t (by rw [← e2]; simp)) fun p a' b' k' hp et hB' => ?_
      conv => whnf
      refine ⟨by rw [List.length_map]; exact Nat.lt_of_lt_of_le (show ps.length < 100 by omega) (by decide), rfl, ?_⟩
      exact hF _ _ ⟨ts, ps ++ [p], a', b', k', rfl, by simp, rfl, by rw [List.map_append, ← e2, List.append_assoc]; show _ ++ ([p.t] ++ ts) = _; rw [et]; rfl, fun q hq => (List.mem_append.mp hq).elim (ok1 q) fun e => by rw [List.mem_singleton.mp e, lM]; exact hp, hB'.up (by simp; omega)⟩
  rintro acc c ⟨ts, ps, a6, b6, k6, e1, rfl, rfl, e2, okp, hB6⟩
  have ets : ts = [] := List.map_eq_nil_iff.mp e1.symm
  subst ets
  rw [List.append_nil] at e2
  subst e2
  rw [List.length_map] at tL
  refine ⟨rfl, okDs_map (fun _ => rfl) ps, ?_⟩
  conv => whnf
  refine ⟨rfl, ?_⟩
  refine words_call (rest := []) (hB6.up (show _ ≤ lim + 160 by omega)) (by omega) (by decide) fun pool a7 b7 k7 q1 q2 q3 q4 hB7 => ?_
  conv => whnf
  refine ⟨Nat.zero_le _, ?_⟩
  conv => whnf
  refine ⟨rfl, ?_⟩
  refine take_call (rest := [.lst []]) hB7 (by omega) (by decide) fun u a8 b8 k8 u1 u2 hB8 => ?_
  conv => whnf
  refine ⟨by omega, ?_⟩
  have eN : (1 + n).toNat = M.length := lM.symm
  have hn5 : M.length ≤ 5 := by omega
  refine forD_inv (fun ds ρ c => ∃ (js : List Joint) (a b k : Int) (x8 x9 : Option D), ρ = [some (.cell 0), some (.str "abcdefghijklmnopqrstuvwxyz"), some (.int (1 + n)), some (.int m), some (.str M), some (.lst (ps.map Part.d')), some (.lst (pool.map .str)), some (.cell 1), x8, x9, none] ∧ c = [spr a b k, .lst (js.map Joint.d')] ∧ (∀ p ∈ js, p.ok M.length) ∧ (∀ p ∈ js, p.t ∈ pool) ∧ (js.map Joint.k).Nodup ∧ js.length + ds.length ≤ 12 ∧ B3 a b k (lim + 261 + 7 * (12 - ds.length))) ?_ ?_ _ _ _ ⟨[], a8, b8, k8, none, none, rfl, rfl, by simp, by simp, List.nodup_nil, by rw [rng_len]; simp; omega, hB8.up (by rw [rng_len]; omega)⟩
  · rintro ρ c ⟨js, a, b, k, x8, x9, rfl, rfl, o1, o2, o3, o4, hB9⟩
    conv => whnf
    refine ⟨by show (3 : Nat) ≤ sizeLine; decide, ?_⟩
    conv => whnf
    refine ⟨rfl, ?_, ?_⟩
    · show (true && (okDs 1 (ps.map Part.d') && (okDs 1 (js.map Joint.d') && true))) = true
      rw [okDs_map (fun _ => rfl), okDs_map (fun _ => rfl)]; rfl
    · exact hΦ ⟨M, ps, js⟩ a b k ⟨hM, okp, tL, tN, o1, by simpa using o4, o3, pool, by omega, o2⟩ (hB9.up (by simp; omega))
  · rintro d ds ρ c F hF ⟨js, a, b, k, x8, x9, rfl, rfl, o1, o2, o3, o4, hB9⟩
    have o4 : js.length + (ds.length + 1) ≤ 12 := o4
    have hB9 : B3 a b k (lim + 261 + 7 * (12 - ((ds.length + 1 : Nat) : Int))) := hB9
    conv => whnf
    refine ⟨rfl, ?_⟩
    refine take_call (rest := [.lst (js.map Joint.d')]) hB9 (by omega) ⟨by rw [List.length_map]; have := List.length_pos_iff.mpr q4; omega, by rw [List.length_map]; omega⟩ fun w a10 b10 k10 z1 z2 hB10 => ?_
    obtain ⟨t, tm, et⟩ := at_mem z1 (by rw [List.length_map] at z2; exact z2)
    conv => whnf
    rw [et]
    conv => whnf
    refine ⟨rfl, ?_⟩
    refine joint_call (rest := [.lst (js.map Joint.d')]) hB10 (by omega) ⟨by omega, by omega⟩ (q1 t tm) fun p a11 b11 k11 hp ep hB11 => ?_
    conv => whnf
    refine .inr ⟨p.py, _, _, rfl, rfl, pys_of d_joint js, ?_, shaped_of (fun x hx => Joint.lay (o1 x hx) hn5) (fun x _ => Nat.le_refl _), ?_⟩
    · show (p.py.canLay0 && decide (1 ≤ 64)) = true
      rw [Joint.lay hp (by omega)]; rfl
    have hp : p.ok M.length := by rw [← eN]; exact hp
    cases hany : (js.map Joint.py).any fun z => PyData.eqv z p.py with
    | true =>
      conv => whnf
      exact hF _ _ ⟨js, a11, b11, k11, _, _, rfl, rfl, o1, o2, o3, by omega, hB11.up (by omega)⟩
    | false =>
      conv => whnf
      refine ⟨1, rfl, ⟨_, rfl⟩, ?_⟩
      conv => whnf
      refine ⟨_, rfl, by rw [List.length_map]; exact Nat.lt_of_lt_of_le (show js.length < 100 by omega) (by decide), ?_⟩
      conv => whnf
      have new : ∀ q ∈ js, q.k ≠ p.k := fun q hq e => by
        have z := List.any_eq_false.mp hany q.py (List.mem_map_of_mem hq)
        exact z (joint_eqv e)
      exact hF _ _ ⟨js ++ [p], a11, b11, k11, _, _, rfl, by rw [List.map_append]; rfl, fun q hq => (List.mem_append.mp hq).elim (o1 q) fun e => by rw [List.mem_singleton.mp e]; exact hp, fun q hq => (List.mem_append.mp hq).elim (o2 q) fun e => by rw [List.mem_singleton.mp e, ep]; exact tm, by
        rw [List.map_append]
        refine List.nodup_append.mpr ⟨o3, by simp, fun x hx y hy e => ?_⟩
        obtain ⟨q, hq, rfl⟩ := List.mem_map.mp hx
        rw [List.map_cons, List.map_nil, List.mem_singleton] at hy
        subst hy
        exact new q hq e, by rw [List.length_append]; simp only [List.length_cons, List.length_nil]; omega, hB11.up (by omega)⟩

end
end K03

namespace K03
open PySem PySem.Spec PyProof.Rows L2 Cw

def S__law_piece_row : Pm := fun c ds Φ => ∃ p n, ds = [Part.d' p] ∧ n ≤ 5 ∧ p.ok n ∧ Φ (.str p.row) c
def S__law_joint_row : Pm := fun c ds Φ => ∃ p n, ds = [Joint.d' p] ∧ n ≤ 5 ∧ p.ok n ∧ Φ (.str p.row) c
def S__law_rows : Pm := fun c ds Φ => ∃ s : Sp, ds = [s.d] ∧ s.ok ∧ Φ (.lst (s.lines.map .str)) c
def S__law_joined : Pm := fun c ds Φ => ∃ s : Sp, ds = [s.d] ∧ s.ok ∧ Φ (.str s.text) c
def S__law_states : Pm := fun c ds Φ => ∃ s : Sp, ds = [s.d] ∧ s.ok ∧ Φ (.lst ((stL s.m.length).map .str)) c
def tits (s : Sp) (zs : List Str) : Prop := zs.Nodup ∧ sortedS zs = true ∧ ∀ x, x ∈ zs ↔ x ∈ s.js.map (·.t)
def dueD (s : Sp) (zs : List Str) : D := .lst [.str s.text, .str s.m, stD s.m.length, .tup (s.ps.map Part.d'), .tup (s.js.map Joint.d'), .tup (zs.map .str), .str s.text]
def S__law_due : Pm := fun c ds Φ => ∃ s : Sp, ds = [s.d] ∧ s.ok ∧ ∀ zs, tits s zs → Φ (dueD s zs) c
def bD (C : Addr) (s : Sp) (zs : List Str) : D := bordD C (.str s.text) (.str s.m) (.tup (s.ps.map Part.d')) (.tup (s.js.map Joint.d')) (stD s.m.length) (.tup (zs.map .str))
def S__law_seen (C : Addr) : Pm := fun c ds Φ => ∃ (s : Sp) (zs : List Str), ds = [bD C s zs] ∧ Φ (dueD s zs) c
theorem txts_of' : ∀ ws : List Str, Cw.txts (ws.map D.str) = some ws
  | [] => rfl
  | w :: ws => by
    show (Cw.txts (ws.map D.str)).map (w :: ·) = _
    rw [txts_of' ws]; rfl
theorem dig_small {n : Nat} (h : n < 10) : ((n : Int)).natAbs.log2 < 1920 := by
  have : (n : Int).natAbs < 16 := by omega
  have : (n : Int).natAbs.log2 < 4 := by
    by_cases h0 : (n : Int).natAbs = 0
    · rw [h0]; decide
    · exact (Nat.log2_lt h0).mpr (by omega)
  omega
theorem signs_row (m : Str) : signL m = "signs " ++ m := by
  refine TL.ext_tl ?_
  unfold signL
  rw [TL.join_eq, TL.tl_join, TL.tl_append, show TL.tl ("signs " : Str) = TL.tl ("signs" : Str) ++ TL.tl (" " : Str) by decide +kernel, List.append_assoc]
  rfl
theorem b_ok (C : Addr) (s : Sp) (zs : List Str) : okDs 0 [bD C s zs] = true := by
  show ((true && (true && (okDs 0 (s.ps.map Part.d') && (okDs 0 (s.js.map Joint.d') && (okDs 0 ((stL s.m.length).map D.str) && (okDs 0 (zs.map D.str) && true)))))) && true) = true
  rw [okDs_map (fun _ => rfl), okDs_map (fun _ => rfl), okDs_map (fun _ => rfl), okDs_map (fun _ => rfl)]; rfl
theorem sp_ok (s : Sp) : okDs 0 [s.d] = true := by
  show (true && (okDs 0 (s.ps.map Part.d') && (okDs 0 (s.js.map Joint.d') && true)) && true) = true
  rw [okDs_map (fun _ => rfl), okDs_map (fun _ => rfl)]; rfl
section
variable {P : Program} {w : World} {K : PySem.W.Frag} {mg : Str → Option Value} {base : Heap}
set_option maxHeartbeats 8000000 in
theorem ok__law_piece_row (T : Tx K mg) : FnOk P w K mg base CX0 1 T.a__law_piece_row T.d__law_piece_row ["_law_part"] (spD K 0 1 S__law_piece_row) := by
  refine fnD T.F__law_piece_row sc__law_piece_row fun cdv A outer s H E hr => ⟨_, (psd_cons (psd_asg (pd_v 0) (pgd_tup rfl (pgds_cons (pgd_name (i := 1) sc__law_piece_row.nd) (pgds_cons (pgd_name (i := 2) sc__law_piece_row.nd) (pgds_cons (pgd_name (i := 3) sc__law_piece_row.nd) (pgds_cons (pgd_name (i := 4) sc__law_piece_row.nd) (pgds_cons (pgd_name (i := 5) sc__law_piece_row.nd) pgds_nil))))))) (psd_one (psd_ret (pd_join pd_str (pd_lst (pds_cons pd_str (pds_cons (pd_v 1) (pds_cons (pd_v 2) (pds_cons (pd_v 3) (pds_cons pd_str (pds_cons (pd_strc (pd_v 4) T.n_str) (pds_cons pd_str (pds_cons (pd_strc (pd_v 5) T.n_str) pds_nil))))))))))))), ?_⟩
  rintro c ds Φ hc - ⟨p, n, rfl, hn, hp, hΦ⟩
  cases c with
  | cons _ _ => cases hc
  | nil =>
  conv => whnf
  refine ⟨rfl, ?_⟩
  conv => whnf
  refine ⟨rfl, ?_⟩
  conv => whnf
  refine ⟨_, rfl, ?_⟩
  conv => whnf
  have h6 := hp.2.2.1.2
  have h9 := hp.2.2.2
  refine ⟨dig_small (by omega), ?_⟩
  conv => whnf
  refine ⟨dig_small (by omega), ?_⟩
  conv => whnf
  refine ⟨by show (8 : Nat) ≤ sizeLine; decide, ?_⟩
  conv => whnf
  have tm := Part.tames hp hn
  refine ⟨p.ws, txts_of' p.ws, ?_, hΦ⟩
  have := sum_le (k := 8) (fun x hx => tame_len (tm x hx))
  have l8 : p.ws.length = 8 := rfl
  have l1 : (" " : Str).length = 1 := by decide
  rw [l1]; omega
set_option maxHeartbeats 8000000 in
theorem ok__law_joint_row (T : Tx K mg) : FnOk P w K mg base CX0 1 T.a__law_joint_row T.d__law_joint_row ["_law_joint_here"] (spD K 0 1 S__law_joint_row) := by
  refine fnD T.F__law_joint_row sc__law_joint_row fun cdv A outer s H E hr => ⟨_, (psd_cons (psd_asg (pd_v 0) (pgd_tup rfl (pgds_cons (pgd_name (i := 1) sc__law_joint_row.nd) (pgds_cons (pgd_name (i := 2) sc__law_joint_row.nd) (pgds_cons (pgd_name (i := 3) sc__law_joint_row.nd) (pgds_cons (pgd_name (i := 4) sc__law_joint_row.nd) (pgds_cons (pgd_name (i := 5) sc__law_joint_row.nd) pgds_nil))))))) (psd_one (psd_ret (pd_join pd_str (pd_lst (pds_cons pd_str (pds_cons (pd_v 1) (pds_cons (pd_v 2) (pds_cons (pd_v 3) (pds_cons (pd_v 4) (pds_cons pd_str (pds_cons (pd_strc (pd_v 5) T.n_str) pds_nil)))))))))))), ?_⟩
  rintro c ds Φ hc - ⟨p, n, rfl, hn, hp, hΦ⟩
  cases c with
  | cons _ _ => cases hc
  | nil =>
  conv => whnf
  refine ⟨rfl, ?_⟩
  conv => whnf
  refine ⟨rfl, ?_⟩
  conv => whnf
  refine ⟨_, rfl, ?_⟩
  conv => whnf
  have h9 := hp.2.2
  refine ⟨dig_small (by omega), ?_⟩
  conv => whnf
  refine ⟨by show (7 : Nat) ≤ sizeLine; decide, ?_⟩
  conv => whnf
  have tm := Joint.tames hp hn
  refine ⟨p.ws, txts_of' p.ws, ?_, hΦ⟩
  have := sum_le (k := 8) (fun x hx => tame_len (tm x hx))
  have l8 : p.ws.length = 7 := rfl
  have l1 : (" " : Str).length = 1 := by decide
  rw [l1]; omega
set_option maxHeartbeats 8000000 in
theorem ok__law_rows (T : Tx K mg) : FnOk P w K mg base CX0 2 T.a__law_rows T.d__law_rows ["_law_spec_here"] (spD K 0 1 S__law_rows) := by
  refine fnD T.F__law_rows sc__law_rows fun cdv A outer s H E hr => ⟨_, (psd_cons (psd_set (i := 1) sc__law_rows.nd (pd_lst (pds_cons (pd_add pd_str (pd_ix (pd_v 0) pd_int)) pds_nil))) (psd_cons (psd_set (i := 1) sc__law_rows.nd (pd_add (pd_v 1) (pd_lc (i := 2) rfl sc__law_rows.nd (pid_tup (pd_ix (pd_v 0) pd_int)) (by kernel_rfl) (fun _ _ _ _ _ => pg_name (i := 2) sc__law_rows.nd rfl (Or.inl rfl)) (fun _ _ _ _ _ => ptd_nil) (fun _ _ _ _ _ => (pd_callP (ok__law_piece_row T) (hr.mono (by decide)) T.g__law_piece_row T.F__law_piece_row.kp T.b__law_piece_row pass0 (pds_cons (pd_v 2) pds_nil)))))) (psd_one (psd_ret (pd_add (pd_v 1) (pd_lc (i := 3) rfl sc__law_rows.nd (pid_tup (pd_ix (pd_v 0) pd_int)) (by kernel_rfl) (fun _ _ _ _ _ => pg_name (i := 3) sc__law_rows.nd rfl (Or.inl rfl)) (fun _ _ _ _ _ => ptd_nil) (fun _ _ _ _ _ => (pd_callP (ok__law_joint_row T) (hr.mono (by decide)) T.g__law_joint_row T.F__law_joint_row.kp T.b__law_joint_row pass0 (pds_cons (pd_v 3) pds_nil))))))))), ?_⟩
  rintro c ds Φ hc - ⟨s, rfl, hs, hΦ⟩
  cases c with
  | cons _ _ => cases hc
  | nil =>
  have hn : s.m.length ≤ 5 := tame_len (let_tame (n := 5) hs.m)
  have np := hs.np
  have nj := hs.nj
  conv => whnf
  refine ⟨short (by rw [show ("signs " : Str).length = 6 by decide]; omega), ?_⟩
  conv => whnf
  refine ⟨by show (1 : Nat) ≤ sizeLine; decide, ?_⟩
  conv => whnf
  refine lc_pair (c := []) Part.d' (fun p => .str p.row) rfl s.ps [] (fun p hp => ⟨rfl, fun acc Ψ _ h => ?_⟩) rfl (by show 0 + s.ps.length ≤ _; exact short (by omega)) ?_
  · conv => whnf
    exact ⟨rfl, rfl, p, s.m.length, rfl, hn, hs.ps p hp, h⟩
  conv => whnf
  refine ⟨short (by simp; omega), ?_⟩
  conv => whnf
  refine lc_pair (c := []) Joint.d' (fun p => .str p.row) rfl s.js [] (fun p hp => ⟨rfl, fun acc Ψ _ h => ?_⟩) rfl (by show 0 + s.js.length ≤ _; exact short (by omega)) ?_
  · conv => whnf
    exact ⟨rfl, rfl, p, s.m.length, rfl, hn, hs.js p hp, h⟩
  conv => whnf
  refine ⟨short (by simp; omega), ?_⟩
  have e : ([D.str ("signs " ++ s.m)] ++ ([] ++ s.ps.map fun p => D.str p.row)) ++ ([] ++ s.js.map fun p => D.str p.row) = s.lines.map .str := by
    unfold Sp.lines
    rw [signs_row, List.map_cons, List.map_append, List.map_map, List.map_map]
    simp
    rfl
  rw [← e] at hΦ
  exact hΦ
set_option maxHeartbeats 8000000 in
theorem ok__law_joined (T : Tx K mg) : FnOk P w K mg base CX0 3 T.a__law_joined T.d__law_joined ["_law_spec_here"] (spD K 0 1 S__law_joined) := by
  refine fnD T.F__law_joined sc__law_joined fun cdv A outer s H E hr => ⟨_, (psd_one (psd_ret (pd_join pd_str (pd_callP (ok__law_rows T) (hr.mono (by decide)) T.g__law_rows T.F__law_rows.kp T.b__law_rows pass0 (pds_cons (pd_v 0) pds_nil))))), ?_⟩
  rintro c ds Φ hc - ⟨s, rfl, hs, hΦ⟩
  cases c with
  | cons _ _ => cases hc
  | nil =>
  conv => whnf
  refine ⟨_, rfl, ?_⟩
  conv => whnf
  refine ⟨rfl, sp_ok s, s, rfl, hs, ?_⟩
  conv => whnf
  have h1 := (Sp.sums hs).1
  have h2 := (Sp.sums hs).2
  refine ⟨s.lines, txts_of' _, (by rw [show ("\n" : Str).length = 1 by decide]; omega), hΦ⟩
set_option maxHeartbeats 8000000 in
theorem ok__law_states (T : Tx K mg) : FnOk P w K mg base CX0 1 T.a__law_states T.d__law_states ["_law_spec_here"] (spD K 0 1 S__law_states) := by
  refine fnD T.F__law_states sc__law_states fun cdv A outer s H E hr => ⟨_, (psd_cons (psd_set (i := 1) sc__law_states.nd (pd_lst pds_nil)) (psd_cons (psd_for PassesOwn.never rfl (pid_range1 (pd_len (pd_ix (pd_v 0) pd_int) T.n_len) T.n_range) (pgd_name (i := 2) sc__law_states.nd) (psd_one (psd_set (i := 1) sc__law_states.nd (pd_add (pd_v 1) (pd_lst (pds_cons (pd_add (pd_strc (pd_v 2) T.n_str) pd_str) (pds_cons (pd_add (pd_strc (pd_v 2) T.n_str) pd_str) pds_nil))))))) (psd_one (psd_ret (pd_v 1))))), ?_⟩
  rintro c ds Φ hc - ⟨s, rfl, hs, hΦ⟩
  cases c with
  | cons _ _ => cases hc
  | nil =>
  have hn : s.m.length ≤ 5 := tame_len (let_tame (n := 5) hs.m)
  conv => whnf
  refine ⟨Nat.zero_le _, ?_⟩
  conv => whnf
  refine ⟨short (by omega), ?_⟩
  conv => whnf
  refine ⟨⟨by omega, by omega⟩, ?_⟩
  refine forD_inv (fun ds ρ c => ∃ (n r : Nat) (x : Option D), ρ = [some s.d, some (.lst ((stL n).map .str)), x] ∧ c = [] ∧ ds = ((List.range' n r).map fun (i : Nat) => D.int (0 + (i : Int))) ∧ n + r = s.m.length) ?_ ?_ _ _ _ ⟨0, s.m.length, none, rfl, rfl, by unfold rng; rw [Int.toNat_natCast, List.range_eq_range'], by omega⟩
  · rintro ρ c ⟨n, r, x, rfl, rfl, e, h⟩
    have e0 : r = 0 := by
      have := congrArg List.length e
      simpa using this.symm
    subst e0
    have : n = s.m.length := by omega
    subst this
    conv => whnf
    exact hΦ
  · rintro d ds ρ c F hF ⟨n, r, x, rfl, rfl, e, h⟩
    cases r with
    | zero => cases e
    | succ r =>
      rw [List.range'_succ, List.map_cons] at e
      cases e
      have e2 : (0 : Int) + (n : Int) = n := by omega
      have tl : (toString (n : Int) : Str).length ≤ 1 := tame_len (dig_tame (by omega))
      have sl : (stL n).length = 2 * n := by
        unfold stL
        have : ∀ l : List Nat, (l.flatMap fun i => [stS i false, stS i true]).length = 2 * l.length := fun l => by
          induction l with
          | nil => rfl
          | cons a l ih => rw [List.flatMap_cons, List.length_append, ih]; show 2 + _ = 2 * (l.length + 1); omega
        rw [this, List.length_range]
      rw [e2]
      conv => whnf
      refine ⟨dig_small (by omega), ?_⟩
      conv => whnf
      refine ⟨short (by rw [show ("<" : Str).length = 1 by decide]; omega), ?_⟩
      conv => whnf
      refine ⟨dig_small (by omega), ?_⟩
      conv => whnf
      refine ⟨short (by rw [show (">" : Str).length = 1 by decide]; omega), ?_⟩
      conv => whnf
      refine ⟨by show (2 : Nat) ≤ sizeLine; decide, ?_⟩
      conv => whnf
      refine ⟨short (by rw [List.length_map, sl]; show _ + 2 ≤ _; omega), ?_⟩
      exact hF _ _ ⟨n + 1, r, _, by
        have : stL (n + 1) = stL n ++ [stS n false, stS n true] := by unfold stL; rw [List.range_succ, List.flatMap_append]; rfl
        rw [this, List.map_append]; rfl, rfl, rfl, by omega⟩
set_option maxHeartbeats 8000000 in
theorem ok__law_due (T : Tx K mg) : FnOk P w K mg base CX0 4 T.a__law_due T.d__law_due ["_law_spec_here"] (spD K 0 1 S__law_due) := by
  refine fnD T.F__law_due sc__law_due fun cdv A outer s H E hr => ⟨_, (psd_cons (psd_set (i := 1) sc__law_due.nd (pd_tuplec (pd_sortL hr.units rfl (pd_lc (i := 3) rfl sc__law_due.nd (pid_tup (pd_ix (pd_v 0) pd_int)) (by kernel_rfl) (fun _ _ _ _ _ => pg_name (i := 3) sc__law_due.nd rfl (Or.inl rfl)) (fun _ _ _ _ _ => ptd_nil) (fun _ _ _ _ _ => (pd_ix (pd_v 3) pd_int))) T.n_sorted T.n_set) T.n_tuple)) (psd_cons (psd_set (i := 2) sc__law_due.nd (pd_callP (ok__law_joined T) (hr.mono (by decide)) T.g__law_joined T.F__law_joined.kp T.b__law_joined pass0 (pds_cons (pd_v 0) pds_nil))) (psd_one (psd_ret (pd_lst (pds_cons (pd_v 2) (pds_cons (pd_ix (pd_v 0) pd_int) (pds_cons (pd_tuplec (pd_callP (ok__law_states T) (hr.mono (by decide)) T.g__law_states T.F__law_states.kp T.b__law_states pass0 (pds_cons (pd_v 0) pds_nil)) T.n_tuple) (pds_cons (pd_ix (pd_v 0) pd_int) (pds_cons (pd_ix (pd_v 0) pd_int) (pds_cons (pd_v 1) (pds_cons (pd_v 2) pds_nil)))))))))))), ?_⟩
  rintro c ds Φ hc - ⟨s, rfl, hs, hΦ⟩
  cases c with
  | cons _ _ => cases hc
  | nil =>
  have nj := hs.nj
  conv => whnf
  refine lc_pair (c := []) Joint.d' (fun p => .str p.t) rfl s.js [] (fun p hp => ⟨rfl, fun acc Ψ _ h => ?_⟩) rfl (by show 0 + s.js.length ≤ _; exact short (by omega)) ?_
  · exact h
  conv => whnf
  refine ⟨s.js.map (·.t), by rw [List.map_map]; rfl, by rw [List.length_map]; omega, fun zs nd so mem => ?_⟩
  conv => whnf
  refine ⟨rfl, sp_ok s, s, rfl, hs, ?_⟩
  conv => whnf
  refine ⟨rfl, sp_ok s, s, rfl, hs, ?_⟩
  conv => whnf
  exact ⟨by show (7 : Nat) ≤ sizeLine; decide, hΦ zs ⟨nd, so, mem⟩⟩
set_option maxHeartbeats 8000000 in
theorem ok__law_seen (T : Tx K mg) : FnOk P w K mg base CX0 4 T.a__law_seen T.d__law_seen ["_law_mine"] (spD K 0 1 (S__law_seen T.C_Borders)) := by
  refine fnD T.F__law_seen sc__law_seen fun cdv A outer s H E hr => ⟨_, (psd_one (psd_ret (pd_lst (pds_cons (pd_prop T.cl_Borders T.P_Borders_text (ok_Borders_text T) (hr.mono (by decide)) T.b_Borders_text pass0 (pd_v 0)) (pds_cons (pd_prop T.cl_Borders T.P_Borders_signs (ok_Borders_signs T) (hr.mono (by decide)) T.b_Borders_signs pass0 (pd_v 0)) (pds_cons (pd_prop T.cl_Borders T.P_Borders_states (ok_Borders_states T) (hr.mono (by decide)) T.b_Borders_states pass0 (pd_v 0)) (pds_cons (pd_prop T.cl_Borders T.P_Borders_pieces (ok_Borders_pieces T) (hr.mono (by decide)) T.b_Borders_pieces pass0 (pd_v 0)) (pds_cons (pd_prop T.cl_Borders T.P_Borders_corners (ok_Borders_corners T) (hr.mono (by decide)) T.b_Borders_corners pass0 (pd_v 0)) (pds_cons (pd_prop T.cl_Borders T.P_Borders_names (ok_Borders_names T) (hr.mono (by decide)) T.b_Borders_names pass0 (pd_v 0)) (pds_cons (pd_strO (ok_Borders___str__ T) T.f_Borders___str__ T.k_Borders___str__ T.b_Borders___str__ pass0 (hr.mono (by decide)) (pd_v 0) T.n_str) pds_nil)))))))))), ?_⟩
  rintro c ds Φ hc - ⟨s, zs, rfl, hΦ⟩
  cases c with
  | cons _ _ => cases hc
  | nil =>
  conv => whnf
  refine ⟨⟨_, _, rfl⟩, b_ok T.C_Borders s zs, _, _, _, _, _, _, rfl, rfl, ?_⟩
  conv => whnf
  refine ⟨⟨_, _, rfl⟩, b_ok T.C_Borders s zs, _, _, _, _, _, _, rfl, rfl, ?_⟩
  conv => whnf
  refine ⟨⟨_, _, rfl⟩, b_ok T.C_Borders s zs, _, _, _, _, _, _, rfl, (by show okDs 0 (List.map _ _) = true; exact okDs_map (fun _ => rfl) _), ?_⟩
  conv => whnf
  refine ⟨⟨_, _, rfl⟩, b_ok T.C_Borders s zs, _, _, _, _, _, _, rfl, (by show okDs 0 (List.map _ _) = true; exact okDs_map (fun _ => rfl) _), ?_⟩
  conv => whnf
  refine ⟨⟨_, _, rfl⟩, b_ok T.C_Borders s zs, _, _, _, _, _, _, rfl, (by show okDs 0 (List.map _ _) = true; exact okDs_map (fun _ => rfl) _), ?_⟩
  conv => whnf
  refine ⟨⟨_, _, rfl⟩, b_ok T.C_Borders s zs, _, _, _, _, _, _, rfl, (by show okDs 0 (List.map _ _) = true; exact okDs_map (fun _ => rfl) _), ?_⟩
  conv => whnf
  refine ⟨⟨_, _, rfl⟩, b_ok T.C_Borders s zs, s.text, _, _, _, _, _, rfl, _, rfl, ?_⟩
  conv => whnf
  exact ⟨by show (7 : Nat) ≤ sizeLine; decide, hΦ⟩

end
end K03

namespace K03
open PySem PySem.Spec PyProof.Rows L2 Cw
theorem lt_tri : ∀ a b : List Nat, ltCps a b = false → ltCps b a = false → a = b
  | [], [], _, _ => rfl
  | [], _ :: _, h, _ => by cases h
  | _ :: _, [], _, h => by cases h
  | a :: r, b :: t, h1, h2 => by
    have h1 : (decide (a < b) || (a == b && ltCps r t)) = false := h1
    have h2 : (decide (b < a) || (b == a && ltCps t r)) = false := h2
    obtain ⟨x1, x2⟩ := Bool.or_eq_false_iff.mp h1
    obtain ⟨y1, y2⟩ := Bool.or_eq_false_iff.mp h2
    have x1 := of_decide_eq_false x1
    have y1 := of_decide_eq_false y1
    have e : a = b := by omega
    subst e
    rw [beq_self_eq_true, Bool.true_and] at x2 y2
    rw [lt_tri r t x2 y2]
theorem lt_tra : ∀ a b c : List Nat, ltCps b a = false → ltCps c b = false → ltCps c a = false
  | [], _, [], _, _ => rfl
  | [], _, _ :: _, _, _ => rfl
  | _ :: _, [], _, h, _ => by cases h
  | _ :: _, _ :: _, [], _, h => by cases h
  | a :: r, b :: t, c :: u, h1, h2 => by
    have h1 : (decide (b < a) || (b == a && ltCps t r)) = false := h1
    have h2 : (decide (c < b) || (c == b && ltCps u t)) = false := h2
    show (decide (c < a) || (c == a && ltCps u r)) = false
    obtain ⟨x1, x2⟩ := Bool.or_eq_false_iff.mp h1
    obtain ⟨y1, y2⟩ := Bool.or_eq_false_iff.mp h2
    have x1 := of_decide_eq_false x1
    have y1 := of_decide_eq_false y1
    rw [Bool.or_eq_false_iff]
    refine ⟨decide_eq_false (by omega), ?_⟩
    by_cases e : c = a
    · subst e
      have e : b = c := by omega
      subst e
      rw [beq_self_eq_true, Bool.true_and] at x2 y2 ⊢
      exact lt_tra r t u x2 y2
    · rw [beq_eq_false_iff_ne.mpr e, Bool.false_and]
theorem rise_all : ∀ {p : Str} {xs : List Str}, risingS p xs = true → ∀ x ∈ xs, ltCps x.cps.toList p.cps.toList = false
  | _, [], _, _, h => by cases h
  | p, y :: ys, h, x, hx => by
    have h : (!ltCps y.cps.toList p.cps.toList && risingS y ys) = true := h
    obtain ⟨h1, h2⟩ := Bool.and_eq_true_iff.mp h
    have h1 : ltCps y.cps.toList p.cps.toList = false := by simpa using h1
    rcases List.mem_cons.mp hx with rfl | hx
    · exact h1
    · exact lt_tra _ _ _ h1 (rise_all h2 x hx)
theorem rise_tail {p : Str} {xs : List Str} (h : risingS p xs = true) : sortedS xs = true := by
  cases xs with
  | nil => rfl
  | cons y ys =>
    have h : (!ltCps y.cps.toList p.cps.toList && risingS y ys) = true := h
    exact (Bool.and_eq_true_iff.mp h).2
theorem str_tri {x y : Str} (h1 : ltCps x.cps.toList y.cps.toList = false) (h2 : ltCps y.cps.toList x.cps.toList = false) : x = y := Str.ext' (Array.toList_inj.mp (lt_tri _ _ h1 h2))
theorem sorted_one : ∀ {xs ys : List Str}, xs.Nodup → sortedS xs = true → ys.Nodup → sortedS ys = true → (∀ x, x ∈ xs ↔ x ∈ ys) → xs = ys
  | [], [], _, _, _, _, _ => rfl
  | [], y :: _, _, _, _, _, h => absurd ((h y).mpr List.mem_cons_self) (by simp)
  | x :: _, [], _, _, _, _, h => absurd ((h x).mp List.mem_cons_self) (by simp)
  | x :: xs, y :: ys, n1, s1, n2, s2, h => by
    have s1 : risingS x xs = true := s1
    have s2 : risingS y ys = true := s2
    obtain ⟨m1, k1⟩ := List.nodup_cons.mp n1
    obtain ⟨m2, k2⟩ := List.nodup_cons.mp n2
    clear n1 n2
    have e : x = y := by
      by_cases e : x = y
      · exact e
      · have hx : x ∈ ys := (List.mem_cons.mp ((h x).mp List.mem_cons_self)).resolve_left e
        have hy : y ∈ xs := (List.mem_cons.mp ((h y).mpr List.mem_cons_self)).resolve_left (fun z => e z.symm)
        exact str_tri (rise_all s2 x hx) (rise_all s1 y hy)
    subst e
    have t1 : sortedS xs = true := rise_tail (p := x) s1
    have t2 : sortedS ys = true := rise_tail (p := x) s2
    have := sorted_one (xs := xs) (ys := ys) k1 t1 k2 t2 fun z => ⟨fun hz => (List.mem_cons.mp ((h z).mp (List.mem_cons_of_mem _ hz))).resolve_left (fun e => by subst e; exact m1 hz), fun hz => (List.mem_cons.mp ((h z).mpr (List.mem_cons_of_mem _ hz))).resolve_left (fun e => by subst e; exact m2 hz)⟩
    rw [this]
theorem tits_one {s : Sp} {xs ys : List Str} (h1 : tits s xs) (h2 : tits s ys) : xs = ys := sorted_one h1.1 h1.2.1 h2.1 h2.2.1 fun x => (h1.2.2 x).trans (h2.2.2 x).symm
end K03

namespace K03
open PySem PySem.Spec PyProof.Rows L2 Cw
theorem mem_joinL {S : List Nat} {x : Nat} : ∀ {ps : List (List Nat)}, x ∈ TL.joinL S ps → x ∈ S ∨ ∃ p ∈ ps, x ∈ p
  | [], h => by cases h
  | [p], h => .inr ⟨p, List.mem_cons_self, h⟩
  | p :: q :: r, h => by
    have h : x ∈ p ++ (S ++ TL.joinL S (q :: r)) := h
    rcases List.mem_append.mp h with h | h
    · exact .inr ⟨p, List.mem_cons_self, h⟩
    · rcases List.mem_append.mp h with h | h
      · exact .inl h
      · exact (mem_joinL h).imp id fun ⟨z, hz, hx⟩ => ⟨z, List.mem_cons_of_mem _ hz, hx⟩
theorem strOk_of {x : Str} (h : ∀ k ∈ TL.tl x, k < 0x110000) : PyData.strOk x = true := by
  unfold PyData.strOk
  rw [← Array.all_toList, List.all_eq_true]
  intro k hk
  exact decide_eq_true (h k hk)
theorem strOk_to {x : Str} (h : PyData.strOk x = true) : ∀ k ∈ TL.tl x, k < 0x110000 := by
  unfold PyData.strOk at h
  rw [← Array.all_toList, List.all_eq_true] at h
  exact fun k hk => of_decide_eq_true (h k hk)
theorem strOk_join {y : Str} {xs : List Str} (hy : PyData.strOk y = true) (hx : ∀ x ∈ xs, PyData.strOk x = true) : PyData.strOk (Txt.join y xs) = true := strOk_of fun k hk => by
  rw [TL.join_eq, TL.tl_join] at hk
  rcases mem_joinL hk with hk | ⟨p, hp, hk⟩
  · exact strOk_to hy k hk
  · obtain ⟨t, ht, rfl⟩ := List.mem_map.mp hp
    exact strOk_to (hx t ht) k hk
theorem text_ok {s : Sp} (h : s.ok) : PyData.strOk s.text = true := by
  have hn : s.m.length ≤ 5 := tame_len (let_tame (n := 5) h.m)
  refine strOk_join (by decide +kernel) fun p hp => ?_
  rcases List.mem_cons.mp hp with rfl | hp
  · refine strOk_join (by decide +kernel) fun w hw => ?_
    rcases List.mem_cons.mp hw with rfl | hw
    · decide +kernel
    · rw [List.mem_singleton.mp hw]
      exact tame_ok (let_tame (n := 5) h.m)
  · rcases List.mem_append.mp hp with hp | hp
    · obtain ⟨q, hq, rfl⟩ := List.mem_map.mp hp
      exact strOk_join (by decide +kernel) fun w hw => tame_ok (Part.tames (h.ps q hq) hn w hw)
    · obtain ⟨q, hq, rfl⟩ := List.mem_map.mp hp
      exact strOk_join (by decide +kernel) fun w hw => tame_ok (Joint.tames (h.js q hq) hn w hw)
/-- what is needed of a part of a value that is shown -/
structure Fine (p : PyData) (n : Nat) : Prop where
  lay : p.canLay0 = true
  show_ : p.showable = true
  sml : p.intsShort 45 = true
  dep : p.depth ≤ 10
  wt : p.weight ≤ n
theorem Fine.up {p : PyData} {n n' : Nat} (h : Fine p n) (hn : n ≤ n') : Fine p n' := ⟨h.lay, h.show_, h.sml, h.dep, Nat.le_trans h.wt hn⟩
theorem fine_str {x : Str} {n : Nat} (h : PyData.strOk x = true) (hl : x.length ≤ n) : Fine (.str x) n := ⟨h, rfl, rfl, Nat.zero_le _, hl⟩
theorem fine_bool (b : Bool) : Fine (.bool b) 0 := ⟨rfl, rfl, rfl, Nat.zero_le _, Nat.le_refl _⟩
theorem fine_int {n : Nat} (h : n < 10) : Fine (.int n) 4 := ⟨rfl, all_small h (P := fun n => PyData.showable (.int n) = true) (by decide +kernel), all_small h (P := fun n => PyData.intsShort 45 (.int n) = true) (by decide +kernel), Nat.zero_le _, all_small h (P := fun n => PyData.weight (.int n) ≤ 4) (by decide +kernel)⟩
structure Fines (ps : List PyData) (n d : Nat) : Prop where
  lay : PyData.canLayAll0 ps = true
  show_ : PyData.showableAll ps = true
  sml : PyData.intsShortAll 45 ps = true
  dep : PyData.depthAll ps ≤ d
  wt : PyData.weightAll ps ≤ n
theorem fines_nil {n d : Nat} : Fines [] n d := ⟨rfl, rfl, rfl, Nat.zero_le _, Nat.zero_le _⟩
theorem fines_cons {p : PyData} {ps : List PyData} {a n m d : Nat} (h : Fine p a) (hd : p.depth ≤ d) (t : Fines ps m d) (e : a + 1 + m ≤ n) : Fines (p :: ps) n d := by
  refine ⟨?_, ?_, ?_, ?_, ?_⟩
  · show (p.canLay0 && PyData.canLayAll0 ps) = true
    rw [h.lay, t.lay]; rfl
  · show (p.showable && PyData.showableAll ps) = true
    rw [h.show_, t.show_]; rfl
  · show (p.intsShort 45 && PyData.intsShortAll 45 ps) = true
    rw [h.sml, t.sml]; rfl
  · show max p.depth (PyData.depthAll ps) ≤ d
    have := t.dep
    omega
  · show p.weight + 1 + PyData.weightAll ps ≤ n
    have := h.wt
    have := t.wt
    omega
theorem fine_tup {ps : List PyData} {n d : Nat} (h : Fines ps n d) (hd : d ≤ 9) : Fine (.tuple ps) n := ⟨h.lay, h.show_, h.sml, by show PyData.depthAll ps + 1 ≤ 10; have := h.dep; omega, h.wt⟩
theorem fine_lst {ps : List PyData} {n d : Nat} (h : Fines ps n d) (hd : d ≤ 9) : Fine (.list ps) n := ⟨h.lay, h.show_, h.sml, by show PyData.depthAll ps + 1 ≤ 10; have := h.dep; omega, h.wt⟩
theorem fines_of {α : Type} {py : α → PyData} {a d : Nat} : ∀ {xs : List α}, (∀ x ∈ xs, Fine (py x) a ∧ (py x).depth ≤ d) → Fines (xs.map py) ((a + 1) * xs.length) d
  | [], _ => fines_nil
  | x :: xs, h => by
    have h1 := h x List.mem_cons_self
    have h2 := fines_of fun y hy => h y (List.mem_cons_of_mem x hy)
    refine fines_cons h1.1 h1.2 h2 ?_
    rw [List.length_cons, Nat.mul_add]; omega
theorem Fine.showy {p : PyData} {n : Nat} (h : Fine p n) (hn : n ≤ 300000) : Showy p := by
  have hw := h.wt
  have hd := h.dep
  refine ⟨h.show_, PyData.hasDict_of_canLay _ h.lay, by omega, ?_⟩
  have h2 := PyData.shown_le 45 (by decide) p (PyData.leavesShort_of_canLay0 45 p h.lay h.sml)
  have h3 : (45 + 2) * p.weight ≤ 47 * 300000 := Nat.mul_le_mul (by decide) (by omega)
  have e : sizeLine = 16777216 := by decide
  rw [e]
  omega
theorem fine_big {i : Int} (h : i.natAbs < 10 ^ 44) : Fine (.int i) 200 := by
  have hl : i.natAbs.log2 < 148 := by
    by_cases h0 : i.natAbs = 0
    · rw [h0]; decide
    · refine (Nat.log2_lt h0).mpr (Nat.lt_of_lt_of_le h (by decide))
  refine ⟨rfl, decide_eq_true (by omega), ?_, Nat.zero_le _, ?_⟩
  · refine decide_eq_true ?_
    have e := int_text_length_le10 (k := 44) (by decide) h
    show (Str.ofString (toString i)).length ≤ 45
    exact Nat.le_trans (Nat.le_of_eq (PySem.ofString_length _)) e
  · show (if i == 0 then 0 else i.natAbs.log2 + 1) ≤ 200
    split <;> omega
theorem st_len {i : Nat} (d : Bool) (h : i < 5) : (stS i d).length ≤ 2 := tame_len (st_tame d h)
theorem Part.fine {n : Nat} {p : Part} (h : p.ok n) (hn : n ≤ 5) : Fine p.py 60 ∧ p.py.depth ≤ 1 := by
  have hi : p.i < 5 := by have := h.2.1.1; omega
  have hj : p.j < 5 := by have := h.2.1.2; omega
  refine ⟨fine_tup (d := 0) (fines_cons (m := 40) (fine_str (n := 8) (tame_ok (let_tame (n := 8) h.1)) (tame_len (let_tame (n := 8) h.1))) (Nat.le_refl _) (fines_cons (m := 30) (fine_str (n := 2) (tame_ok (st_tame _ hi)) (st_len _ hi)) (Nat.le_refl _)
    (fines_cons (m := 20) (fine_str (n := 2) (tame_ok (st_tame _ hj)) (st_len _ hj)) (Nat.le_refl _) (fines_cons (m := 10) (fine_int (by have := h.2.2.1.2; omega)) (Nat.le_refl _) (fines_cons (m := 0) (fine_int (by have := h.2.2.2; omega)) (Nat.le_refl _) fines_nil (by decide)) (by decide)) (by decide)) (by decide)) (by decide)) (by decide), Nat.le_refl _⟩
theorem Joint.fine {n : Nat} {p : Joint} (h : p.ok n) (hn : n ≤ 5) : Fine p.py 60 ∧ p.py.depth ≤ 1 := by
  have hi : p.i < 5 := by have := h.2.1.1; omega
  have hj : p.j < 5 := by have := h.2.1.2; omega
  refine ⟨fine_tup (d := 0) (fines_cons (m := 40) (fine_str (n := 8) (tame_ok (let_tame (n := 8) h.1)) (tame_len (let_tame (n := 8) h.1))) (Nat.le_refl _) (fines_cons (m := 30) (fine_str (n := 3) (tame_ok (bend_tame _)) (tame_len (bend_tame _))) (Nat.le_refl _)
    (fines_cons (m := 20) (fine_str (n := 2) (tame_ok (st_tame _ hi)) (st_len _ hi)) (Nat.le_refl _) (fines_cons (m := 10) (fine_str (n := 2) (tame_ok (st_tame _ hj)) (st_len _ hj)) (Nat.le_refl _) (fines_cons (m := 0) (fine_int (by have := h.2.2; omega)) (Nat.le_refl _) fines_nil (by decide)) (by decide)) (by decide)) (by decide)) (by decide)) (by decide), Nat.le_refl _⟩
def duePy (s : Sp) (zs : List Str) : PyData := .list [.str s.text, .str s.m, .tuple ((stL s.m.length).map .str), .tuple (s.ps.map Part.py), .tuple (s.js.map Joint.py), .tuple (zs.map .str), .str s.text]
theorem due_fine {s : Sp} (h : s.ok) {zs : List Str} (hz : tits s zs) : Fine (duePy s zs) 20000 := by
  have hn : s.m.length ≤ 5 := tame_len (let_tame (n := 5) h.m)
  have ht : Fine (.str s.text) 2200 := fine_str (text_ok h) (Sp.len h)
  have f1 : Fines ((stL s.m.length).map PyData.str) (3 * (stL s.m.length).length) 0 := fines_of (a := 2) fun x hx => by
    obtain ⟨i, hi, hx⟩ := List.mem_flatMap.mp hx
    have hi := List.mem_range.mp hi
    simp only [List.mem_cons, List.not_mem_nil, or_false] at hx
    rcases hx with rfl | rfl <;> exact ⟨fine_str (tame_ok (st_tame _ (by omega))) (st_len _ (by omega)), Nat.le_refl _⟩
  have l1 : (stL s.m.length).length ≤ 10 := by
    unfold stL
    have : ∀ l : List Nat, (l.flatMap fun i => [stS i false, stS i true]).length = 2 * l.length := fun l => by
      induction l with
      | nil => rfl
      | cons a l ih => rw [List.flatMap_cons, List.length_append, ih]; show 2 + _ = 2 * (l.length + 1); omega
    rw [this, List.length_range]; omega
  have f2 := fines_of (py := Part.py) (a := 60) (d := 1) (xs := s.ps) fun p hp => Part.fine (h.ps p hp) hn
  have f3 := fines_of (py := Joint.py) (a := 60) (d := 1) (xs := s.js) fun p hp => Joint.fine (h.js p hp) hn
  have f4 : Fines (zs.map PyData.str) (9 * zs.length) 0 := fines_of (a := 8) fun x hx => by
    obtain ⟨p, hp, rfl⟩ := List.mem_map.mp ((hz.2.2 x).mp hx)
    have hl := (h.js p hp).1
    exact ⟨fine_str (tame_ok (let_tame (n := 8) hl)) (tame_len (let_tame (n := 8) hl)), Nat.le_refl _⟩
  have l4 : zs.length ≤ 12 := by
    have := nodup_sub hz.1 (ks := s.js.map (·.t)) fun x hx => (hz.2.2 x).mp hx
    rw [List.length_map] at this
    have := h.nj
    omega
  have np := h.np
  have nj := h.nj
  refine fine_lst (d := 2) ?_ (by decide)
  refine fines_cons (m := 17000) ht (Nat.zero_le _) ?_ (by decide)
  refine fines_cons (m := 16000) (fine_str (n := 5) (tame_ok (let_tame (n := 5) h.m)) hn) (Nat.zero_le _) ?_ (by decide)
  refine fines_cons (m := 15000) ((fine_tup f1 (by decide)).up (n' := 30) (by omega)) (by show PyData.depthAll _ + 1 ≤ 2; have := f1.dep; omega) ?_ (by decide)
  refine fines_cons (m := 10000) ((fine_tup f2 (by decide)).up (n' := 600) (by omega)) (by show PyData.depthAll _ + 1 ≤ 2; have := f2.dep; omega) ?_ (by decide)
  refine fines_cons (m := 5000) ((fine_tup f3 (by decide)).up (n' := 800) (by omega)) (by show PyData.depthAll _ + 1 ≤ 2; have := f3.dep; omega) ?_ (by decide)
  refine fines_cons (m := 3000) ((fine_tup f4 (by decide)).up (n' := 108) (by omega)) (by show PyData.depthAll _ + 1 ≤ 2; have := f4.dep; omega) ?_ (by decide)
  exact fines_cons (m := 0) ht (Nat.zero_le _) fines_nil (by decide)
end K03

namespace K03
open PySem PySem.Spec PyProof.Rows L2 Cw
theorem mem_sum : ∀ {l : List Nat} {a : Nat}, a ∈ l → a ≤ l.sum
  | b :: l, a, h => by
    rw [List.sum_cons]
    rcases List.mem_cons.mp h with e | h
    · omega
    · have := mem_sum h; omega
/-! ### texts of all kinds -/
theorem spl_all {P : Nat → Prop} (S : List Nat) : ∀ (k : Nat) (acc l : List Nat), (∀ x ∈ acc, P x) → (∀ x ∈ l, P x) → ∀ p ∈ TL.spl S k acc l, ∀ x ∈ p, P x
  | _, acc, [], h, _, p, hp => by
    rw [TL.spl_nil] at hp
    rw [List.mem_singleton.mp hp]; exact h
  | 0, acc, c :: r, h, hl, p, hp => by
    have hr : ∀ x ∈ r, P x := fun x hx => hl x (List.mem_cons_of_mem _ hx)
    have hp : p ∈ (if TL.pre S (c :: r) = true then acc :: TL.spl S (S.length - 1) [] r else TL.spl S 0 (acc ++ [c]) r) := hp
    split at hp
    · rcases List.mem_cons.mp hp with e | hp
      · rw [e]; exact h
      · exact spl_all S _ [] r (fun _ z => nomatch z) hr p hp
    · exact spl_all S _ _ r (fun x hx => (List.mem_append.mp hx).elim (h x) fun z => by rw [List.mem_singleton.mp z]; exact hl c List.mem_cons_self) hr p hp
  | k + 1, acc, c :: r, h, hl, p, hp => spl_all S k acc r h (fun x hx => hl x (List.mem_cons_of_mem _ hx)) p hp
theorem spl_sum (S : List Nat) : ∀ (k : Nat) (acc l : List Nat), ((TL.spl S k acc l).map List.length).sum ≤ acc.length + l.length
  | _, acc, [] => by rw [TL.spl_nil]; simp
  | 0, acc, c :: r => by
    show ((if TL.pre S (c :: r) = true then acc :: TL.spl S (S.length - 1) [] r else TL.spl S 0 (acc ++ [c]) r).map List.length).sum ≤ _
    split
    · have := spl_sum S (S.length - 1) [] r
      simp only [List.map_cons, List.sum_cons, List.length_cons, List.length_nil] at *
      omega
    · have := spl_sum S 0 (acc ++ [c]) r
      simp only [List.length_append, List.length_cons, List.length_nil] at *
      omega
  | k + 1, acc, c :: r => by
    have := spl_sum S k acc r
    show ((TL.spl S k acc r).map List.length).sum ≤ _
    simp only [List.length_cons]; omega
theorem spl_cnt (S : List Nat) : ∀ (k : Nat) (acc l : List Nat), 0 < (TL.spl S k acc l).length ∧ (TL.spl S k acc l).length ≤ l.length + 1
  | _, acc, [] => by rw [TL.spl_nil]; exact ⟨Nat.one_pos, Nat.le_refl _⟩
  | 0, acc, c :: r => by
    show 0 < (if TL.pre S (c :: r) = true then acc :: TL.spl S (S.length - 1) [] r else TL.spl S 0 (acc ++ [c]) r).length ∧ (if TL.pre S (c :: r) = true then acc :: TL.spl S (S.length - 1) [] r else TL.spl S 0 (acc ++ [c]) r).length ≤ _
    split
    · have := spl_cnt S (S.length - 1) [] r
      simp only [List.length_cons] at *; omega
    · have := spl_cnt S 0 (acc ++ [c]) r
      simp only [List.length_cons] at *; omega
  | k + 1, acc, c :: r => by
    have := spl_cnt S k acc r
    show 0 < (TL.spl S k acc r).length ∧ (TL.spl S k acc r).length ≤ _
    simp only [List.length_cons]; omega
def goodT (n : Nat) (t : Str) : Prop := t.length ≤ n ∧ ∀ k ∈ TL.tl t, k < 0x110000
theorem tl_len (t : Str) : (TL.tl t).length = t.length := Array.length_toList
theorem split_tl (x : Str) {y : Str} (hy : TL.tl y ≠ []) (hk : y.cps.all (· < 256) = true) : (Txt.split x y).map TL.tl = TL.spl (TL.tl y) 0 [] (TL.tl x) := TL.split_spl x y hy (TL.kind_ok hk)
theorem good_split {n : Nat} {t y : Str} (h : goodT n t) (hy : TL.tl y ≠ []) (hk : y.cps.all (· < 256) = true) : (∀ p ∈ Txt.split t y, goodT n p) ∧ (0 < (Txt.split t y).length ∧ (Txt.split t y).length ≤ n + 1) ∧ ((Txt.split t y).map (·.length)).sum ≤ n := by
  have e := split_tl t hy hk
  have hl := tl_len t
  have h1 := h.1
  have e2 : (Txt.split t y).map (·.length) = (TL.spl (TL.tl y) 0 [] (TL.tl t)).map List.length := by
    rw [← e, List.map_map]
    exact List.map_congr_left fun p _ => (tl_len p).symm
  have hs : ((Txt.split t y).map (·.length)).sum ≤ n := by
    rw [e2]
    have := spl_sum (TL.tl y) 0 [] (TL.tl t)
    simp only [List.length_nil] at this; omega
  refine ⟨fun p hp => ⟨?_, fun k hk' => ?_⟩, ?_, hs⟩
  · have : p.length ∈ (Txt.split t y).map (·.length) := List.mem_map.mpr ⟨p, hp, rfl⟩
    exact Nat.le_trans (mem_sum this) hs
  · have : TL.tl p ∈ TL.spl (TL.tl y) 0 [] (TL.tl t) := by rw [← e]; exact List.mem_map.mpr ⟨p, hp, rfl⟩
    exact spl_all (P := fun k => k < 0x110000) _ 0 [] _ (fun _ z => nomatch z) h.2 _ this k hk'
  · have := spl_cnt (TL.tl y) 0 [] (TL.tl t)
    rw [← e, List.length_map] at this
    omega
/-- any thing that a filling may be, or that may stand in one -/
def oddD : D → Prop
  | .non => True
  | .bl _ => True
  | .int _ => True
  | .str _ => True
  | .tup ds => okDs 0 ds = true
  | .lst ds => okDs 0 ds = true
  | .dct _ ds => okDs 0 ds = true
  | _ => False
theorem oddD.ok {d : D} (h : oddD d) : okD 0 d = true := by
  cases d <;> first | exact h.elim | rfl | exact h
def wordsL : List Str := ["bad text", "bad line", "bad state", "bad number", "bad name", "bad place", "bad wish", "bad claim", "no borders", "no room", "bad sizes", "bad filling", "bad names", "bad lines", "unknown", "in use", "other letters", "too many", "no undo", "not asked", "broken"]
def fits : List Bool := [true, false, false, false, false, false, false, false, false, false, false, false, false, false, false, false, false, false, false, false, false]
def S__law_sorts : Pm := fun c ds Φ => ds = [] ∧ Φ (.lst (wordsL.map .str)) c
def S__law_sort (C : Addr) : Addr × Obj → Pm := fun p c ds Φ => ∃ dd ns fs, HeldO p dd C ∧ ds = [.exc p.1 dd C ns fs] ∧ okDs 0 fs = true ∧ Φ (.str "bad text") c
def S__law_told (C : Addr) : Addr × Obj → Pm := fun p c ds Φ => ∃ dd x, HeldO p dd C ∧ ds = [.exc p.1 dd C ["given"] [x], .str "bad text"] ∧ okDs 0 [x] = true ∧ Φ (.tup [x]) c
def signsOf (t : Str) : Option Str := match Txt.split t " " with
  | [a, b] => if a = "signs" ∧ isLet b 5 = true then some b else none
  | _ => none
def optS : Option Str → D
  | none => .non
  | some x => .str x
def S_signs_ofW : Pm := fun c ds Φ => ∃ t, ds = [.str t] ∧ goodT 36000 t ∧ Φ (optS (signsOf t)) c
theorem join_sp (t y : Str) : Txt.join y (Txt.split t y) = t := by rw [TL.join_eq]; exact StrLaws.join_split t y
theorem signs_some {t m : Str} (h : signsOf t = some m) : isLet m 5 = true ∧ t = signL m := by
  unfold signsOf at h
  have e := join_sp t " "
  split at h
  · rename_i a b eq
    split at h
    · rename_i hc
      cases h
      rw [eq, hc.1] at e
      exact ⟨hc.2, e.symm⟩
    · cases h
  · cases h
theorem signs_of_line {m : Str} (h : isLet m 5 = true) : signsOf (signL m) = some m := by
  have e : Txt.split (signL m) " " = (["signs", m] : List Str) := ws_split (ws := (["signs", m] : List Str)) (fun w hw => by
    rcases List.mem_cons.mp hw with rfl | hw
    · decide +kernel
    · rw [List.mem_singleton.mp hw]
      have := let_tame (n := 5) h
      have h1 := (Bool.and_eq_true_iff.mp this)
      exact Bool.and_eq_true_iff.mpr ⟨h1.1, decide_eq_true (by have := of_decide_eq_true h1.2; omega)⟩) (by simp)
  unfold signsOf
  rw [e]
  exact if_pos ⟨rfl, h⟩
/-! states, digits -/
theorem st_inj {i j : Nat} {d e : Bool} (hi : i < 5) (hj : j < 5) (h : stS i d = stS j e) : i = j ∧ d = e := by
  have all : ∀ (i j : Fin 5) (d e : Bool), stS i.val d = stS j.val e → i.val = j.val ∧ d = e := by decide +kernel
  exact all ⟨i, hi⟩ ⟨j, hj⟩ d e h
def stOf (n : Nat) (b : Str) : Option (Nat × Bool) := ((List.range n).flatMap fun i => [(i, false), (i, true)]).find? fun x => decide (stS x.1 x.2 = b)
theorem stOf_some {n : Nat} {b : Str} {x : Nat × Bool} (h : stOf n b = some x) : x.1 < n ∧ b = stS x.1 x.2 := by
  have h1 := List.find?_some h
  have h2 := List.mem_of_find?_eq_some h
  obtain ⟨i, hi, hx⟩ := List.mem_flatMap.mp h2
  have hi := List.mem_range.mp hi
  refine ⟨?_, (of_decide_eq_true h1).symm⟩
  simp only [List.mem_cons, List.not_mem_nil, or_false] at hx
  rcases hx with e | e <;> rw [e] <;> exact hi
theorem stOf_none {n : Nat} {b : Str} (h : stOf n b = none) : b ∉ stL n := by
  intro z
  obtain ⟨i, hi, hx⟩ := List.mem_flatMap.mp z
  have h := List.find?_eq_none.mp h
  have q : ∀ d, stS i d = b → False := fun d e => h (i, d) (List.mem_flatMap.mpr ⟨i, hi, by cases d <;> simp⟩) (decide_eq_true e)
  simp only [List.mem_cons, List.not_mem_nil, or_false] at hx
  rcases hx with e | e
  · exact q false e.symm
  · exact q true e.symm
theorem stOf_mem {n : Nat} {b : Str} : decide (b ∈ stL n) = (stOf n b).isSome := by
  cases h : stOf n b with
  | none => exact decide_eq_false (stOf_none h)
  | some x =>
    obtain ⟨h1, h2⟩ := stOf_some h
    rw [h2]
    exact decide_eq_true (st_mem h1)
theorem stOf_st {n i : Nat} {d : Bool} (hn : n ≤ 5) (hi : i < n) : stOf n (stS i d) = some (i, d) := by
  cases h : stOf n (stS i d) with
  | none => exact absurd (st_mem hi) (stOf_none h)
  | some x =>
    obtain ⟨h1, h2⟩ := stOf_some h
    obtain ⟨e1, e2⟩ := st_inj (by omega) (by omega) h2
    obtain ⟨a, b⟩ := x
    rw [show i = a from e1, show d = b from e2]
theorem dig_one {c : Nat} (h : c < 10) : toString (c : Int) = one (c + 48) := all_small h (P := fun c : Nat => (toString (c : Int) : Str) = one (c + 48)) (by decide +kernel)
theorem num_some {t : Str} {lo hi v : Int} (h : numberOf t lo hi = some v) : (lo ≤ v ∧ v ≤ hi) ∧ ∃ c : Nat, v = c ∧ c < 10 ∧ t = toString (c : Int) := by
  unfold numberOf at h
  split at h
  · rename_i k e
    split at h
    · rename_i hc
      cases h
      refine ⟨hc.2, k - 48, by omega, by omega, ?_⟩
      rw [dig_one (by omega), show k - 48 + 48 = k by omega]
      cases t with | mk a => cases a with | mk l =>
        have e : l = [k] := e
        rw [e]
    · cases h
  · cases h
/-! lines -/
def pieceO (n : Nat) (t : Str) : Option Part := match Txt.split t " " with
  | [a, nm, b, e, lo, l, co, c] =>
    if a = "piece" ∧ lo = "long" ∧ co = "cost" ∧ isLet nm 8 = true then
      match stOf n b, stOf n e, numberOf l 1 6, numberOf c 0 9 with
      | some x, some y, some l, some c => some ⟨nm, x.1, x.2, y.1, y.2, l.toNat, c.toNat⟩
      | _, _, _, _ => none
    else none
  | _ => none
def bendO (o : Str) : Option Bool := if o = "out" then some true else if o = "in" then some false else none
theorem bend_some {o : Str} {b : Bool} (h : bendO o = some b) : o = bendS b := by
  unfold bendO at h
  split at h
  · rename_i e; cases h; exact e
  · split at h
    · rename_i e; cases h; exact e
    · cases h
theorem bend_of (b : Bool) : bendO (bendS b) = some b := by cases b <;> decide +kernel
theorem bend_mem (o : Str) : decide (o ∈ (["out", "in"] : List Str)) = (bendO o).isSome := by
  unfold bendO
  by_cases h1 : o = "out"
  · rw [if_pos h1, h1]; exact decide_eq_true (by simp)
  · rw [if_neg h1]
    by_cases h2 : o = "in"
    · rw [if_pos h2, h2]; exact decide_eq_true (by simp)
    · rw [if_neg h2]
      exact decide_eq_false (by simp only [List.mem_cons, List.not_mem_nil, or_false]; exact fun z => z.elim h1 h2)
def cornerO (n : Nat) (t : Str) : Option Joint := match Txt.split t " " with
  | [a, nm, o, b, e, co, c] =>
    if a = "corner" ∧ co = "cost" ∧ isLet nm 8 = true then
      match bendO o, stOf n b, stOf n e, numberOf c 0 9 with
      | some o, some x, some y, some c => some ⟨nm, o, x.1, x.2, y.1, y.2, c.toNat⟩
      | _, _, _, _ => none
    else none
  | _ => none
theorem piece_some {n : Nat} {t : Str} {p : Part} (h : pieceO n t = some p) : p.ok n ∧ t = p.row := by
  unfold pieceO at h
  have e := join_sp t " "
  split at h
  · rename_i a nm b e' lo l co c eq
    split at h
    · rename_i hc
      split at h
      · rename_i x y l' c' e1 e2 e3 e4
        cases h
        obtain ⟨h1, h2⟩ := stOf_some e1
        obtain ⟨h3, h4⟩ := stOf_some e2
        obtain ⟨h5, cl, h6, h7, h8⟩ := num_some e3
        obtain ⟨h9, cc, h10, h11, h12⟩ := num_some e4
        refine ⟨⟨hc.2.2.2, ⟨h1, h3⟩, ⟨?_, ?_⟩, ?_⟩, ?_⟩
        · show 1 ≤ l'.toNat; omega
        · show l'.toNat ≤ 6; omega
        · show c'.toNat ≤ 9; omega
        · rw [eq] at e
          rw [← e]
          unfold Part.row Part.ws
          rw [hc.1, hc.2.1, hc.2.2.1, h2, h4, h8, h12]
          show _ = Txt.join " " ["piece", nm, stS x.1 x.2, stS y.1 y.2, "long", toString ((l'.toNat : Nat) : Int), "cost", toString ((c'.toNat : Nat) : Int)]
          rw [h6, h10, Int.toNat_natCast, Int.toNat_natCast]
      · cases h
    · cases h
  · cases h
theorem corner_some {n : Nat} {t : Str} {p : Joint} (h : cornerO n t = some p) : p.ok n ∧ t = p.row := by
  unfold cornerO at h
  have e := join_sp t " "
  split at h
  · rename_i a nm o b e' co c eq
    split at h
    · rename_i hc
      split at h
      · rename_i o' x y c' e0 e1 e2 e4
        cases h
        have h0 := bend_some e0
        obtain ⟨h1, h2⟩ := stOf_some e1
        obtain ⟨h3, h4⟩ := stOf_some e2
        obtain ⟨h9, cc, h10, h11, h12⟩ := num_some e4
        refine ⟨⟨hc.2.2, ⟨h1, h3⟩, ?_⟩, ?_⟩
        · show c'.toNat ≤ 9; omega
        · rw [eq] at e
          rw [← e]
          unfold Joint.row Joint.ws
          rw [hc.1, hc.2.1, h0, h2, h4, h12]
          show _ = Txt.join " " ["corner", nm, bendS o', stS x.1 x.2, stS y.1 y.2, "cost", toString ((c'.toNat : Nat) : Int)]
          rw [h10, Int.toNat_natCast]
      · cases h
    · cases h
  · cases h
theorem piece_row {n : Nat} {p : Part} (hn : n ≤ 5) (h : p.ok n) : pieceO n p.row = some p := by
  have e : Txt.split p.row " " = p.ws := ws_split (Part.tames h hn) (by simp [Part.ws])
  unfold pieceO
  rw [e]
  show (if ("piece" : Str) = "piece" ∧ ("long" : Str) = "long" ∧ ("cost" : Str) = "cost" ∧ isLet p.t 8 = true then (match stOf n (stS p.i p.d), stOf n (stS p.j p.e), numberOf (toString (p.l : Int)) 1 6, numberOf (toString (p.c : Int)) 0 9 with
      | some x, some y, some l, some c => some (⟨p.t, x.1, x.2, y.1, y.2, l.toNat, c.toNat⟩ : Part)
      | _, _, _, _ => none) else none) = some p
  have h2 := h.2.2
  rw [if_pos ⟨rfl, rfl, rfl, h.1⟩, stOf_st hn h.2.1.1, stOf_st hn h.2.1.2, dig_num (by omega) 1 6 (by omega) (by omega), dig_num (by omega) 0 9 (by omega) (by omega)]
  simp only [Int.toNat_natCast]
theorem corner_row {n : Nat} {p : Joint} (hn : n ≤ 5) (h : p.ok n) : cornerO n p.row = some p := by
  have e : Txt.split p.row " " = p.ws := ws_split (Joint.tames h hn) (by simp [Joint.ws])
  unfold cornerO
  rw [e]
  show (if ("corner" : Str) = "corner" ∧ ("cost" : Str) = "cost" ∧ isLet p.t 8 = true then (match bendO (bendS p.o), stOf n (stS p.i p.d), stOf n (stS p.j p.e), numberOf (toString (p.c : Int)) 0 9 with
      | some o, some x, some y, some c => some (⟨p.t, o, x.1, x.2, y.1, y.2, c.toNat⟩ : Joint)
      | _, _, _, _ => none) else none) = some p
  have h2 := h.2.2
  rw [if_pos ⟨rfl, rfl, h.1⟩, bend_of, stOf_st hn h.2.1.1, stOf_st hn h.2.1.2, dig_num (by omega) 0 9 (by omega) (by omega)]
  simp only [Int.toNat_natCast]
section
variable {α : Type} {d : α → D} {py : α → PyData}
def opD (d : α → D) : Option α → D
  | none => .non
  | some a => d a
def opY (py : α → PyData) : Option α → PyData
  | none => .none
  | some a => py a
theorem pys_op (h : ∀ x, D.py (d x) = some (py x)) (os : List (Option α)) : D.pys (os.map (opD d)) = some (os.map (opY py)) :=
  pys_of (d := opD d) (py := opY py) (fun o => by cases o with
    | none => rfl
    | some x => exact h x) os
theorem shaped_op {os : List (Option α)} (h1 : ∀ x, some x ∈ os → (py x).canLay0 = true) (h2 : ∀ x, some x ∈ os → (py x).depth ≤ 1) : SeqAt.shaped (.list (os.map (opY py))) = true :=
  shaped_of (py := opY py) (xs := os) (fun o ho => by cases o with
    | none => rfl
    | some x => exact h1 x ho) (fun o ho => by cases o with
    | none => exact Nat.zero_le _
    | some x => exact h2 x ho)
theorem any_op (h : ∀ x, (py x).eqv .none = false) : ∀ os : List (Option α), ((os.map (opY py)).any fun z => PyData.eqv z .none) = os.any Option.isNone
  | [] => rfl
  | o :: os => by
    rw [List.map_cons, List.any_cons, List.any_cons, any_op h os]
    cases o with
    | none => rfl
    | some x => rw [show PyData.eqv (opY py (some x)) .none = false from h x]; rfl
theorem all_some : ∀ {os : List (Option α)}, os.any Option.isNone = false → ∃ xs : List α, os = xs.map some
  | [], _ => ⟨[], rfl⟩
  | none :: os, h => by cases h
  | some x :: os, h => by
    obtain ⟨xs, e⟩ := all_some (os := os) h
    exact ⟨x :: xs, by rw [e]; rfl⟩
theorem some_all {xs : List α} : (xs.map some).any Option.isNone = false := by
  induction xs with
  | nil => rfl
  | cons x xs ih => exact ih
theorem some_inj {xs ys : List α} (h : xs.map some = ys.map some) : xs = ys := (List.map_inj_right fun _ _ e => Option.some.inj e).mp h
end
abbrev optP : Option Part → D := opD Part.d'
abbrev optJ : Option Joint → D := opD Joint.d'
def S_piece_ofW : Pm := fun c ds Φ => ∃ t n, ds = [.str t, stD n] ∧ n ≤ 5 ∧ goodT 36000 t ∧ Φ (optP (pieceO n t)) c
def S_corner_ofW : Pm := fun c ds Φ => ∃ t n, ds = [.str t, stD n] ∧ n ≤ 5 ∧ goodT 36000 t ∧ Φ (optJ (cornerO n t)) c
def piecesD (n : Nat) (xs : List Str) : D := .tup (xs.map fun x => optP (pieceO n x))
def cornersD (n : Nat) (xs : List Str) : D := .tup (xs.map fun x => optJ (cornerO n x))
def fitP (n : Nat) (xs : List Str) (ps : List Part) : Prop := xs.map (pieceO n) = ps.map some ∧ ps.length ≤ 8 ∧ (ps.map (·.t)).Nodup
def fitJ (n : Nat) (xs : List Str) (js : List Joint) : Prop := xs.map (cornerO n) = js.map some ∧ js.length ≤ 12 ∧ (js.map Joint.k).Nodup ∧ ∃ pool : List Str, pool.length ≤ 4 ∧ ∀ p ∈ js, p.t ∈ pool
def S_pieces_fitW : Pm := fun c ds Φ => ∃ n xs, ds = [piecesD n xs] ∧ n ≤ 5 ∧ (∀ ps, fitP n xs ps → Φ (.bl true) c) ∧ ((∀ ps, ¬ fitP n xs ps) → Φ (.bl false) c)
def S_corners_fitW : Pm := fun c ds Φ => ∃ n xs, ds = [cornersD n xs] ∧ n ≤ 5 ∧ (∀ js, fitJ n xs js → Φ (.bl true) c) ∧ ((∀ js, ¬ fitJ n xs js) → Φ (.bl false) c)
def S_parts_ofW : Pm := fun c ds Φ => ∃ d, ds = [d] ∧ oddD d ∧ (∀ t, d = .str t → goodT 36000 t) ∧ (∀ s : Sp, s.ok → d = .str s.text → Φ s.d c) ∧ ((∀ s : Sp, s.ok → d ≠ .str s.text) → Φ .non c)
def Sy_bord (C CI : Addr) : Pmy := fun c ds Φ Ξ => ∃ d, c = [.obj C [] []] ∧ ds = [.cell 0, d] ∧ oddD d ∧ (∀ t, d = .str t → goodT 36000 t) ∧ ((∀ s : Sp, s.ok → d ≠ .str s.text) → Ξ ⟨CI, ["given"], [d]⟩) ∧
  ∀ (s : Sp) (zs : List Str), s.ok → tits s zs → d = .str s.text → Φ .non [.obj C fldB [.str s.text, .str s.m, .tup (s.ps.map Part.d'), .tup (s.js.map Joint.d'), stD s.m.length, .tup (zs.map .str)]]
theorem op_ok {α : Type} {f : α → D} (h : ∀ x, okD 0 (f x) = true) (os : List (Option α)) : okDs 0 (os.map (opD f)) = true := okDs_map (fun o => by cases o with
  | none => rfl
  | some x => exact h x) os
theorem piecesD_ok (n : Nat) (xs : List Str) : okDs 0 [piecesD n xs] = true := by
  show (okDs 0 (xs.map fun x => optP (pieceO n x)) && true) = true
  rw [show (xs.map fun x => optP (pieceO n x)) = (xs.map (pieceO n)).map (opD Part.d') by rw [List.map_map]; rfl, op_ok (fun _ => rfl)]; rfl
theorem joint_ok (p : Joint) : okD 0 p.d' = true := rfl
theorem cornersD_ok (n : Nat) (xs : List Str) : okDs 0 [cornersD n xs] = true := by
  show (okDs 0 (xs.map fun x => optJ (cornerO n x)) && true) = true
  rw [show (xs.map fun x => optJ (cornerO n x)) = (xs.map (cornerO n)).map (opD Joint.d') by rw [List.map_map]; rfl, op_ok joint_ok]; rfl
theorem rowsP {n : Nat} : ∀ {xs : List Str} {ps : List Part}, xs.map (pieceO n) = ps.map some → xs = ps.map Part.row ∧ ∀ p ∈ ps, p.ok n
  | [], [], _ => ⟨rfl, fun _ z => nomatch z⟩
  | [], _ :: _, h => by cases h
  | _ :: _, [], h => by cases h
  | x :: xs, p :: ps, h => by
    injection h with h1 h2
    obtain ⟨e1, e2⟩ := rowsP h2
    obtain ⟨q1, q2⟩ := piece_some h1
    exact ⟨by rw [List.map_cons, ← e1, q2], fun q hq => by
      rcases List.mem_cons.mp hq with e | hq
      · rw [e]; exact q1
      · exact e2 q hq⟩
theorem rowsJ {n : Nat} : ∀ {xs : List Str} {ps : List Joint}, xs.map (cornerO n) = ps.map some → xs = ps.map Joint.row ∧ ∀ p ∈ ps, p.ok n
  | [], [], _ => ⟨rfl, fun _ z => nomatch z⟩
  | [], _ :: _, h => by cases h
  | _ :: _, [], h => by cases h
  | x :: xs, p :: ps, h => by
    injection h with h1 h2
    obtain ⟨e1, e2⟩ := rowsJ h2
    obtain ⟨q1, q2⟩ := corner_some h1
    exact ⟨by rw [List.map_cons, ← e1, q2], fun q hq => by
      rcases List.mem_cons.mp hq with e | hq
      · rw [e]; exact q1
      · exact e2 q hq⟩
theorem prows {n : Nat} (hn : n ≤ 5) {ps : List Part} (h : ∀ p ∈ ps, p.ok n) : (ps.map Part.row).map (pieceO n) = ps.map some := by
  rw [List.map_map]
  exact List.map_congr_left fun p hp => piece_row hn (h p hp)
theorem jrows {n : Nat} (hn : n ≤ 5) {ps : List Joint} (h : ∀ p ∈ ps, p.ok n) : (ps.map Joint.row).map (cornerO n) = ps.map some := by
  rw [List.map_map]
  exact List.map_congr_left fun p hp => corner_row hn (h p hp)
theorem eqv_str (a x : Str) : PyData.eqv (.str a) (.str x) = decide (a = x) := by
  show (a == x) = _
  by_cases h : a = x
  · subst h; simp
  · rw [decide_eq_false h]; simpa using h
theorem eqv2 (a b x y : Str) : PyData.eqv (.list [.str a, .str b]) (.list [.str x, .str y]) = decide (a = x ∧ b = y) := by
  show (PyData.eqv (.str a) (.str x) && (PyData.eqv (.str b) (.str y) && true)) = _
  rw [eqv_str, eqv_str, Bool.and_true, ← Bool.decide_and]
theorem eqv3 (a b c x y z : Str) : PyData.eqv (.list [.str a, .str b, .str c]) (.list [.str x, .str y, .str z]) = decide (a = x ∧ b = y ∧ c = z) := by
  show (PyData.eqv (.str a) (.str x) && (PyData.eqv (.str b) (.str y) && (PyData.eqv (.str c) (.str z) && true))) = _
  rw [eqv_str, eqv_str, eqv_str, Bool.and_true, ← Bool.decide_and, ← Bool.decide_and]
theorem eqv_int (a b : Nat) : PyData.eqv (.int (a : Int)) (.int (b : Int)) = decide (a = b) := by
  show ((a : Int) == (b : Int)) = _
  by_cases h : a = b
  · subst h; simp
  · rw [decide_eq_false h]
    have : ¬ (a : Int) = (b : Int) := by omega
    simpa using this
theorem joint_eqv_iff (p q : Joint) : PyData.eqv p.py q.py = decide (p.k = q.k) := by
  show (PyData.eqv (.str p.t) (.str q.t) && (PyData.eqv (.str (bendS p.o)) (.str (bendS q.o)) && (PyData.eqv (.str (stS p.i p.d)) (.str (stS q.i q.d)) && (PyData.eqv (.str (stS p.j p.e)) (.str (stS q.j q.e)) && (PyData.eqv (.int p.c) (.int q.c) && true))))) = _
  rw [eqv_str, eqv_str, eqv_str, eqv_str, eqv_int, Bool.and_true, ← Bool.decide_and, ← Bool.decide_and, ← Bool.decide_and, ← Bool.decide_and]
  refine decide_eq_decide.mpr ⟨fun ⟨h1, h2, h3, h4, h5⟩ => ?_, fun h => ?_⟩
  · unfold Joint.k; rw [h1, h2, h3, h4, h5]
  · unfold Joint.k at h
    injection h with e1 h
    injection h with e2 h
    injection h with e3 h
    injection h with e4 h
    injection h with e5 _
    injection e1 with e1
    injection e2 with e2
    injection e3 with e3
    injection e4 with e4
    injection e5 with e5
    exact ⟨e1, e2, e3, e4, by omega⟩
section
variable {P : Program} {w : World} {K : PySem.W.Frag} {mg : Str → Option Value} {base : Heap}
theorem okI_InvalidText (T : Tx K mg) : FnOk P w K mg base CX0 1 T.aI_InvalidText T.dI_InvalidText ["self", "given"] (spI T.C_InvalidText "given") :=
  init_of T.FI_InvalidText scI_InvalidText T.ox_InvalidText T.no_InvalidText_given rfl fun X hK hN hs => by
    subst hK
    exact pss_one (ps_ost (pe_var (i := 0) (by rw [hN]; rfl) (.inl (by rw [hs]; rfl)) (by decide) (by decide)) (pe_var (i := 1) (by rw [hN]; rfl) (.inl (by rw [hs]; rfl)) (by decide) (by decide)))
set_option maxHeartbeats 8000000 in
theorem ok__law_sorts (T : Tx K mg) : FnE P w K mg base 1 T.a__law_sorts T.d__law_sorts [] (spE K 0 0 (fun _ => S__law_sorts)) := by
  refine fnED T.F__law_sorts sc__law_sorts fun cdv A outer s H E p hr _ => ⟨_, (psd_cons (psd_set (i := 0) sc__law_sorts.nd (pd_lst (pds_cons pd_str (pds_cons pd_str (pds_cons pd_str (pds_cons pd_str (pds_cons pd_str (pds_cons pd_str (pds_cons pd_str (pds_cons pd_str pds_nil)))))))))) (psd_cons (psd_set (i := 0) sc__law_sorts.nd (pd_add (pd_v 0) (pd_lst (pds_cons pd_str (pds_cons pd_str (pds_cons pd_str (pds_cons pd_str (pds_cons pd_str (pds_cons pd_str (pds_cons pd_str pds_nil)))))))))) (psd_one (psd_ret (pd_add (pd_v 0) (pd_lst (pds_cons pd_str (pds_cons pd_str (pds_cons pd_str (pds_cons pd_str (pds_cons pd_str (pds_cons pd_str pds_nil)))))))))))), ?_⟩
  rintro c ds Φ hc - ⟨rfl, hΦ⟩
  cases c with
  | cons _ _ => cases hc
  | nil =>
  conv => whnf
  refine ⟨by show 8 ≤ sizeLine; decide, ?_⟩
  conv => whnf
  refine ⟨by show 7 ≤ sizeLine; decide, ?_⟩
  conv => whnf
  refine ⟨by show 8 + 7 ≤ sizeLine; decide, ?_⟩
  conv => whnf
  refine ⟨by show 6 ≤ sizeLine; decide, ?_⟩
  conv => whnf
  refine ⟨by show 15 + 6 ≤ sizeLine; decide, ?_⟩
  conv => whnf
  exact hΦ
set_option maxHeartbeats 8000000 in
theorem ok__law_sort (T : Tx K mg) : FnE P w K mg base 2 T.a__law_sort T.d__law_sort ["_law_e"] (spE K 0 1 (S__law_sort T.C_InvalidText)) := by
  refine fnED T.F__law_sort sc__law_sort fun cdv A outer s H E p hr ⟨_, _, _, dd, ns, fs, hE, _⟩ => ⟨_, (psd_cons (psd_set (i := 1) sc__law_sort.nd (pd_lst (pds_cons (pd_isX (List.mem_cons_self) hE T.xa_InvalidText (.own _) T.kt_InvalidText_InvalidText (pd_v 0) (pe_glob rfl T.g_InvalidText rfl) T.n_isinstance) (pds_cons (pd_isX (List.mem_cons_self) hE T.xa_InvalidText (.own _) T.kt_InvalidText_InvalidLine (pd_v 0) (pe_glob rfl T.g_InvalidLine rfl) T.n_isinstance) (pds_cons (pd_isX (List.mem_cons_self) hE T.xa_InvalidText (.own _) T.kt_InvalidText_InvalidState (pd_v 0) (pe_glob rfl T.g_InvalidState rfl) T.n_isinstance) pds_nil))))) (psd_cons (psd_set (i := 1) sc__law_sort.nd (pd_add (pd_v 1) (pd_lst (pds_cons (pd_isX (List.mem_cons_self) hE T.xa_InvalidText (.own _) T.kt_InvalidText_InvalidNumber (pd_v 0) (pe_glob rfl T.g_InvalidNumber rfl) T.n_isinstance) (pds_cons (pd_isX (List.mem_cons_self) hE T.xa_InvalidText (.own _) T.kt_InvalidText_InvalidName (pd_v 0) (pe_glob rfl T.g_InvalidName rfl) T.n_isinstance) (pds_cons (pd_isX (List.mem_cons_self) hE T.xa_InvalidText (.own _) T.kt_InvalidText_InvalidIndex (pd_v 0) (pe_glob rfl T.g_InvalidIndex rfl) T.n_isinstance) pds_nil)))))) (psd_cons (psd_set (i := 1) sc__law_sort.nd (pd_add (pd_v 1) (pd_lst (pds_cons (pd_isX (List.mem_cons_self) hE T.xa_InvalidText (.own _) T.kt_InvalidText_InvalidWish (pd_v 0) (pe_glob rfl T.g_InvalidWish rfl) T.n_isinstance) (pds_cons (pd_isX (List.mem_cons_self) hE T.xa_InvalidText (.own _) T.kt_InvalidText_InvalidClaim (pd_v 0) (pe_glob rfl T.g_InvalidClaim rfl) T.n_isinstance) (pds_cons (pd_isX (List.mem_cons_self) hE T.xa_InvalidText (.own _) T.kt_InvalidText_NotBorders (pd_v 0) (pe_glob rfl T.g_NotBorders rfl) T.n_isinstance) pds_nil)))))) (psd_cons (psd_set (i := 1) sc__law_sort.nd (pd_add (pd_v 1) (pd_lst (pds_cons (pd_isX (List.mem_cons_self) hE T.xa_InvalidText (.own _) T.kt_InvalidText_NotARoom (pd_v 0) (pe_glob rfl T.g_NotARoom rfl) T.n_isinstance) (pds_cons (pd_isX (List.mem_cons_self) hE T.xa_InvalidText (.own _) T.kt_InvalidText_InvalidSizes (pd_v 0) (pe_glob rfl T.g_InvalidSizes rfl) T.n_isinstance) (pds_cons (pd_isX (List.mem_cons_self) hE T.xa_InvalidText (.own _) T.kt_InvalidText_InvalidFilling (pd_v 0) (pe_glob rfl T.g_InvalidFilling rfl) T.n_isinstance) pds_nil)))))) (psd_cons (psd_set (i := 1) sc__law_sort.nd (pd_add (pd_v 1) (pd_lst (pds_cons (pd_isX (List.mem_cons_self) hE T.xa_InvalidText (.own _) T.kt_InvalidText_InvalidNames (pd_v 0) (pe_glob rfl T.g_InvalidNames rfl) T.n_isinstance) (pds_cons (pd_isX (List.mem_cons_self) hE T.xa_InvalidText (.own _) T.kt_InvalidText_InvalidLines (pd_v 0) (pe_glob rfl T.g_InvalidLines rfl) T.n_isinstance) (pds_cons (pd_isX (List.mem_cons_self) hE T.xa_InvalidText (.own _) T.kt_InvalidText_UnknownName (pd_v 0) (pe_glob rfl T.g_UnknownName rfl) T.n_isinstance) pds_nil)))))) (psd_cons (psd_set (i := 1) sc__law_sort.nd (pd_add (pd_v 1) (pd_lst (pds_cons (pd_isX (List.mem_cons_self) hE T.xa_InvalidText (.own _) T.kt_InvalidText_InUse (pd_v 0) (pe_glob rfl T.g_InUse rfl) T.n_isinstance) (pds_cons (pd_isX (List.mem_cons_self) hE T.xa_InvalidText (.own _) T.kt_InvalidText_OtherLetters (pd_v 0) (pe_glob rfl T.g_OtherLetters rfl) T.n_isinstance) (pds_cons (pd_isX (List.mem_cons_self) hE T.xa_InvalidText (.own _) T.kt_InvalidText_TooMany (pd_v 0) (pe_glob rfl T.g_TooMany rfl) T.n_isinstance) pds_nil)))))) (psd_cons (psd_set (i := 1) sc__law_sort.nd (pd_add (pd_v 1) (pd_lst (pds_cons (pd_isX (List.mem_cons_self) hE T.xa_InvalidText (.own _) T.kt_InvalidText_NothingToUndo (pd_v 0) (pe_glob rfl T.g_NothingToUndo rfl) T.n_isinstance) (pds_cons (pd_isX (List.mem_cons_self) hE T.xa_InvalidText (.own _) T.kt_InvalidText_NotAsked (pd_v 0) (pe_glob rfl T.g_NotAsked rfl) T.n_isinstance) (pds_cons (pd_isX (List.mem_cons_self) hE T.xa_InvalidText (.own _) T.kt_InvalidText_Broken (pd_v 0) (pe_glob rfl T.g_Broken rfl) T.n_isinstance) pds_nil)))))) (psd_cons (psd_if (pdt_neU (hotU hr) (pd_cntB (pd_v 1) pd_bl) pd_int) (psd_one (psd_ret pd_str)) psd_nil) (psd_cons (psd_set (i := 2) sc__law_sort.nd (pd_idxB (pd_v 1) pd_bl)) (psd_cons (psd_set (i := 3) sc__law_sort.nd (pd_lst (pds_cons (pd_isX (List.mem_cons_self) hE T.xa_InvalidText (.own _) T.kt_InvalidText_BadValue (pd_v 0) (pe_glob rfl T.g_BadValue rfl) T.n_isinstance) (pds_cons (pd_isX (List.mem_cons_self) hE T.xa_InvalidText (.own _) T.kt_InvalidText_BadName (pd_v 0) (pe_glob rfl T.g_BadName rfl) T.n_isinstance) (pds_cons (pd_isX (List.mem_cons_self) hE T.xa_InvalidText (.own _) T.kt_InvalidText_NoAnswer (pd_v 0) (pe_glob rfl T.g_NoAnswer rfl) T.n_isinstance) pds_nil))))) (psd_cons (psd_set (i := 4) sc__law_sort.nd (pd_lst (pds_cons (pd_isX (List.mem_cons_self) hE T.xa_InvalidText (.ty "ValueError") T.kt_InvalidText_ValueError (pd_v 0) (pe_bltn rfl T.n_ValueError (by decide +kernel) rfl) T.n_isinstance) (pds_cons (pd_isX (List.mem_cons_self) hE T.xa_InvalidText (.ty "LookupError") T.kt_InvalidText_LookupError (pd_v 0) (pe_bltn rfl T.n_LookupError (by decide +kernel) rfl) T.n_isinstance) (pds_cons (pd_isX (List.mem_cons_self) hE T.xa_InvalidText (.ty "ArithmeticError") T.kt_InvalidText_ArithmeticError (pd_v 0) (pe_bltn rfl T.n_ArithmeticError (by decide +kernel) rfl) T.n_isinstance) pds_nil))))) (psd_cons (psd_if (PDw.pt (pdw_or (pdt_neU (hotU hr) (pd_v 3) (pd_lst (pds_cons (pd_lt (pd_v 2) pd_int) (pds_cons (pd_inU (hotU hr) (pd_v 2) (pd_lst (pds_cons pd_int (pds_cons pd_int pds_nil)))) (pds_cons (pd_gt (pd_v 2) pd_int) pds_nil))))) (pdw_or1 (pdt_neU (hotU hr) (pd_v 4) (pd_v 3))))) (psd_one (psd_ret pd_str)) psd_nil) (psd_one (psd_ret (pd_ix (pd_callE0 (ok__law_sorts T) (hr.mono (by decide)) (List.mem_cons_self) T.g__law_sorts T.F__law_sorts.kp T.b__law_sorts) (pd_v 2)))))))))))))))), ?_⟩
  rintro c ds Φ hc - ⟨dd', ns', fs', hE', rfl, hx, hΦ⟩
  have e : dd' = dd := Option.some.inj (hE'.dict.symm.trans hE.dict)
  subst e
  cases c with
  | cons _ _ => cases hc
  | nil =>
  conv => whnf
  refine ⟨⟨_, _, _, rfl⟩, ?_⟩
  conv => whnf
  refine ⟨⟨_, _, _, rfl⟩, ?_⟩
  conv => whnf
  refine ⟨⟨_, _, _, rfl⟩, ?_⟩
  conv => whnf

  refine ⟨by show 3 ≤ sizeLine; decide, ?_⟩

  conv => whnf
  refine ⟨⟨_, _, _, rfl⟩, ?_⟩
  conv => whnf
  refine ⟨⟨_, _, _, rfl⟩, ?_⟩
  conv => whnf
  refine ⟨⟨_, _, _, rfl⟩, ?_⟩
  conv => whnf

  refine ⟨by show 3 ≤ sizeLine; decide, ?_⟩

  conv => whnf
  refine ⟨by show 3 + 3 ≤ sizeLine; decide, ?_⟩
  conv => whnf
  refine ⟨⟨_, _, _, rfl⟩, ?_⟩
  conv => whnf
  refine ⟨⟨_, _, _, rfl⟩, ?_⟩
  conv => whnf
  refine ⟨⟨_, _, _, rfl⟩, ?_⟩
  conv => whnf

  refine ⟨by show 3 ≤ sizeLine; decide, ?_⟩

  conv => whnf
  refine ⟨by show 6 + 3 ≤ sizeLine; decide, ?_⟩
  conv => whnf
  refine ⟨⟨_, _, _, rfl⟩, ?_⟩
  conv => whnf
  refine ⟨⟨_, _, _, rfl⟩, ?_⟩
  conv => whnf
  refine ⟨⟨_, _, _, rfl⟩, ?_⟩
  conv => whnf

  refine ⟨by show 3 ≤ sizeLine; decide, ?_⟩

  conv => whnf
  refine ⟨by show 9 + 3 ≤ sizeLine; decide, ?_⟩
  conv => whnf
  refine ⟨⟨_, _, _, rfl⟩, ?_⟩
  conv => whnf
  refine ⟨⟨_, _, _, rfl⟩, ?_⟩
  conv => whnf
  refine ⟨⟨_, _, _, rfl⟩, ?_⟩
  conv => whnf

  refine ⟨by show 3 ≤ sizeLine; decide, ?_⟩

  conv => whnf
  refine ⟨by show 12 + 3 ≤ sizeLine; decide, ?_⟩
  conv => whnf
  refine ⟨⟨_, _, _, rfl⟩, ?_⟩
  conv => whnf
  refine ⟨⟨_, _, _, rfl⟩, ?_⟩
  conv => whnf
  refine ⟨⟨_, _, _, rfl⟩, ?_⟩
  conv => whnf

  refine ⟨by show 3 ≤ sizeLine; decide, ?_⟩

  conv => whnf
  refine ⟨by show 15 + 3 ≤ sizeLine; decide, ?_⟩
  conv => whnf
  refine ⟨⟨_, _, _, rfl⟩, ?_⟩
  conv => whnf
  refine ⟨⟨_, _, _, rfl⟩, ?_⟩
  conv => whnf
  refine ⟨⟨_, _, _, rfl⟩, ?_⟩
  conv => whnf

  refine ⟨by show 3 ≤ sizeLine; decide, ?_⟩

  conv => whnf
  refine ⟨by show 18 + 3 ≤ sizeLine; decide, ?_⟩
  conv => whnf
  refine ⟨fits, rfl, ?_⟩
  conv => whnf
  refine ⟨true, rfl, ?_⟩
  conv => whnf
  refine ⟨fits, rfl, ?_⟩
  conv => whnf
  refine ⟨true, 0, rfl, rfl, ?_⟩
  conv => whnf
  refine ⟨⟨_, _, _, rfl⟩, ?_⟩
  conv => whnf
  refine ⟨⟨_, _, _, rfl⟩, ?_⟩
  conv => whnf
  refine ⟨⟨_, _, _, rfl⟩, ?_⟩
  conv => whnf

  refine ⟨by show 3 ≤ sizeLine; decide, ?_⟩

  conv => whnf
  refine ⟨⟨_, _, _, rfl⟩, ?_⟩
  conv => whnf
  refine ⟨⟨_, _, _, rfl⟩, ?_⟩
  conv => whnf
  refine ⟨⟨_, _, _, rfl⟩, ?_⟩
  conv => whnf

  refine ⟨by show 3 ≤ sizeLine; decide, ?_⟩

  conv => whnf
  refine ⟨by show 2 ≤ sizeLine; decide, ?_⟩
  conv => whnf
  refine .inl ⟨_, rfl, rfl, rfl, ?_⟩
  conv => whnf
  refine ⟨by show 3 ≤ sizeLine; decide, ?_⟩
  conv => whnf
  refine ⟨_, _, rfl, rfl, rfl, rfl, ?_⟩
  conv => whnf
  refine ⟨_, _, rfl, rfl, rfl, rfl, ?_⟩
  conv => whnf
  refine ⟨rfl, rfl, rfl, ?_⟩
  conv => whnf
  exact hΦ
set_option maxHeartbeats 8000000 in
theorem ok__law_told (T : Tx K mg) : FnE P w K mg base 1 T.a__law_told T.d__law_told ["_law_e", "_law_word_here"] (spE K 0 2 (S__law_told T.C_InvalidText)) := by
  refine fnED T.F__law_told sc__law_told fun cdv A outer s H E p hr ⟨_, _, _, dd, fs, hE, _⟩ => ⟨_, (psd_cons (psd_if (pdt_eqU (hotU hr) (pd_v 1) pd_str) (psd_one (psd_ret (pd_tup (pds_cons (pd_xf (List.mem_cons_self) hE T.xa_InvalidText T.no_InvalidText_index (pd_v 0)) (pds_cons (pd_xf (List.mem_cons_self) hE T.xa_InvalidText T.no_InvalidText_shown (pd_v 0)) pds_nil))))) psd_nil) (psd_cons (psd_if (pdt_inU (hotU hr) (pd_v 1) (pd_lst (pds_cons pd_str (pds_cons pd_str (pds_cons pd_str (pds_cons pd_str (pds_cons pd_str (pds_cons pd_str pds_nil)))))))) (psd_one (psd_ret (pd_tup (pds_cons (pd_xf (List.mem_cons_self) hE T.xa_InvalidText T.no_InvalidText_index (pd_v 0)) pds_nil)))) psd_nil) (psd_cons (psd_if (pdt_eqU (hotU hr) (pd_v 1) pd_str) (psd_one (psd_ret (pd_tup (pds_cons (pd_xf (List.mem_cons_self) hE T.xa_InvalidText T.no_InvalidText_limit (pd_v 0)) pds_nil)))) psd_nil) (psd_one (psd_ret (pd_if (pdt_inU (hotU hr) (pd_v 1) (pd_lst (pds_cons pd_str (pds_cons pd_str (pds_cons pd_str pds_nil))))) (pd_tup pds_nil) (pd_tup (pds_cons (pd_xf (List.mem_cons_self) hE T.xa_InvalidText T.no_InvalidText_given (pd_v 0)) pds_nil)))))))), ?_⟩
  rintro c ds Φ hc - ⟨dd', x, hE', rfl, hx, hΦ⟩
  have e : dd' = dd := Option.some.inj (hE'.dict.symm.trans hE.dict)
  subst e
  cases c with
  | cons _ _ => cases hc
  | nil =>
  conv => whnf
  refine ⟨by show 6 ≤ sizeLine; decide, ?_⟩
  conv => whnf
  refine .inl ⟨_, rfl, rfl, rfl, ?_⟩
  rw [show inF (.str "bad text") [.str "bad sizes", .str "bad filling", .str "bad names", .str "bad lines", .str "in use", .str "not asked"] = false by decide]
  conv => whnf
  refine ⟨by show 3 ≤ sizeLine; decide, ?_⟩
  conv => whnf
  refine .inl ⟨_, rfl, rfl, rfl, ?_⟩
  rw [show inF (.str "bad text") [.str "other letters", .str "no undo", .str "odd"] = false by decide]
  conv => whnf
  refine ⟨_, _, _, _, rfl, rfl, ?_⟩
  refine ⟨by show 1 ≤ sizeLine; decide, ?_⟩
  conv => whnf
  exact hΦ

end
end K03

namespace K03
open PySem PySem.Spec PyProof.Rows L2 Cw
section
variable {P : Program} {w : World} {K : PySem.W.Frag} {mg : Str → Option Value} {base : Heap}
set_option maxHeartbeats 8000000 in
theorem okw_signs_of (T : Tx K mg) : FnOk P w K mg base CX0 2 T.a_signs_of T.d_signs_of ["line"] (spD K 0 1 S_signs_ofW) := by
  refine fnD T.F_signs_of sc_signs_of fun cdv A outer s H E hr => ⟨_, (psd_cons (psd_set (i := 1) sc_signs_of.nd (pd_split (pd_v 0) pd_str)) (psd_cons (psd_if (PDw.pt (pdw_or (pdt_ne hr (pd_len (pd_v 1) T.n_len) pd_int) (pdw_or (pdt_ne hr (pd_ix (pd_v 1) pd_int) pd_str) (pdw_or1 (pdt_not (pdt_val (pd_callP (ok_is_letters T) (hr.mono (by decide)) T.g_is_letters T.F_is_letters.kp T.b_is_letters pass0 (pds_cons (pd_ix (pd_v 1) pd_int) (pds_cons (pd_gi T.c_MOST_SIGNS) pds_nil))))))))) (psd_one (psd_ret pd_non)) psd_nil) (psd_one (psd_ret (pd_ix (pd_v 1) pd_int))))), ?_⟩
  rintro c ds Φ hc - ⟨t, rfl, ht, hΦ⟩
  cases c with
  | cons _ _ => cases hc
  | nil =>
  have sp := good_split (y := " ") ht (by decide) (by decide +kernel)
  have ht1 := ht.1
  conv => whnf
  refine ⟨_, rfl, ?_⟩
  conv => whnf
  refine ⟨rfl, short (by omega), ?_⟩
  conv => whnf
  unfold signsOf at hΦ
  rw [show Txt.split t " " = Txt.split t (Str.ofString " ") from rfl] at hΦ
  generalize Txt.split t (Str.ofString " ") = ws at hΦ sp ⊢
  rcases ws with _ | ⟨a, _ | ⟨b, _ | ⟨d, r⟩⟩⟩
  · conv => whnf
    exact hΦ
  · conv => whnf
    exact hΦ
  · have gb := (sp.1 b (by simp)).1
    have hΦ : Φ (optS (if a = "signs" ∧ isLet b 5 = true then some b else none)) [] := hΦ
    conv => whnf
    by_cases h1 : a = "signs"
    case neg =>
      rw [if_neg (fun z => h1 z.1)] at hΦ
      rw [if_pos rfl, decide_eq_false (show ¬ a = Str.ofString "signs" from h1)]
      conv => whnf
      exact hΦ
    rw [if_pos rfl, decide_eq_true (show a = Str.ofString "signs" from h1)]
    conv => whnf
    refine ⟨rfl, rfl, b, _, rfl, Nat.le_trans gb (by decide), ?_⟩
    cases h2 : isLet b 5 with
    | false =>
      rw [if_neg (fun z => by rw [h2] at z; cases z.2)] at hΦ
      conv => whnf
      exact hΦ
    | true =>
      rw [if_pos ⟨h1, h2⟩] at hΦ
      conv => whnf
      exact hΦ
  · rw [if_pos rfl, decide_eq_false (by rw [List.length_map]; show ¬ ((r.length + 1 + 1 + 1 : Nat) : Int) = 2; omega)]
    conv => whnf
    exact hΦ
set_option maxHeartbeats 8000000 in
theorem okw_piece_of (T : Tx K mg) : FnOk P w K mg base CX0 3 T.a_piece_of T.d_piece_of ["line", "states"] (spD K 0 2 S_piece_ofW) := by
  refine fnD T.F_piece_of sc_piece_of fun cdv A outer s H E hr => ⟨_, (psd_cons (psd_set (i := 2) sc_piece_of.nd (pd_split (pd_v 0) pd_str)) (psd_cons (psd_if (PDw.pt (pdw_or (pdt_ne hr (pd_len (pd_v 2) T.n_len) pd_int) (pdw_or1 (pdt_ne hr (pd_lst (pds_cons (pd_ix (pd_v 2) pd_int) (pds_cons (pd_ix (pd_v 2) pd_int) (pds_cons (pd_ix (pd_v 2) pd_int) pds_nil)))) (pd_lst (pds_cons pd_str (pds_cons pd_str (pds_cons pd_str pds_nil)))))))) (psd_one (psd_ret pd_non)) psd_nil) (psd_cons (psd_asg (pd_sl (pd_v 2) (po_so pd_int) (po_so pd_int)) (pgd_lst rfl (pgds_cons (pgd_name (i := 3) sc_piece_of.nd) (pgds_cons (pgd_name (i := 4) sc_piece_of.nd) (pgds_cons (pgd_name (i := 5) sc_piece_of.nd) pgds_nil))))) (psd_cons (psd_set (i := 6) sc_piece_of.nd (pd_callP (ok_number_of T) (hr.mono (by decide)) T.g_number_of T.F_number_of.kp T.b_number_of pass0 (pds_cons (pd_ix (pd_v 2) pd_int) (pds_cons pd_int (pds_cons (pd_gi T.c_MOST_LONG) pds_nil))))) (psd_cons (psd_set (i := 7) sc_piece_of.nd (pd_callP (ok_number_of T) (hr.mono (by decide)) T.g_number_of T.F_number_of.kp T.b_number_of pass0 (pds_cons (pd_ix (pd_v 2) pd_int) (pds_cons pd_int (pds_cons (pd_gi T.c_MOST_COST) pds_nil))))) (psd_cons (psd_if (PDw.pt (pdw_or (pdt_not (pdt_val (pd_callP (ok_is_word T) (hr.mono (by decide)) T.g_is_word T.F_is_word.kp T.b_is_word pass0 (pds_cons (pd_v 3) pds_nil)))) (pdw_or (pdt_nin hr (pd_v 4) (pd_v 1)) (pdw_or (pdt_nin hr (pd_v 5) (pd_v 1)) (pdw_or (pdt_isn (pd_v 6) pd_non) (pdw_or1 (pdt_isn (pd_v 7) pd_non))))))) (psd_one (psd_ret pd_non)) psd_nil) (psd_one (psd_ret (pd_tup (pds_cons (pd_v 3) (pds_cons (pd_v 4) (pds_cons (pd_v 5) (pds_cons (pd_v 6) (pds_cons (pd_v 7) pds_nil)))))))))))))), ?_⟩
  rintro c ds Φ hc - ⟨t, n, rfl, hn, ht, hΦ⟩
  cases c with
  | cons _ _ => cases hc
  | nil =>
  have sp := good_split (y := " ") ht (by decide) (by decide +kernel)
  have ht1 := ht.1
  conv => whnf
  refine ⟨_, rfl, ?_⟩
  conv => whnf
  refine ⟨rfl, short (by omega), ?_⟩
  conv => whnf
  unfold pieceO at hΦ
  rw [show Txt.split t " " = Txt.split t (Str.ofString " ") from rfl] at hΦ
  generalize Txt.split t (Str.ofString " ") = ws at hΦ sp ⊢
  rcases ws with _ | ⟨a, _ | ⟨nm, _ | ⟨b, _ | ⟨e, _ | ⟨lo, _ | ⟨l, _ | ⟨co, _ | ⟨cc, _ | ⟨z, r⟩⟩⟩⟩⟩⟩⟩⟩⟩
  · conv => whnf
    exact hΦ
  · conv => whnf
    exact hΦ
  · conv => whnf
    exact hΦ
  · conv => whnf
    exact hΦ
  · conv => whnf
    exact hΦ
  · conv => whnf
    exact hΦ
  · conv => whnf
    exact hΦ
  · conv => whnf
    exact hΦ
  · have gw : ∀ x ∈ [a, nm, b, e, lo, l, co, cc], goodT 36000 x := sp.1
    have okw : ∀ x ∈ [a, nm, b, e, lo, l, co, cc], PyData.strOk x = true := fun x hx => strOk_of (gw x hx).2
    have lenw : ∀ x ∈ [a, nm, b, e, lo, l, co, cc], x.length ≤ 50000 := fun x hx => Nat.le_trans (gw x hx).1 (by decide)
    conv => whnf
    refine ⟨by show 3 ≤ sizeLine; decide, ?_⟩
    conv => whnf
    refine ⟨by show 3 ≤ sizeLine; decide, ?_⟩
    conv => whnf
    refine ⟨_, _, rfl, rfl, ?_, by decide +kernel, ?_⟩
    · show ((PyData.strOk a && (PyData.strOk lo && (PyData.strOk co && true))) && _) = true
      rw [okw a (by simp), okw lo (by simp), okw co (by simp)]; rfl
    rw [eqv3]
    have hΦ : Φ (optP (if a = "piece" ∧ lo = "long" ∧ co = "cost" ∧ isLet nm 8 = true then
      match stOf n b, stOf n e, numberOf l 1 6, numberOf cc 0 9 with
      | some x, some y, some l, some c => some ⟨nm, x.1, x.2, y.1, y.2, l.toNat, c.toNat⟩
      | _, _, _, _ => none
    else none)) [] := hΦ
    by_cases h3 : a = "piece" ∧ lo = "long" ∧ co = "cost"
    case neg =>
      rw [if_neg (fun z => h3 ⟨z.1, z.2.1, z.2.2.1⟩)] at hΦ
      rw [if_pos rfl, decide_eq_false (show ¬ (a = Str.ofString "piece" ∧ lo = Str.ofString "long" ∧ co = Str.ofString "cost") from h3)]
      conv => whnf
      exact hΦ
    rw [if_pos rfl, decide_eq_true (show a = Str.ofString "piece" ∧ lo = Str.ofString "long" ∧ co = Str.ofString "cost" from h3)]
    conv => whnf
    refine ⟨rfl, ?_⟩
    conv => whnf
    refine ⟨rfl, rfl, rfl, l, 1, 6, rfl, lenw l (by simp), ?_⟩
    have bad : (isLet nm 8 = false ∨ stOf n b = none ∨ stOf n e = none ∨ numberOf l 1 6 = none ∨ numberOf cc 0 9 = none) → Φ .non [] := fun z => by
      by_cases hl : isLet nm 8 = true
      · rw [if_pos ⟨h3.1, h3.2.1, h3.2.2, hl⟩] at hΦ
        generalize stOf n b = o1 at z hΦ
        generalize stOf n e = o2 at z hΦ
        generalize numberOf l 1 6 = o3 at z hΦ
        generalize numberOf cc 0 9 = o4 at z hΦ
        rcases z with z | z | z | z | z
        · rw [hl] at z; cases z
        all_goals (subst z; first | exact hΦ | (cases o1 <;> first | exact hΦ | (cases o2 <;> first | exact hΦ | (cases o3 <;> exact hΦ))))
      · rw [if_neg (fun z => hl z.2.2.2)] at hΦ
        exact hΦ
    have tail : ∀ d6 d7 : D, d6 = optI (numberOf l 1 6) → d7 = optI (numberOf cc 0 9) → (d6 = .non ∨ ∃ i, d6 = .int i) → (d7 = .non ∨ ∃ i, d7 = .int i) → (dSeq
                    (dIfS
                      (dOr (dNot (dT (dCallP S_is_word 1 (dCons (dVar 3) dNil))))
                        (dOr (dT (dBin (fIn true) (dVar 4) (dVar 1)))
                          (dOr (dT (dBin (fIn true) (dVar 5) (dVar 1)))
                            (dOr (dT (dBin (fIsN false) (dVar 6) (dC .non)))
                              (dT (dBin (fIsN false) (dVar 7) (dC .non)))))))
                      (dRet (dC .non)) dNext)
                    (dRet
                      (dTup
                        (dCons (dVar 3) (dCons (dVar 4) (dCons (dVar 5) (dCons (dVar 6) (dCons (dVar 7) dNil))))))))
            ⟨fun x c' => retD 0 Φ .non c', retD 0 Φ, fun _ _ => False, fun _ _ => False⟩
            [some (.str t), some (stD n), some (.lst ([a, nm, b, e, lo, l, co, cc].map .str)), some (.str nm), some (.str b), some (.str e), some d6, some d7] [] := fun d6 d7 e6 e7 o6 o7 => by
      conv => whnf
      refine ⟨rfl, rfl, nm, rfl, lenw nm (by simp), ?_⟩
      cases hl : isLet nm 8 with
      | false =>
        conv => whnf
        exact bad (.inl hl)
      | true =>
      conv => whnf
      refine .inl ⟨_, rfl, rfl, txt_flat _, ?_⟩
      rw [show inF (.str b) ((stL n).map .str) = decide (b ∈ stL n) from inF_strs b (stL n), stOf_mem]
      cases h1 : stOf n b with
      | none =>
        conv => whnf
        exact bad (.inr (.inl h1))
      | some x =>
      conv => whnf
      refine .inl ⟨_, rfl, rfl, txt_flat _, ?_⟩
      rw [show inF (.str e) ((stL n).map .str) = decide (e ∈ stL n) from inF_strs e (stL n), stOf_mem]
      cases h2 : stOf n e with
      | none =>
        conv => whnf
        exact bad (.inr (.inr (.inl h2)))
      | some y =>
      conv => whnf
      cases h4 : numberOf l 1 6 with
      | none =>
        rw [h4] at e6; subst e6
        conv => whnf
        exact bad (.inr (.inr (.inr (.inl h4))))
      | some u =>
      rw [h4] at e6; subst e6
      conv => whnf
      cases h5 : numberOf cc 0 9 with
      | none =>
        rw [h5] at e7; subst e7
        conv => whnf
        exact bad (.inr (.inr (.inr (.inr h5))))
      | some v =>
      rw [h5] at e7; subst e7
      conv => whnf
      refine ⟨by show 5 ≤ sizeLine; decide, ?_⟩
      conv => whnf
      rw [if_pos ⟨h3.1, h3.2.1, h3.2.2, hl⟩, h1, h2, h4, h5] at hΦ
      have hΦ : Φ (.tup [.str nm, .str (stS x.1 x.2), .str (stS y.1 y.2), .int ((u.toNat : Nat) : Int), .int ((v.toNat : Nat) : Int)]) [] := hΦ
      obtain ⟨_, q2⟩ := stOf_some h1
      obtain ⟨_, q4⟩ := stOf_some h2
      obtain ⟨q5, _⟩ := num_some h4
      obtain ⟨q6, _⟩ := num_some h5
      rw [← q2, ← q4, Int.toNat_of_nonneg (by omega), Int.toNat_of_nonneg (by omega)] at hΦ
      exact hΦ
    have opn : ∀ o : Option Int, optI o = .non ∨ ∃ i, optI o = .int i := fun o => by
      cases o with
      | none => exact .inl rfl
      | some i => exact .inr ⟨i, rfl⟩
    have o6 := opn (numberOf l 1 6)
    generalize e6 : optI (numberOf l 1 6) = d6 at o6 ⊢
    conv => whnf
    refine ⟨rfl, rfl, cc, 0, 9, rfl, lenw cc (by simp), ?_⟩
    exact tail d6 _ e6.symm rfl o6 (opn _)
  · rw [if_pos rfl, decide_eq_false (by rw [List.length_map]; show ¬ ((r.length + 1 + 1 + 1 + 1 + 1 + 1 + 1 + 1 + 1 : Nat) : Int) = 8; omega)]
    conv => whnf
    exact hΦ
set_option maxHeartbeats 8000000 in
theorem okw_corner_of (T : Tx K mg) : FnOk P w K mg base CX0 3 T.a_corner_of T.d_corner_of ["line", "states"] (spD K 0 2 S_corner_ofW) := by
  refine fnD T.F_corner_of sc_corner_of fun cdv A outer s H E hr => ⟨_, (psd_cons (psd_set (i := 2) sc_corner_of.nd (pd_split (pd_v 0) pd_str)) (psd_cons (psd_if (PDw.pt (pdw_or (pdt_ne hr (pd_len (pd_v 2) T.n_len) pd_int) (pdw_or1 (pdt_ne hr (pd_lst (pds_cons (pd_ix (pd_v 2) pd_int) (pds_cons (pd_ix (pd_v 2) pd_int) pds_nil))) (pd_lst (pds_cons pd_str (pds_cons pd_str pds_nil))))))) (psd_one (psd_ret pd_non)) psd_nil) (psd_cons (psd_asg (pd_sl (pd_v 2) (po_so pd_int) (po_so pd_int)) (pgd_lst rfl (pgds_cons (pgd_name (i := 3) sc_corner_of.nd) (pgds_cons (pgd_name (i := 4) sc_corner_of.nd) (pgds_cons (pgd_name (i := 5) sc_corner_of.nd) (pgds_cons (pgd_name (i := 6) sc_corner_of.nd) pgds_nil)))))) (psd_cons (psd_set (i := 7) sc_corner_of.nd (pd_callP (ok_number_of T) (hr.mono (by decide)) T.g_number_of T.F_number_of.kp T.b_number_of pass0 (pds_cons (pd_ix (pd_v 2) pd_int) (pds_cons pd_int (pds_cons (pd_gi T.c_MOST_COST) pds_nil))))) (psd_cons (psd_if (PDw.pt (pdw_or (pdt_not (pdt_val (pd_callP (ok_is_word T) (hr.mono (by decide)) T.g_is_word T.F_is_word.kp T.b_is_word pass0 (pds_cons (pd_v 3) pds_nil)))) (pdw_or (pdt_nin hr (pd_v 4) (pd_gtt T.c_TURNS)) (pdw_or (pdt_nin hr (pd_v 5) (pd_v 1)) (pdw_or (pdt_nin hr (pd_v 6) (pd_v 1)) (pdw_or1 (pdt_isn (pd_v 7) pd_non))))))) (psd_one (psd_ret pd_non)) psd_nil) (psd_one (psd_ret (pd_tup (pds_cons (pd_v 3) (pds_cons (pd_v 4) (pds_cons (pd_v 5) (pds_cons (pd_v 6) (pds_cons (pd_v 7) pds_nil))))))))))))), ?_⟩
  rintro c ds Φ hc - ⟨t, n, rfl, hn, ht, hΦ⟩
  cases c with
  | cons _ _ => cases hc
  | nil =>
  have sp := good_split (y := " ") ht (by decide) (by decide +kernel)
  have ht1 := ht.1
  conv => whnf
  refine ⟨_, rfl, ?_⟩
  conv => whnf
  refine ⟨rfl, short (by omega), ?_⟩
  conv => whnf
  unfold cornerO at hΦ
  rw [show Txt.split t " " = Txt.split t (Str.ofString " ") from rfl] at hΦ
  generalize Txt.split t (Str.ofString " ") = ws at hΦ sp ⊢
  rcases ws with _ | ⟨a, _ | ⟨nm, _ | ⟨o, _ | ⟨b, _ | ⟨e, _ | ⟨co, _ | ⟨cc, _ | ⟨z, r⟩⟩⟩⟩⟩⟩⟩⟩
  · conv => whnf
    exact hΦ
  · conv => whnf
    exact hΦ
  · conv => whnf
    exact hΦ
  · conv => whnf
    exact hΦ
  · conv => whnf
    exact hΦ
  · conv => whnf
    exact hΦ
  · conv => whnf
    exact hΦ
  · have gw : ∀ x ∈ [a, nm, o, b, e, co, cc], goodT 36000 x := sp.1
    have okw : ∀ x ∈ [a, nm, o, b, e, co, cc], PyData.strOk x = true := fun x hx => strOk_of (gw x hx).2
    have lenw : ∀ x ∈ [a, nm, o, b, e, co, cc], x.length ≤ 50000 := fun x hx => Nat.le_trans (gw x hx).1 (by decide)
    conv => whnf
    refine ⟨by show 2 ≤ sizeLine; decide, ?_⟩
    conv => whnf
    refine ⟨by show 2 ≤ sizeLine; decide, ?_⟩
    conv => whnf
    refine ⟨_, _, rfl, rfl, ?_, by decide +kernel, ?_⟩
    · show ((PyData.strOk a && (PyData.strOk co && true)) && _) = true
      rw [okw a (by simp), okw co (by simp)]; rfl
    rw [eqv2]
    have hΦ : Φ (optJ (if a = "corner" ∧ co = "cost" ∧ isLet nm 8 = true then
      match bendO o, stOf n b, stOf n e, numberOf cc 0 9 with
      | some o, some x, some y, some c => some ⟨nm, o, x.1, x.2, y.1, y.2, c.toNat⟩
      | _, _, _, _ => none
    else none)) [] := hΦ
    by_cases h3 : a = "corner" ∧ co = "cost"
    case neg =>
      rw [if_neg (fun z => h3 ⟨z.1, z.2.1⟩)] at hΦ
      rw [if_pos rfl, decide_eq_false (show ¬ (a = Str.ofString "corner" ∧ co = Str.ofString "cost") from h3)]
      conv => whnf
      exact hΦ
    rw [if_pos rfl, decide_eq_true (show a = Str.ofString "corner" ∧ co = Str.ofString "cost" from h3)]
    conv => whnf
    refine ⟨rfl, ?_⟩
    conv => whnf
    refine ⟨rfl, rfl, rfl, cc, 0, 9, rfl, lenw cc (by simp), ?_⟩
    have bad : (isLet nm 8 = false ∨ bendO o = none ∨ stOf n b = none ∨ stOf n e = none ∨ numberOf cc 0 9 = none) → Φ .non [] := fun z => by
      by_cases hl : isLet nm 8 = true
      · rw [if_pos ⟨h3.1, h3.2, hl⟩] at hΦ
        generalize bendO o = o1 at z hΦ
        generalize stOf n b = o2 at z hΦ
        generalize stOf n e = o3 at z hΦ
        generalize numberOf cc 0 9 = o4 at z hΦ
        rcases z with z | z | z | z | z
        · rw [hl] at z; cases z
        all_goals (subst z; first | exact hΦ | (cases o1 <;> first | exact hΦ | (cases o2 <;> first | exact hΦ | (cases o3 <;> exact hΦ))))
      · rw [if_neg (fun z => hl z.2.2)] at hΦ
        exact hΦ
    have tail : ∀ d7 : D, d7 = optI (numberOf cc 0 9) → (d7 = .non ∨ ∃ i, d7 = .int i) → (dSeq
                    (dIfS
                      (dOr (dNot (dT (dCallP S_is_word 1 (dCons (dVar 3) dNil))))
                        (dOr (dT (dBin (fIn true) (dVar 4) (dC (.tup ((["out", "in"] : List Str).map .str)))))
                          (dOr (dT (dBin (fIn true) (dVar 5) (dVar 1)))
                            (dOr (dT (dBin (fIn true) (dVar 6) (dVar 1)))
                              (dT (dBin (fIsN false) (dVar 7) (dC .non)))))))
                      (dRet (dC .non)) dNext)
                    (dRet
                      (dTup
                        (dCons (dVar 3) (dCons (dVar 4) (dCons (dVar 5) (dCons (dVar 6) (dCons (dVar 7) dNil))))))))
            ⟨fun x c' => retD 0 Φ .non c', retD 0 Φ, fun _ _ => False, fun _ _ => False⟩
            [some (.str t), some (stD n), some (.lst ([a, nm, o, b, e, co, cc].map .str)), some (.str nm), some (.str o), some (.str b), some (.str e), some d7] [] := fun d7 e7 o7 => by
      conv => whnf
      refine ⟨rfl, rfl, nm, rfl, lenw nm (by simp), ?_⟩
      cases hl : isLet nm 8 with
      | false =>
        conv => whnf
        exact bad (.inl hl)
      | true =>
      conv => whnf
      refine .inl ⟨_, rfl, rfl, txt_flat _, ?_⟩
      rw [show inF (.str o) ((["out", "in"] : List Str).map .str) = decide (o ∈ (["out", "in"] : List Str)) from inF_strs o ["out", "in"], bend_mem]
      cases h0 : bendO o with
      | none =>
        conv => whnf
        exact bad (.inr (.inl h0))
      | some ob =>
      conv => whnf
      refine .inl ⟨_, rfl, rfl, txt_flat _, ?_⟩
      rw [show inF (.str b) ((stL n).map .str) = decide (b ∈ stL n) from inF_strs b (stL n), stOf_mem]
      cases h1 : stOf n b with
      | none =>
        conv => whnf
        exact bad (.inr (.inr (.inl h1)))
      | some x =>
      conv => whnf
      refine .inl ⟨_, rfl, rfl, txt_flat _, ?_⟩
      rw [show inF (.str e) ((stL n).map .str) = decide (e ∈ stL n) from inF_strs e (stL n), stOf_mem]
      cases h2 : stOf n e with
      | none =>
        conv => whnf
        exact bad (.inr (.inr (.inr (.inl h2))))
      | some y =>
      conv => whnf
      cases h5 : numberOf cc 0 9 with
      | none =>
        rw [h5] at e7; subst e7
        conv => whnf
        exact bad (.inr (.inr (.inr (.inr h5))))
      | some v =>
      rw [h5] at e7; subst e7
      conv => whnf
      refine ⟨by show 5 ≤ sizeLine; decide, ?_⟩
      conv => whnf
      rw [if_pos ⟨h3.1, h3.2, hl⟩, h0, h1, h2, h5] at hΦ
      have hΦ : Φ (.tup [.str nm, .str (bendS ob), .str (stS x.1 x.2), .str (stS y.1 y.2), .int ((v.toNat : Nat) : Int)]) [] := hΦ
      have q0 := bend_some h0
      obtain ⟨_, q2⟩ := stOf_some h1
      obtain ⟨_, q4⟩ := stOf_some h2
      obtain ⟨q6, _⟩ := num_some h5
      rw [← q0, ← q2, ← q4, Int.toNat_of_nonneg (by omega)] at hΦ
      exact hΦ
    have opn : ∀ o : Option Int, optI o = .non ∨ ∃ i, optI o = .int i := fun o => by
      cases o with
      | none => exact .inl rfl
      | some i => exact .inr ⟨i, rfl⟩
    exact tail _ rfl (opn _)
  · rw [if_pos rfl, decide_eq_false (by rw [List.length_map]; show ¬ ((r.length + 1 + 1 + 1 + 1 + 1 + 1 + 1 + 1 : Nat) : Int) = 7; omega)]
    conv => whnf
    exact hΦ
set_option maxHeartbeats 8000000 in
theorem okw_pieces_fit (T : Tx K mg) : FnOk P w K mg base CX0 2 T.a_pieces_fit T.d_pieces_fit ["pieces"] (spD K 0 1 S_pieces_fitW) := by
  refine fnD T.F_pieces_fit sc_pieces_fit fun cdv A outer s H E hr => ⟨_, (psd_cons (psd_if (PDw.pt (pdw_or (pdt_gt (pd_len (pd_v 0) T.n_len) (pd_gi T.c_MOST_PIECES)) (pdw_or1 (pdt_in hr pd_non (pd_v 0))))) (psd_one (psd_ret pd_bl)) psd_nil) (psd_one (psd_ret (pd_eq hr (pd_len (pd_callP (ok_names_of T) (hr.mono (by decide)) T.g_names_of T.F_names_of.kp T.b_names_of pass0 (pds_cons (pd_v 0) pds_nil)) T.n_len) (pd_len (pd_v 0) T.n_len))))), ?_⟩
  rintro c ds Φ hc - ⟨n, xs, rfl, hn, h1, h0⟩
  cases c with
  | cons _ _ => cases hc
  | nil =>
  obtain ⟨os, hos⟩ : ∃ os, os = xs.map (pieceO n) := ⟨_, rfl⟩
  have ed : piecesD n xs = .tup (os.map (opD Part.d')) := by
    show D.tup (xs.map fun x => optP (pieceO n x)) = _
    rw [hos, List.map_map]; rfl
  have hp : ∀ p, some p ∈ os → p.ok n := fun p h => by
    rw [hos] at h
    obtain ⟨x, _, hx⟩ := List.mem_map.mp h
    exact (piece_some hx).1
  rw [ed]
  conv => whnf
  by_cases h8 : os.length ≤ 8
  case neg =>
    rw [show (fun i j => decide (j < i)) (((os.map (opD Part.d')).length : Nat) : Int) 8 = true from decide_eq_true (by rw [List.length_map]; omega)]
    conv => whnf
    exact h0 fun ps hp => h8 (by have e := hp.1; rw [← hos] at e; rw [e, List.length_map]; exact hp.2.1)
  rw [show (fun i j => decide (j < i)) (((os.map (opD Part.d')).length : Nat) : Int) 8 = false from decide_eq_false (by rw [List.length_map]; omega)]
  conv => whnf
  refine .inr ⟨.none, _, _, rfl, rfl, pys_op d_part os, rfl, shaped_op (fun x hx => Part.lay (hp x hx) hn) (fun x _ => Nat.le_refl _), ?_⟩
  rw [any_op (fun _ => rfl)]
  cases en : os.any Option.isNone with
  | true =>
    conv => whnf
    exact h0 fun ps hp => by
      have e := hp.1
      rw [← hos] at e
      rw [e, some_all] at en; cases en
  | false =>
    obtain ⟨ps, rfl⟩ := all_some en
    rw [List.length_map] at h8
    have hps : ∀ p ∈ ps, p.ok n := fun p h => hp p (List.mem_map.mpr ⟨p, h, rfl⟩)
    have em : (ps.map some).map (opD Part.d') = ps.map Part.d' := by rw [List.map_map]; rfl
    rw [em]
    conv => whnf
    refine ⟨rfl, ok_parts ps, ps.map fun p => (p.t, [.str (stS p.i p.d), .str (stS p.j p.e), .int p.l, .int p.c]), by rw [List.map_map]; rfl, by rw [List.length_map]; omega, fun zs nd2 so mem => ?_⟩
    conv => whnf
    have mem' : ∀ x, x ∈ zs ↔ x ∈ ps.map (·.t) := fun x => by rw [mem x, List.map_map]; rfl
    have len := len_nodup nd2 mem'
    rw [List.length_map] at len
    rw [List.length_map, List.length_map]
    by_cases nd : (ps.map (·.t)).Nodup
    · rw [show decide ((zs.length : Int) = ps.length) = true from decide_eq_true (by have := len.mpr nd; omega)]
      exact h1 ps ⟨hos.symm, h8, nd⟩
    · rw [show decide ((zs.length : Int) = ps.length) = false from decide_eq_false (fun z => nd (len.mp (by omega)))]
      exact h0 fun ps' hp' => nd (by
        have e := some_inj (hos.trans hp'.1)
        rw [e]; exact hp'.2.2)
set_option maxHeartbeats 8000000 in
theorem okw_corners_fit (T : Tx K mg) : FnOk P w K mg base CX0 2 T.a_corners_fit T.d_corners_fit ["corners"] (spD K 0 1 S_corners_fitW) := by
  refine fnD T.F_corners_fit sc_corners_fit fun cdv A outer s H E hr => ⟨_, (psd_cons (psd_if (PDw.pt (pdw_or (pdt_gt (pd_len (pd_v 0) T.n_len) (pd_gi T.c_MOST_CORNERS)) (pdw_or1 (pdt_in hr pd_non (pd_v 0))))) (psd_one (psd_ret pd_bl)) psd_nil) (psd_one (psd_ret (pd_and (pd_eq hr (pd_lenSetW hr.units rfl (pd_v 0) T.n_len T.n_set) (pd_len (pd_v 0) T.n_len)) (pd_one (pd_le (pd_len (pd_callP (ok_names_of T) (hr.mono (by decide)) T.g_names_of T.F_names_of.kp T.b_names_of pass0 (pds_cons (pd_v 0) pds_nil)) T.n_len) (pd_gi T.c_MOST_NAMES))))))), ?_⟩
  rintro c ds Φ hc - ⟨n, xs, rfl, hn, h1, h0⟩
  cases c with
  | cons _ _ => cases hc
  | nil =>
  obtain ⟨os, hos⟩ : ∃ os, os = xs.map (cornerO n) := ⟨_, rfl⟩
  have ed : cornersD n xs = .tup (os.map (opD Joint.d')) := by
    show D.tup (xs.map fun x => optJ (cornerO n x)) = _
    rw [hos, List.map_map]; rfl
  have hp : ∀ p, some p ∈ os → p.ok n := fun p h => by
    rw [hos] at h
    obtain ⟨x, _, hx⟩ := List.mem_map.mp h
    exact (corner_some hx).1
  rw [ed]
  conv => whnf
  by_cases h12 : os.length ≤ 12
  case neg =>
    rw [show (fun i j => decide (j < i)) (((os.map (opD Joint.d')).length : Nat) : Int) 12 = true from decide_eq_true (by rw [List.length_map]; omega)]
    conv => whnf
    exact h0 fun ps hp => h12 (by have e := hp.1; rw [← hos] at e; rw [e, List.length_map]; exact hp.2.1)
  rw [show (fun i j => decide (j < i)) (((os.map (opD Joint.d')).length : Nat) : Int) 12 = false from decide_eq_false (by rw [List.length_map]; omega)]
  conv => whnf
  refine .inr ⟨.none, _, _, rfl, rfl, pys_op d_joint os, rfl, shaped_op (fun x hx => Joint.lay (hp x hx) hn) (fun x _ => Nat.le_refl _), ?_⟩
  rw [any_op (fun _ => rfl)]
  cases en : os.any Option.isNone with
  | true =>
    conv => whnf
    exact h0 fun ps hp => by
      have e := hp.1
      rw [← hos] at e
      rw [e, some_all] at en; cases en
  | false =>
    obtain ⟨js, rfl⟩ := all_some en
    rw [List.length_map] at h12
    have em : (js.map some).map (opD Joint.d') = (js.map Joint.k).map keyD := by rw [List.map_map, List.map_map]; rfl
    have one : ∀ js', fitJ n xs js' → js' = js := fun js' h => some_inj (h.1.symm.trans hos.symm)
    rw [em]
    conv => whnf
    refine ⟨js.map Joint.k, rfl, by rw [List.length_map]; omega, fun ls nd mem => ?_⟩
    have len := len_nodup nd mem
    rw [List.length_map] at len
    conv => whnf
    rw [List.length_map, List.length_map]
    by_cases ndj : (js.map Joint.k).Nodup
    case neg =>
      rw [show decide ((ls.length : Int) = js.length) = false from decide_eq_false (fun z => ndj (len.mp (by omega)))]
      conv => whnf
      exact h0 fun js' h' => ndj (by rw [← one js' h']; exact h'.2.2.1)
    rw [show decide ((ls.length : Int) = js.length) = true from decide_eq_true (by have := len.mpr ndj; omega)]
    conv => whnf
    have em2 : (js.map Joint.k).map keyD = js.map Joint.d' := by rw [List.map_map]; rfl
    rw [em2]
    refine ⟨rfl, ok_joints js, js.map fun p => (p.t, [.str (bendS p.o), .str (stS p.i p.d), .str (stS p.j p.e), .int p.c]), by rw [List.map_map]; rfl, by rw [List.length_map]; omega, fun zs nd2 so mem => ?_⟩
    have mem' : ∀ x, x ∈ zs ↔ x ∈ js.map (·.t) := fun x => by rw [mem x, List.map_map]; rfl
    conv => whnf
    rw [List.length_map]
    by_cases h4 : zs.length ≤ 4
    · rw [show (fun i j => decide (i ≤ j)) ((zs.length : Nat) : Int) 4 = true from decide_eq_true (by omega)]
      exact h1 js ⟨hos.symm, h12, ndj, zs, h4, fun p hpj => (mem' _).mpr (List.mem_map.mpr ⟨p, hpj, rfl⟩)⟩
    · rw [show (fun i j => decide (i ≤ j)) ((zs.length : Nat) : Int) 4 = false from decide_eq_false (by omega)]
      exact h0 fun js' h' => h4 (by
        obtain ⟨pool, hp4, hpool⟩ := h'.2.2.2
        rw [one js' h'] at hpool
        refine Nat.le_trans (nodup_sub nd2 fun x hx => ?_) hp4
        obtain ⟨p, hpj, e⟩ := List.mem_map.mp ((mem' x).mp hx)
        rw [← e]; exact hpool p hpj)
set_option maxHeartbeats 8000000 in
theorem okw_parts_of (T : Tx K mg) : FnOk P w K mg base CX0 4 T.a_parts_of T.d_parts_of ["text"] (spD K 0 1 S_parts_ofW) := by
  refine fnD T.F_parts_of sc_parts_of fun cdv A outer s H E hr => ⟨_, (psd_cons (psd_if (pdt_not (pdt_val (pd_isi isi_str (.ty "str") (pd_v 0) (pe_bltn rfl T.n_str (by decide +kernel) rfl) T.n_isinstance))) (psd_one (psd_ret pd_non)) psd_nil) (psd_cons (psd_set (i := 1) sc_parts_of.nd (pd_split (pd_v 0) pd_str)) (psd_cons (psd_set (i := 2) sc_parts_of.nd (pd_callP (okw_signs_of T) (hr.mono (by decide)) T.g_signs_of T.F_signs_of.kp T.b_signs_of pass0 (pds_cons (pd_ix (pd_v 1) pd_int) pds_nil))) (psd_cons (psd_if (pdt_isn (pd_v 2) pd_non) (psd_one (psd_ret pd_non)) psd_nil) (psd_cons (psd_set (i := 3) sc_parts_of.nd (pd_callP (ok_states_of T) (hr.mono (by decide)) T.g_states_of T.F_states_of.kp T.b_states_of pass0 (pds_cons (pd_v 2) pds_nil))) (psd_cons (psd_set (i := 4) sc_parts_of.nd (pd_add pd_int (pd_len (pd_lc (i := 7) rfl sc_parts_of.nd (pid_list (pd_sl (pd_v 1) (po_so pd_int) po_no)) (by kernel_rfl) (fun _ _ _ _ _ => pg_name (i := 7) sc_parts_of.nd rfl (Or.inl rfl)) (fun _ _ _ _ _ => (ptd_one (pdt_val (pd_starts (pd_v 7) pd_str)))) (fun _ _ _ _ _ => (pd_v 7))) T.n_len))) (psd_cons (psd_set (i := 5) sc_parts_of.nd (pd_tuplec (pd_lc (i := 7) rfl sc_parts_of.nd (pid_list (pd_sl (pd_v 1) (po_so pd_int) (po_so (pd_v 4)))) (by kernel_rfl) (fun _ _ _ _ _ => pg_name (i := 7) sc_parts_of.nd rfl (Or.inl rfl)) (fun _ _ _ _ _ => ptd_nil) (fun _ _ _ _ _ => (pd_callP (okw_piece_of T) (hr.mono (by decide)) T.g_piece_of T.F_piece_of.kp T.b_piece_of pass0 (pds_cons (pd_v 7) (pds_cons (pd_v 3) pds_nil))))) T.n_tuple)) (psd_cons (psd_set (i := 6) sc_parts_of.nd (pd_tuplec (pd_lc (i := 7) rfl sc_parts_of.nd (pid_list (pd_sl (pd_v 1) (po_so (pd_v 4)) po_no)) (by kernel_rfl) (fun _ _ _ _ _ => pg_name (i := 7) sc_parts_of.nd rfl (Or.inl rfl)) (fun _ _ _ _ _ => ptd_nil) (fun _ _ _ _ _ => (pd_callP (okw_corner_of T) (hr.mono (by decide)) T.g_corner_of T.F_corner_of.kp T.b_corner_of pass0 (pds_cons (pd_v 7) (pds_cons (pd_v 3) pds_nil))))) T.n_tuple)) (psd_cons (psd_if (PDw.pt (pdw_or (pdt_not (pdt_val (pd_callP (okw_pieces_fit T) (hr.mono (by decide)) T.g_pieces_fit T.F_pieces_fit.kp T.b_pieces_fit pass0 (pds_cons (pd_v 5) pds_nil)))) (pdw_or1 (pdt_not (pdt_val (pd_callP (okw_corners_fit T) (hr.mono (by decide)) T.g_corners_fit T.F_corners_fit.kp T.b_corners_fit pass0 (pds_cons (pd_v 6) pds_nil))))))) (psd_one (psd_ret pd_non)) psd_nil) (psd_one (psd_ret (pd_tup (pds_cons (pd_v 2) (pds_cons (pd_v 5) (pds_cons (pd_v 6) pds_nil))))))))))))))), ?_⟩
  rintro c ds Φ hc - ⟨d, rfl, ho, ht, h1, h0⟩
  cases c with
  | cons _ _ => cases hc
  | nil =>
  cases d <;> first | exact ho.elim | skip
  case str t =>
    have hg := ht t rfl
    have hg1 := hg.1
    have sp := good_split (y := "\n") hg (by decide) (by decide +kernel)
    have ej := join_sp t "\n"
    have key : ∀ s : Sp, s.ok → (D.str t) = .str s.text → Txt.split t "\n" = s.lines := fun s hs e => by
      injection e with e
      rw [e]; exact Sp.split hs
    conv => whnf
    refine ⟨.str, true, rfl, rfl, ?_⟩
    conv => whnf
    refine ⟨_, rfl, ?_⟩
    conv => whnf
    refine ⟨rfl, short (by omega), ?_⟩
    rw [show Txt.split t (Str.ofString "\n") = Txt.split t "\n" from rfl]
    generalize Txt.split t "\n" = ls at sp ej key ⊢
    cases ls with
    | nil => exact absurd sp.2.1.1 (by decide)
    | cons l0 ls =>
    have s1 := sp.1
    have s2 : ls.length + 1 ≤ 36000 + 1 := sp.2.1.2
    conv => whnf
    rw [show L2.atI ((l0 :: ls).map D.str) 0 = some (.str l0) from at_zero _ _]
    conv => whnf
    refine ⟨rfl, rfl, l0, rfl, s1 l0 List.mem_cons_self, ?_⟩
    cases em : signsOf l0 with
    | none =>
      conv => whnf
      refine h0 fun s hs e => ?_
      have e := key s hs e
      injection e with e _
      rw [e, signs_of_line hs.m] at em
      cases em
    | some m =>
      obtain ⟨hm, em2⟩ := signs_some em
      have hn : m.length ≤ 5 := tame_len (let_tame (n := 5) hm)
      conv => whnf
      refine ⟨rfl, rfl, m, rfl, hn, ?_⟩
      have R1 : Cw.cutD ((l0 :: ls).map D.str) (some 1) none = ls.map D.str := cut_from ((l0 :: ls).map D.str) 1
      have R2 : ∀ k : Nat, Cw.cutD ((l0 :: ls).map D.str) (some 1) (some (1 + (k : Int))) = (ls.take k).map D.str := fun k => by
        have e := cut_both ((l0 :: ls).map D.str) 1 (1 + k)
        rw [show ((1 + k : Nat) : Int) = 1 + (k : Int) by omega] at e
        refine Eq.trans e ?_
        rw [← List.map_take, ← List.map_drop, Nat.add_comm, List.take_succ_cons, List.drop_succ_cons, List.drop_zero]
      have R3 : ∀ k : Nat, Cw.cutD ((l0 :: ls).map D.str) (some (1 + (k : Int))) none = (ls.drop k).map D.str := fun k => by
        have e := cut_from ((l0 :: ls).map D.str) (1 + k)
        rw [show ((1 + k : Nat) : Int) = 1 + (k : Int) by omega] at e
        refine Eq.trans e ?_
        rw [← List.map_drop, Nat.add_comm, List.drop_succ_cons]
      conv => whnf
      rw [R1]
      refine lc_filter (c := []) (fun d => match d with | .str x => Txt.startswith x "piece " | _ => false) (fun d => d) rfl _ [] (fun d hd acc Ψ _ h => ?_) (fun d hd _ => ?_) rfl (by simp; exact short (by omega)) ?_
      · obtain ⟨x, _, rfl⟩ := List.mem_map.mp hd
        conv => whnf
        exact ⟨_, rfl, h⟩
      · obtain ⟨x, _, rfl⟩ := List.mem_map.mp hd
        exact ⟨rfl, fun acc Ψ _ h => h⟩
      · have key2 : ∀ s : Sp, s.ok → (D.str t) = .str s.text → s.m = m ∧ ls = s.ps.map Part.row ++ s.js.map Joint.row := fun s hs e => by
          have e := key s hs e
          injection e with e1 e2
          refine ⟨?_, e2⟩
          rw [e1, signs_of_line hs.m] at em
          exact Option.some.inj em
        have cnt : ∀ s : Sp, s.ok → (D.str t) = .str s.text → ((ls.map D.str).filter fun d => match d with | .str x => Txt.startswith x "piece " | _ => false).length = s.ps.length := fun s hs e => by
          rw [(key2 s hs e).2]; exact counted _ _
        conv => whnf
        rw [List.map_id', List.nil_append]
        generalize ((ls.map D.str).filter fun d => match d with | .str x => Txt.startswith x "piece " | _ => false).length = k at cnt ⊢
        conv => whnf
        have okst : ∀ x : Str, okDs 0 [.str x, stD m.length] = true := fun x => by
          show (true && (okDs 0 ((stL m.length).map D.str) && true)) = true
          rw [okDs_map (fun _ => rfl)]; rfl
        rw [R2]
        refine lc_map (c := []) (fun d => match d with | .str x => optP (pieceO m.length x) | _ => .non) rfl _ ?_ ?_ ?_
        · intro d hd
          obtain ⟨x, hx, rfl⟩ := List.mem_map.mp hd
          refine ⟨?_, fun acc Ψ _ h => ?_⟩
          · show okD 0 (optP (pieceO m.length x)) = true
            cases pieceO m.length x <;> rfl
          · conv => whnf
            exact ⟨rfl, okst _, x, m.length, rfl, hn, s1 x (List.mem_cons_of_mem _ (List.mem_of_mem_take hx)), h⟩
        · rw [List.length_map, List.length_take]
          exact short (by omega)
        · rw [show ((ls.take k).map D.str).map (fun d => match d with | .str x => optP (pieceO m.length x) | _ => .non) = (ls.take k).map fun x => optP (pieceO m.length x) by rw [List.map_map]; rfl]
          conv => whnf
          rw [R3]
          refine lc_map (c := []) (fun d => match d with | .str x => optJ (cornerO m.length x) | _ => .non) rfl _ ?_ ?_ ?_
          · intro d hd
            obtain ⟨x, hx, rfl⟩ := List.mem_map.mp hd
            refine ⟨?_, fun acc Ψ _ h => ?_⟩
            · show okD 0 (optJ (cornerO m.length x)) = true
              cases cornerO m.length x <;> rfl
            · conv => whnf
              exact ⟨rfl, okst _, x, m.length, rfl, hn, s1 x (List.mem_cons_of_mem _ (List.mem_of_mem_drop hx)), h⟩
          · rw [List.length_map, List.length_drop]
            exact short (by omega)
          · rw [show ((ls.drop k).map D.str).map (fun d => match d with | .str x => optJ (cornerO m.length x) | _ => .non) = (ls.drop k).map fun x => optJ (cornerO m.length x) by rw [List.map_map]; rfl]
            conv => whnf
            refine ⟨rfl, piecesD_ok _ _, m.length, ls.take k, rfl, hn, fun ps hps => ?_, fun no => ?_⟩
            · conv => whnf
              refine ⟨rfl, cornersD_ok _ _, m.length, ls.drop k, rfl, hn, fun js hjs => ?_, fun no => ?_⟩
              · conv => whnf
                obtain ⟨e1, o1⟩ := rowsP hps.1
                obtain ⟨e2, o2⟩ := rowsJ hjs.1
                have sok : (⟨m, ps, js⟩ : Sp).ok := ⟨hm, o1, hps.2.1, hps.2.2, o2, hjs.2.1, hjs.2.2.1, hjs.2.2.2⟩
                have tt : D.str t = .str (⟨m, ps, js⟩ : Sp).text := by
                  have e : (⟨m, ps, js⟩ : Sp).lines = l0 :: ls := by
                    show signL m :: (ps.map Part.row ++ js.map Joint.row) = _
                    rw [← e1, ← e2, List.take_append_drop, ← em2]
                  unfold Sp.text
                  rw [e, ej]
                have ed1 : piecesD m.length (ls.take k) = .tup (ps.map Part.d') := by
                  show D.tup ((ls.take k).map fun x => opD Part.d' (pieceO m.length x)) = _
                  rw [show ((ls.take k).map fun x => opD Part.d' (pieceO m.length x)) = ((ls.take k).map (pieceO m.length)).map (opD Part.d') by rw [List.map_map]; rfl, hps.1, List.map_map]; rfl
                have ed2 : cornersD m.length (ls.drop k) = .tup (js.map Joint.d') := by
                  show D.tup ((ls.drop k).map fun x => opD Joint.d' (cornerO m.length x)) = _
                  rw [show ((ls.drop k).map fun x => opD Joint.d' (cornerO m.length x)) = ((ls.drop k).map (cornerO m.length)).map (opD Joint.d') by rw [List.map_map]; rfl, hjs.1, List.map_map]; rfl
                refine ⟨short (by show (3 : Nat) ≤ _; decide), ?_⟩
                have h := h1 _ sok tt
                have h : Φ (.tup [.str m, .tup (ps.map Part.d'), .tup (js.map Joint.d')]) [] := h
                rw [← ed1, ← ed2] at h
                exact h
              · conv => whnf
                refine h0 fun s hs e => no s.js ⟨?_, hs.nj, hs.dj, hs.pool⟩
                obtain ⟨k1, k2⟩ := key2 s hs e
                subst k1
                have kk := cnt s hs e
                rw [k2, kk, List.drop_left' (List.length_map ..)]
                exact jrows hn hs.js
            · conv => whnf
              refine h0 fun s hs e => no s.ps ⟨?_, hs.np, hs.dp⟩
              obtain ⟨k1, k2⟩ := key2 s hs e
              subst k1
              rw [k2, cnt s hs e, List.take_left' (List.length_map ..)]
              exact prows hn hs.ps
  all_goals
    conv => whnf
    refine ⟨_, false, rfl, rfl, ?_⟩
    conv => whnf
    exact h0 fun s _ e => by cases e
set_option maxHeartbeats 8000000 in
theorem okY_Borders___init__ (T : Tx K mg) : FnOk P w K mg base (L2.CX P w) 6 T.a_Borders___init__ T.d_Borders___init__ ["self", "text"] (spXM K 1 2 (Sy_bord T.C_Borders T.C_InvalidText)) := by
  refine fnY T.F_Borders___init__ sc_Borders___init__ fun cdv A outer s H E hr => ?_
  have tk : Takes (cxOf (L2.CX P w) P w K mg base ["self", "text", "parts"] "Borders.__init__" (defScope st_Borders___init__) T.a_Borders___init__ cdv A outer s H E) (fun cls d _ H => E cls d H) := takes_of rfl rfl rfl rfl
  have pso : PassesOwn (model P w) (cxOf (L2.CX P w) P w K mg base ["self", "text", "parts"] "Borders.__init__" (defScope st_Borders___init__) T.a_Borders___init__ cdv A outer s H E).A (cxOf (L2.CX P w) P w K mg base ["self", "text", "parts"] "Borders.__init__" (defScope st_Borders___init__) T.a_Borders___init__ cdv A outer s H E).env (cxOf (L2.CX P w) P w K mg base ["self", "text", "parts"] "Borders.__init__" (defScope st_Borders___init__) T.a_Borders___init__ cdv A outer s H E).xe := passes_of rfl
  refine ⟨_, (psx_cons (psx_of (psd_set (i := 2) sc_Borders___init__.nd (pd_callP (okw_parts_of T) (hr.mono (by decide)) T.g_parts_of T.F_parts_of.kp T.b_parts_of pass0 (pds_cons (pd_v 1) pds_nil)))) (psx_cons (psx_if (pdt_isn (pd_v 2) pd_non) (psx_one (psx_raise rfl tk T.ox_InvalidText T.iC_InvalidText T.tI_InvalidText (okI_InvalidText T) (hr.mono (by decide)) T.bI_InvalidText (pass0) T.g_InvalidText (pd_v 1))) psx_nil) (psx_cons (psx_of (psd_stf T.cl_Borders T.na_whole (pd_v 0) (pd_v 1))) (psx_cons (psx_of (psd_asg (pd_v 2) (pgd_tup rfl (pgds_cons (pgd_fld T.cl_Borders T.na_motif (pd_v 0)) (pgds_cons (pgd_fld T.cl_Borders T.na_piece_rows (pd_v 0)) (pgds_cons (pgd_fld T.cl_Borders T.na_corner_rows (pd_v 0)) pgds_nil)))))) (psx_cons (psx_of (psd_stf T.cl_Borders T.na_all_states (pd_v 0) (pd_callP (ok_states_of T) (hr.mono (by decide)) T.g_states_of T.F_states_of.kp T.b_states_of pass0 (pds_cons (pd_fld T.cl_Borders T.na_motif (pd_v 0)) pds_nil)))) (psx_one (psx_of (psd_stf T.cl_Borders T.na_corner_names (pd_v 0) (pd_callP (ok_names_of T) (hr.mono (by decide)) T.g_names_of T.F_names_of.kp T.b_names_of pass0 (pds_cons (pd_fld T.cl_Borders T.na_corner_rows (pd_v 0)) pds_nil)))))))))), ?_⟩
  rintro c ds Φ Ξ - - ⟨d, rfl, rfl, ho, ht, h0, h1⟩
  have okd : okDs 0 [d] = true := by show (okD 0 d && true) = true; rw [ho.ok]; rfl
  conv => whnf
  refine ⟨rfl, okd, d, rfl, ho, ht, ?_, ?_⟩
  · intro s hs e
    subst e
    conv => whnf
    refine ⟨0, [], [], rfl, rfl, by decide, ?_⟩
    have hn : s.m.length ≤ 5 := tame_len (let_tame (n := 5) hs.m)
    conv => whnf
    refine ⟨rfl, ?_⟩
    conv => whnf
    refine ⟨0, _, _, rfl, rfl, by show (1 : Nat) < 1000; decide, ?_⟩
    conv => whnf
    refine ⟨0, _, _, rfl, rfl, by show (2 : Nat) < 1000; decide, ?_⟩
    conv => whnf
    refine ⟨0, _, _, rfl, rfl, by show (3 : Nat) < 1000; decide, ?_⟩
    conv => whnf
    refine ⟨rfl, rfl, _, rfl, ?_⟩
    conv => whnf
    refine ⟨rfl, rfl, s.m, rfl, hn, ?_⟩
    conv => whnf
    refine ⟨0, _, _, rfl, rfl, by show (4 : Nat) < 1000; decide, ?_⟩
    conv => whnf
    refine ⟨rfl, _, rfl, ?_⟩
    conv => whnf
    refine ⟨rfl, ok_joints s.js, s.js.map fun p => (p.t, [.str (bendS p.o), .str (stS p.i p.d), .str (stS p.j p.e), .int p.c]), by rw [List.map_map]; rfl, by have := hs.nj; rw [List.length_map]; omega, fun zs nd so mem => ?_⟩
    conv => whnf
    refine ⟨0, _, _, rfl, rfl, by show (5 : Nat) < 1000; decide, ?_⟩
    conv => whnf
    exact h1 s zs hs ⟨nd, so, fun x => by rw [mem x, List.map_map]; rfl⟩ rfl
  · intro no
    conv => whnf
    exact ⟨okd, rfl, h0 no⟩

end
end K03

namespace K03
open PySem PySem.Spec PyProof.Rows L2 Cw
theorem cut_len (t : Str) (lo hi : Option Int) : (cutS t lo hi).length ≤ t.length := by
  show (((t.cps.toList.drop _).take _).toArray).size ≤ t.cps.size
  rw [List.size_toArray, List.length_take, List.length_drop, Array.length_toList]
  omega
def S__law_is_word : Pm := fun c ds Φ => ∃ t, ds = [.str t] ∧ goodT 36000 t ∧ Φ (.bl (isLet t 8)) c
def S__law_digit : Pm := fun c ds Φ => ∃ t lo hi, ds = [.str t, .int lo, .int hi] ∧ t.length ≤ 50000 ∧ Φ (optI (numberOf t lo hi)) c
def S__law_is_state : Pm := fun c ds Φ => ∃ (t : Str) (n : Nat), ds = [.str t, .int n] ∧ n ≤ 5 ∧ goodT 36000 t ∧ Φ (.bl (decide (t ∈ stL n))) c
def rowD (n : Nat) (t : Str) : D := match pieceO n t with
  | some p => p.d'
  | none => optJ (cornerO n t)
def S__law_read_row : Pm := fun c ds Φ => ∃ (t : Str) (n : Nat), ds = [.str t, .int n] ∧ n ≤ 5 ∧ goodT 36000 t ∧ Φ (rowD n t) c
def S__law_read : Pm := fun c ds Φ => ∃ t, ds = [.str t] ∧ goodT 36000 t ∧ (∀ s : Sp, s.ok → t = s.text → Φ s.d c) ∧ ((∀ s : Sp, s.ok → t ≠ s.text) → Φ .non c)
def S__law_over : Pm := fun c ds Φ => ∃ a b k lim, c = [spr a b k] ∧ ds = [.cell 0] ∧ B3 a b k lim ∧ lim ≤ 2500 ∧ ∀ t a' b' k', goodT 2200 t → B3 a' b' k' (lim + 300) → Φ (.str t) [spr a' b' k']
def S__law_bent : Pm := fun c ds Φ => ∃ a b k t n lim, c = [spr a b k] ∧ ds = [.cell 0, .str t] ∧ goodT n t ∧ n ≤ 9000 ∧ lim ≤ 90000 ∧ B3 a b k lim ∧ ∀ t' a' b' k', goodT (4 * n + 40) t' → B3 a' b' k' (lim + 5) → Φ (.str t') [spr a' b' k']
def kindsL (t : Str) : List D := [.non, .int 0, .int 7, .bl true, .int (10 ^ Int.toNat 30), .tup [], .lst [], .dct [] [], .tup [.str t], .lst [.str t], .dct [.inr "a"] [.str t]]
def S__law_other_kind : Pm := fun c ds Φ => ∃ a b k t lim, c = [spr a b k] ∧ ds = [.cell 0, .str t] ∧ lim ≤ 90000 ∧ B3 a b k lim ∧ ∀ d ∈ kindsL t, ∀ a' b' k', B3 a' b' k' (lim + 1) → Φ d [spr a' b' k']
def tell6 (C : Addr) : XD → Option D := fun y => if y.C = C then (match y.ns, y.ds with
  | ["given"], [d] => some (.tup [.str "bad text", .tup [d]])
  | _, _ => none) else none
theorem tell6_at {C : Addr} {y : XD} {r : D} (h : tell6 C y = some r) : ∃ d, y = ⟨C, ["given"], [d]⟩ ∧ r = .tup [.str "bad text", .tup [d]] := by
  obtain ⟨Cy, ns, ds⟩ := y
  unfold tell6 at h
  by_cases hc : Cy = C
  · rw [if_pos hc] at h
    subst hc
    simp only at h
    split at h
    · rename_i d
      cases h
      exact ⟨d, rfl, rfl⟩
    · cases h
  · rw [if_neg hc] at h; cases h
theorem tell6_exm {K : PySem.W.Frag} {C : Addr} {cs : List Value} (h : PySem.W.exmAny K (.ref C) cs = some true) : ∀ y r, tell6 C y = some r → PySem.W.exmAny K (.ref y.C) cs = some true := fun y r e => by
  obtain ⟨d, rfl, _⟩ := tell6_at e
  exact h
theorem tell6_eq {C : Addr} {d : D} : tell6 C ⟨C, ["given"], [d]⟩ = some (.tup [.str "bad text", .tup [d]]) := by
  unfold tell6
  rw [if_pos rfl]
  rfl
def tsu6 (C : Addr) : Addr × Obj → TSD := fun p => dSeq (dSet 3 (dCallP (S__law_sort C p) 1 (dCons (dVar 2) dNil))) (dRet (dTup (dCons (dVar 3) (dCons (dCallP (S__law_told C p) 2 (dCons (dVar 2) (dCons (dVar 3) dNil))) dNil))))
theorem tell6_ts {C : Addr} (p : Addr × Obj) (dd : Addr) (y : XD) (r : D) (c : List Cell) (Ψ : D → List Cell → Prop) (hE : HeldO p dd y.C) (e : tell6 C y = some r) (ok : okDs 0 y.ds = true) (hΨ : Ψ r c) :
    tsu6 C p ⟨fun _ _ => False, Ψ, fun _ _ => False, fun _ _ => False⟩ [none, none, some (.exc p.1 dd y.C y.ns y.ds), none] c := by
  obtain ⟨d, rfl, rfl⟩ := tell6_at e
  have okd : okD 0 d = true := (Bool.and_eq_true_iff.mp (show (okD 0 d && true) = true from ok)).1
  have ok2 : okDs 0 [d] = true := ok
  conv => whnf
  refine ⟨rfl, ?_, dd, _, _, hE, rfl, ok2, ?_⟩
  · show (okDs 0 [d] && true) = true
    rw [ok2]; rfl
  conv => whnf
  refine ⟨rfl, ?_, dd, d, hE, rfl, ok2, ?_⟩
  · show (okDs 0 [d] && (true && true)) = true
    rw [ok2]; rfl
  conv => whnf
  refine ⟨by show 2 ≤ sizeLine; decide, ?_⟩
  exact hΨ
theorem ix_any {c : List Cell} {ds : List D} {u : Int} {Ψ : D → List Cell → Prop} (h0 : 0 ≤ u) (h1 : u < ds.length) (h : ∀ d ∈ ds, Ψ d c) : fIx (vw c (.lst ds)) (vw c (.int u)) c Ψ := by
  obtain ⟨n, rfl⟩ : ∃ n : Nat, u = n := ⟨u.toNat, by omega⟩
  have hn : n < ds.length := by omega
  show (match L2.atI ds (n : Int) with | some d => Ψ d c | none => False)
  have e : L2.atI ds (n : Int) = some ds[n] := by
    unfold L2.atI L2.ixN
    rw [if_pos (by omega), if_pos (by omega)]
    show ds[((n : Int)).toNat]? = _
    rw [Int.toNat_natCast, List.getElem?_eq_getElem hn]
  rw [e]
  exact h _ (List.getElem_mem hn)
theorem at_any {α : Type} {l : List α} {v : Int} (h0 : 0 ≤ v) (h1 : v < l.length) : ∃ k ∈ l, L2.atI l v = some k := by
  obtain ⟨n, rfl⟩ : ∃ n : Nat, v = n := ⟨v.toNat, by omega⟩
  have hn : n < l.length := by omega
  refine ⟨l[n], List.getElem_mem hn, ?_⟩
  unfold L2.atI L2.ixN
  rw [if_pos (by omega), if_pos (by omega)]
  show l[((n : Int)).toNat]? = _
  rw [Int.toNat_natCast, List.getElem?_eq_getElem hn]
theorem good_cut {n : Nat} {t : Str} (h : goodT n t) (lo hi : Option Int) : goodT n (cutS t lo hi) :=
  ⟨Nat.le_trans (cut_len t lo hi) h.1, fun k hk => h.2 k (List.mem_of_mem_drop (List.mem_of_mem_take hk))⟩
theorem good_app {n m : Nat} {x y : Str} (h1 : goodT n x) (h2 : goodT m y) : goodT (n + m) (x ++ y) := by
  have e := TL.tl_append x y
  refine ⟨?_, fun k hk => ?_⟩
  · have l1 := tl_len (x ++ y)
    rw [e, List.length_append, tl_len, tl_len] at l1
    have := h1.1
    have := h2.1
    omega
  · rw [e] at hk
    exact (List.mem_append.mp hk).elim (h1.2 k) (h2.2 k)
theorem good_up {n m : Nat} {x : Str} (h : goodT n x) (hm : n ≤ m) : goodT m x := ⟨Nat.le_trans h.1 hm, h.2⟩
theorem good_one {k : Nat} (h : k < 0x110000) : goodT 1 (one k) := ⟨Nat.le_refl _, fun j hj => by have : j ∈ [k] := hj; rw [List.mem_singleton.mp this]; exact h⟩
theorem sum_set : ∀ (l : List Nat) (i a : Nat), (l.set i a).sum ≤ l.sum + a
  | [], _, _ => by simp
  | b :: l, 0, a => by simp only [List.set_cons_zero, List.sum_cons]; omega
  | b :: l, i + 1, a => by
    have := sum_set l i a
    simp only [List.set_cons_succ, List.sum_cons]; omega
theorem good_join {y : Str} {xs : List Str} {s n c : Nat} (hy : goodT 1 y) (hs : (xs.map (·.length)).sum ≤ s) (hc : xs.length ≤ c) (hx : ∀ x ∈ xs, goodT n x) : goodT (s + c) (Txt.join y xs) := by
  refine ⟨?_, fun k hk => ?_⟩
  · have h := join_len y xs
    have := hy.1
    have h3 : y.length * xs.length ≤ 1 * xs.length := Nat.mul_le_mul hy.1 (Nat.le_refl _)
    omega
  · rw [TL.join_eq, TL.tl_join] at hk
    rcases mem_joinL hk with hk | ⟨p, hp, hk⟩
    · exact hy.2 k hk
    · obtain ⟨t, ht, rfl⟩ := List.mem_map.mp hp
      exact (hx t ht).2 k hk
def someW : List D := [.str "", .str "0", .str "5", .str "6", .str "7", .str "9", .str "10", .str "00", .str "-1", .str "0>", .str "4<", .str "5>", .str "0<>", .str ">0", .str "long", .str "cost", .str "out", .str "in"] ++ [.str "ninesigns", .str "A", .str "abcde", .str "abcdef", .str "piece", .str "corner", .str "signs", .str "x", .str "Out", .str "y-9", .str "z+1", .str "x+0"]
def isW : D → Bool
  | .str w => decide (w.length ≤ 9) && (TL.tl w).all (· < 0x110000)
  | _ => false
theorem someW_ok : someW.all isW = true := by decide +kernel
theorem someW_in {d : D} (h : d ∈ someW) : ∃ w, d = .str w ∧ goodT 9 w := by
  have := List.all_eq_true.mp someW_ok d h
  cases d with
  | str w =>
    obtain ⟨h1, h2⟩ := Bool.and_eq_true_iff.mp this
    exact ⟨w, rfl, of_decide_eq_true h1, fun k hk => of_decide_eq_true (List.all_eq_true.mp h2 k hk)⟩
  | _ => cases this
theorem ix_in {n : Nat} {v : Int} (h0 : 0 ≤ v) (h1 : v < n) : L2.ixN n v = some v.toNat := by
  unfold L2.ixN
  rw [if_pos h0, if_pos h1]
theorem str_two {t : Str} (h : (t.length : Int) = 2) : ∃ k w, t = ⟨⟨[k, w]⟩⟩ := by
  cases t with | mk a => cases a with | mk l =>
    have h : ((l.length : Nat) : Int) = 2 := h
    match l, h with
    | [k, w], _ => exact ⟨k, w, rfl⟩
    | [], h => simp at h
    | [_], h => simp at h
    | _ :: _ :: _ :: _, h => simp at h; omega
theorem st_two {i : Nat} (d : Bool) (h : i < 5) : stS i d = ⟨⟨[48 + i, if d then 62 else 60]⟩⟩ := by
  have all : ∀ (i : Fin 5) (d : Bool), stS i.val d = ⟨⟨[48 + i.val, if d then 62 else 60]⟩⟩ := by decide +kernel
  exact all ⟨i, h⟩ d
theorem st_mem_len {n : Nat} {t : Str} (hn : n ≤ 5) (h : t ∈ stL n) : (t.length : Int) = 2 := by
  obtain ⟨i, hi, hx⟩ := List.mem_flatMap.mp h
  have hi := List.mem_range.mp hi
  simp only [List.mem_cons, List.not_mem_nil, or_false] at hx
  rcases hx with rfl | rfl <;> rw [st_two _ (by omega)] <;> rfl
theorem st_mem_two {n k w : Nat} (hn : n ≤ 5) : (⟨⟨[k, w]⟩⟩ : Str) ∈ stL n ↔ (48 ≤ k ∧ k < 48 + n) ∧ (w = 60 ∨ w = 62) := by
  constructor
  · intro h
    obtain ⟨i, hi, hx⟩ := List.mem_flatMap.mp h
    have hi := List.mem_range.mp hi
    have q : ∀ d, (⟨⟨[k, w]⟩⟩ : Str) = stS i d → (48 ≤ k ∧ k < 48 + n) ∧ (w = 60 ∨ w = 62) := fun d e => by
      rw [st_two _ (by omega)] at e
      injection e with e
      injection e with e
      injection e with e1 e
      injection e with e2 _
      refine ⟨by omega, ?_⟩
      rw [e2]
      cases d
      · exact .inl rfl
      · exact .inr rfl
    simp only [List.mem_cons, List.not_mem_nil, or_false] at hx
    rcases hx with e | e
    · exact q _ e
    · exact q _ e
  · rintro ⟨⟨h1, h2⟩, h3⟩
    have e : (⟨⟨[k, w]⟩⟩ : Str) = stS (k - 48) (decide (w = 62)) := by
      rw [st_two _ (by omega), show 48 + (k - 48) = k by omega]
      rcases h3 with rfl | rfl <;> rfl
    rw [e]
    exact st_mem (by omega)
theorem way_in (w : Nat) : inS ⟨#[w]⟩ (Str.ofString "<>") = decide (w = 60 ∨ w = 62) := by
  show decide (w ∈ ("<>" : Str).cps.toList) = _
  rw [show ("<>" : Str).cps.toList = [60, 62] by decide +kernel]
  simp
theorem num_one (k n : Nat) (hn : n ≤ 5) : (numberOf (one k) 0 ((n : Int) - 1)).isSome = decide (48 ≤ k ∧ k < 48 + n) := by
  show (if (48 ≤ k ∧ k ≤ 57) ∧ (0 : Int) ≤ (k : Int) - 48 ∧ (k : Int) - 48 ≤ (n : Int) - 1 then some ((k : Int) - 48) else none).isSome = _
  by_cases h : 48 ≤ k ∧ k < 48 + n
  · rw [if_pos (by omega), decide_eq_true h]; rfl
  · rw [if_neg (by omega), decide_eq_false h]; rfl
theorem at_back {ws : List Str} {k : Nat} (h0 : 0 < k) (h1 : k ≤ ws.length) : ∃ x ∈ ws, L2.atI (ws.map D.str) (-(k : Int)) = some (.str x) := by
  have hn : ws.length - k < ws.length := by omega
  refine ⟨ws[ws.length - k], List.getElem_mem hn, ?_⟩
  unfold L2.atI L2.ixN
  rw [List.length_map, if_neg (by omega), if_pos (by omega)]
  show (ws.map D.str)[(-(k : Int) + (ws.length : Int)).toNat]? = _
  rw [show (-(k : Int) + (ws.length : Int)).toNat = ws.length - k by omega, List.getElem?_map, List.getElem?_eq_getElem hn]
  rfl
theorem at_one {α : Type} (x y : α) (l : List α) : L2.atI (x :: y :: l) 1 = some y := by
  unfold L2.atI L2.ixN
  rw [if_pos (by omega), if_pos (by show (1 : Int) < ((l.length + 1 + 1 : Nat) : Int); omega)]
  rfl
theorem over_marks {n : Int} (h0 : 0 ≤ n) (h1 : n < 6) : ∃ M : Str, cutS ("abcdefg" : Str) none (some (1 + n)) = M ∧ 1 ≤ M.length ∧ M.length ≤ 6 ∧ ∀ k ∈ TL.tl M, k < 0x110000 := by
  refine ⟨_, rfl, ?_⟩
  have : n = 0 ∨ n = 1 ∨ n = 2 ∨ n = 3 ∨ n = 4 ∨ n = 5 := by omega
  rcases this with rfl | rfl | rfl | rfl | rfl | rfl <;> decide +kernel
theorem over_title {i : Int} (h0 : 0 ≤ i) (h1 : i < 10) : ∃ k, L2.atI ("abcdefghij" : Str).cps.toList i = some k ∧ isLet (one k) 8 = true := by
  have : i = 0 ∨ i = 1 ∨ i = 2 ∨ i = 3 ∨ i = 4 ∨ i = 5 ∨ i = 6 ∨ i = 7 ∨ i = 8 ∨ i = 9 := by omega
  rcases this with rfl | rfl | rfl | rfl | rfl | rfl | rfl | rfl | rfl | rfl <;> exact ⟨_, rfl, by decide +kernel⟩
theorem tame_good {n : Nat} {t : Str} (h : tame n t = true) : goodT n t := ⟨tame_len h, fun k hk => by
  have := of_decide_eq_true (List.all_eq_true.mp (Bool.and_eq_true_iff.mp h).1 k hk)
  omega⟩
theorem words_good {ws : List Str} (h : ∀ w ∈ ws, tame 8 w = true) (hl : ws.length ≤ 8) : goodT 80 (Txt.join " " ws) := by
  have sum : ∀ l : List Str, (∀ w ∈ l, tame 8 w = true) → (l.map (·.length)).sum ≤ 8 * l.length := fun l => by
    induction l with
    | nil => intro _; exact Nat.zero_le _
    | cons w l ih =>
      intro h
      have h1 := tame_len (h w List.mem_cons_self)
      have h2 := ih fun x hx => h x (List.mem_cons_of_mem _ hx)
      rw [List.map_cons, List.sum_cons, List.length_cons]; omega
  have h1 := sum ws h
  exact good_up (good_join (y := " ") (s := 64) (c := 8) (n := 8) ⟨by decide, by decide +kernel⟩ (by omega) hl fun w hw => tame_good (h w hw)) (by decide)
theorem sum_80 : ∀ {l : List Str}, (∀ w ∈ l, goodT 80 w) → (l.map (·.length)).sum ≤ 80 * l.length
  | [], _ => Nat.zero_le _
  | w :: l, h => by
    have h1 := (h w List.mem_cons_self).1
    have h2 := sum_80 fun x hx => h x (List.mem_cons_of_mem _ hx)
    rw [List.map_cons, List.sum_cons, List.length_cons]; omega
def isI (m : Int) : D → Prop
  | .int i => 0 ≤ i ∧ i < m
  | _ => False
theorem rng_isI {n : Nat} {m : Int} (h : (n : Int) ≤ m) : ∀ d ∈ rng 0 n, isI m d := fun d hd => by
  obtain ⟨i, hi, rfl⟩ := List.mem_map.mp hd
  have := List.mem_range.mp hi
  show 0 ≤ (0 : Int) + i ∧ (0 : Int) + i < m
  omega
theorem lcK_pair {α : Type} {k i : Nat} {all : List D} {te : TD} {ρ : Cw.Env} {c : List Cell} {Φ : List D → List Cell → Prop} (d r : α → D) (hk : c[k]? = some (.lst all)) (hc : okCs c.length c = true) : ∀ (xs : List α) (acc : List D),
    (∀ x ∈ xs, okD c.length (r x) = true ∧ ∀ acc (Ψ : D → List Cell → Prop), okDs c.length acc = true → Ψ (r x) (c ++ [.lst acc]) → te (ρ.set i (some (d x))) (c ++ [.lst acc]) Ψ) →
    okDs c.length acc = true → acc.length + xs.length ≤ sizeLine → Φ (acc ++ xs.map r) c → lcK k all i dYes te (xs.map d) acc ρ c Φ
  | [], acc, _, h, _, q => ⟨hk, hc, h, by simpa using q⟩
  | x :: xs, acc, he, h, hl, q => by
    have hl' : acc.length + (xs.length + 1) ≤ sizeLine := hl
    obtain ⟨hkx, ht⟩ := he x List.mem_cons_self
    refine ⟨hk, ?_⟩
    show te _ _ _
    refine ht acc _ h ⟨by omega, inner_same ?_⟩
    refine lcK_pair d r hk hc xs _ (fun y hy => he y (List.mem_cons_of_mem _ hy)) (okDs_app h (okDs_one hkx)) (by rw [List.length_append]; show acc.length + 1 + xs.length ≤ _; omega) ?_
    simpa using q
theorem part_head (p : Part) : ∃ r, TL.tl p.row = 112 :: r := by
  refine ⟨[105, 101, 99, 101] ++ (TL.tl (" " : Str) ++ TL.joinL (TL.tl " ") ([p.t, stS p.i p.d, stS p.j p.e, "long", toString (p.l : Int), "cost", toString (p.c : Int)].map TL.tl)), ?_⟩
  unfold Part.row Part.ws
  rw [TL.join_eq, TL.tl_join]
  show TL.tl ("piece" : Str) ++ (TL.tl (" " : Str) ++ _) = _
  rw [show TL.tl ("piece" : Str) = [112, 105, 101, 99, 101] by decide +kernel]
  rfl
theorem joint_head (p : Joint) : ∃ r, TL.tl p.row = 99 :: r := by
  refine ⟨[111, 114, 110, 101, 114] ++ (TL.tl (" " : Str) ++ TL.joinL (TL.tl " ") ([p.t, bendS p.o, stS p.i p.d, stS p.j p.e, "cost", toString (p.c : Int)].map TL.tl)), ?_⟩
  unfold Joint.row Joint.ws
  rw [TL.join_eq, TL.tl_join]
  show TL.tl ("corner" : Str) ++ (TL.tl (" " : Str) ++ _) = _
  rw [show TL.tl ("corner" : Str) = [99, 111, 114, 110, 101, 114] by decide +kernel]
  rfl
theorem rows_ne (p : Part) (q : Joint) : p.row ≠ q.row := fun e => by
  have h1 := part_starts p
  rw [e, joint_starts q] at h1
  cases h1
theorem piece_none {n : Nat} {q : Joint} : pieceO n q.row = none := by
  cases h : pieceO n q.row with
  | none => rfl
  | some p => exact absurd (piece_some h).2.symm (rows_ne p q)
theorem corner_none {n : Nat} {p : Part} : cornerO n p.row = none := by
  cases h : cornerO n p.row with
  | none => rfl
  | some q => exact absurd (corner_some h).2 (rows_ne p q)
theorem pieces_in {n : Nat} (hn : n ≤ 5) : ∀ {ps : List Part} {js : List Joint}, (∀ p ∈ ps, p.ok n) → (ps.map Part.row ++ js.map Joint.row).filterMap (pieceO n) = ps
  | [], [], _ => rfl
  | [], j :: js, h => by
    show ((j.row :: ([] ++ js.map Joint.row)).filterMap (pieceO n)) = _
    rw [List.filterMap_cons_none piece_none]
    exact pieces_in hn (ps := []) h
  | p :: ps, js, h => by
    show ((p.row :: (ps.map Part.row ++ js.map Joint.row)).filterMap (pieceO n)) = _
    rw [List.filterMap_cons_some (piece_row hn (h p List.mem_cons_self)), pieces_in hn fun q hq => h q (List.mem_cons_of_mem _ hq)]
theorem joints_in {n : Nat} (hn : n ≤ 5) : ∀ {ps : List Part} {js : List Joint}, (∀ p ∈ js, p.ok n) → (ps.map Part.row ++ js.map Joint.row).filterMap (cornerO n) = js
  | [], [], _ => rfl
  | [], j :: js, h => by
    show ((j.row :: ([] ++ js.map Joint.row)).filterMap (cornerO n)) = _
    rw [List.filterMap_cons_some (corner_row hn (h j List.mem_cons_self))]
    exact congrArg (j :: ·) (joints_in hn (ps := []) (js := js) fun q hq => h q (List.mem_cons_of_mem _ hq))
  | p :: ps, js, h => by
    show ((p.row :: (ps.map Part.row ++ js.map Joint.row)).filterMap (cornerO n)) = _
    rw [List.filterMap_cons_none corner_none]
    exact joints_in hn h
theorem before {st : Str → Prop} : ∀ {P' J' D' R : List Str} {x : Str}, (∀ y ∈ J', ¬ st y) → (∀ y ∈ P', st y) → P' ++ J' = D' ++ x :: R → st x → ∀ y ∈ D', st y
  | _, _, [], _, _, _, _, _, _, y, hy => nomatch hy
  | [], J', d :: D', R, x, hJ, _, e, hx, _, _ => by
    have e : J' = (d :: D') ++ x :: R := e
    exact absurd hx (hJ x (by rw [e]; simp))
  | p :: P', J', d :: D', R, x, hJ, hP, e, hx, y, hy => by
    injection e with e1 e2
    rcases List.mem_cons.mp hy with h | hy
    · rw [h, ← e1]; exact hP p List.mem_cons_self
    · exact before hJ (fun z hz => hP z (List.mem_cons_of_mem _ hz)) e2 hx y hy
theorem nod_mid {α : Type} {l r : List α} {x : α} (h : (l ++ x :: r).Nodup) : x ∉ l := fun z => by
  have := List.nodup_append.mp h
  exact this.2.2 x z x List.mem_cons_self rfl
theorem signs_split {m : Str} (h : isLet m 5 = true) : Txt.split (signL m) " " = (["signs", m] : List Str) := ws_split (ws := (["signs", m] : List Str)) (fun w hw => by
  rcases List.mem_cons.mp hw with rfl | hw
  · decide +kernel
  · rw [List.mem_singleton.mp hw]
    have := let_tame (n := 5) h
    have h1 := (Bool.and_eq_true_iff.mp this)
    exact Bool.and_eq_true_iff.mpr ⟨h1.1, decide_eq_true (by have := of_decide_eq_true h1.2; omega)⟩) (by simp)
theorem let_58 {m : Str} : isLet m 5 = (isLet m 8 && decide ((m.length : Int) ≤ 5)) := by
  unfold isLet
  by_cases h : (m.length : Int) ≤ 5
  · rw [decide_eq_true h, Bool.and_true]
    congr 1
    exact decide_eq_decide.mpr ⟨fun z => ⟨z.1, by omega⟩, fun z => ⟨z.1, h⟩⟩
  · rw [decide_eq_false h, Bool.and_false, decide_eq_false (fun z => h z.2)]; rfl
theorem joints_any (js : List Joint) (j : Joint) : ((js.map Joint.py).any fun z => PyData.eqv z j.py) = true ↔ j.k ∈ js.map Joint.k := by
  rw [List.any_map, List.any_eq_true]
  constructor
  · rintro ⟨q, hq, e⟩
    have e : PyData.eqv q.py j.py = true := e
    rw [joint_eqv_iff] at e
    exact List.mem_map.mpr ⟨q, hq, of_decide_eq_true e⟩
  · intro h
    obtain ⟨q, hq, e⟩ := List.mem_map.mp h
    refine ⟨q, hq, ?_⟩
    show PyData.eqv q.py j.py = true
    rw [joint_eqv_iff]
    exact decide_eq_true e
section
variable {P : Program} {w : World} {K : PySem.W.Frag} {mg : Str → Option Value} {base : Heap}
set_option maxHeartbeats 8000000 in
theorem ok__law_is_word (T : Tx K mg) : FnOk P w K mg base CX0 1 T.a__law_is_word T.d__law_is_word ["_law_thing"] (spD K 0 1 S__law_is_word) := by
  refine fnD T.F__law_is_word sc__law_is_word fun cdv A outer s H E hr => ⟨_, (psd_cons (psd_if (pdt_not (pdt_lele pd_int (pd_len (pd_v 0) T.n_len) pd_int)) (psd_one (psd_ret pd_bl)) psd_nil) (psd_one (psd_ret (pd_eq hr (pd_lc (i := 1) rfl sc__law_is_word.nd (pid_str (pd_v 0)) (by kernel_rfl) (fun _ _ _ _ _ => pg_name (i := 1) sc__law_is_word.nd rfl (Or.inl rfl)) (fun _ _ _ _ _ => (ptd_one (pdt_nin hr (pd_v 1) pd_str))) (fun _ _ _ _ _ => (pd_v 1))) (pd_lst pds_nil))))), ?_⟩
  rintro c ds Φ hc - ⟨t, rfl, ht, hΦ⟩
  cases c with
  | cons _ _ => cases hc
  | nil =>
  have ht1 := ht.1
  conv => whnf
  refine ⟨short (by omega), ?_⟩
  conv => whnf
  have no : ¬ (1 ≤ (t.length : Int) ∧ (t.length : Int) ≤ 8) → Φ (.bl false) [] := fun z => by
    have : isLet t 8 = false := by unfold isLet; rw [decide_eq_false z]; rfl
    rw [this] at hΦ; exact hΦ
  by_cases h1 : (1 : Int) ≤ t.length
  case neg =>
    rw [show (fun i j => decide (i ≤ j)) 1 (t.length : Int) = false from decide_eq_false h1]
    conv => whnf
    exact no fun z => h1 z.1
  rw [show (fun i j => decide (i ≤ j)) 1 (t.length : Int) = true from decide_eq_true h1]
  conv => whnf
  by_cases h2 : (t.length : Int) ≤ 8
  case neg =>
    rw [show (fun i j => decide (i ≤ j)) (t.length : Int) 8 = false from decide_eq_false h2]
    conv => whnf
    exact no fun z => h2 z.2
  rw [show (fun i j => decide (i ≤ j)) (t.length : Int) 8 = true from decide_eq_true h2]
  conv => whnf
  have big : t.cps.toList.length ≤ sizeLine := by
    have := tl_len t
    have e : t.cps.toList.length = t.length := this
    rw [e]; exact short (by omega)
  refine lc_filter (c := []) (fun d => match d with | .str x => !inS x "abcdefghijklmnopqrstuvwxyz" | _ => false) (fun d => d) rfl _ [] (fun d hd acc Ψ _ h => ?_) (fun d hd _ => ?_) rfl (by show 0 + (t.cps.toList.map _).length ≤ _; rw [List.length_map, Nat.zero_add]; exact big) ?_
  · obtain ⟨k, _, rfl⟩ := List.mem_map.mp hd
    exact h
  · obtain ⟨k, _, rfl⟩ := List.mem_map.mp hd
    exact ⟨rfl, fun acc Ψ _ h => h⟩
  · have e : ((chars t).filter fun d => match d with | .str x => !inS x "abcdefghijklmnopqrstuvwxyz" | _ => false) = (t.cps.toList.filter fun k => !lower k).map fun k => D.str (one k) := by
      show ((t.cps.toList.map fun k => D.str (one k)).filter _) = _
      generalize t.cps.toList = l
      induction l with
      | nil => rfl
      | cons k l ih =>
        rw [List.map_cons, List.filter_cons, List.filter_cons]
        rw [show (match D.str (one k) with | .str x => !inS x "abcdefghijklmnopqrstuvwxyz" | _ => false) = !lower k from congrArg (!·) (let_in k), ih]
        cases lower k <;> rfl
    rw [e, List.map_id', List.nil_append]
    have hx : ∀ k ∈ t.cps.toList.filter (fun k => !lower k), k < 0x110000 := fun k hk => ht.2 k (List.mem_filter.mp hk).1
    have hl : isLet t 8 = (t.cps.toList.filter fun k => !lower k).isEmpty := by
      unfold isLet
      rw [decide_eq_true ⟨h1, h2⟩, Bool.true_and, Bool.eq_iff_iff, List.isEmpty_iff, List.filter_eq_nil_iff, List.all_eq_true]
      simp
    rw [hl] at hΦ
    generalize (t.cps.toList.filter fun k => !lower k) = fs at hΦ hx ⊢
    conv => whnf
    refine ⟨by show 0 ≤ sizeLine; decide, ?_⟩
    conv => whnf
    refine ⟨_, _, by show D.py (.lst (fs.map fun k => D.str (one k))) = _; unfold D.py; rw [pys_of (d := fun k => D.str (one k)) (py := fun k => PyData.str (one k)) fun _ => rfl]; rfl, rfl, shaped_of (fun k hk => ?_) (fun k _ => Nat.zero_le _), by decide +kernel, ?_⟩
    · refine strOk_of fun j hj => ?_
      have : j ∈ [k] := hj
      rw [List.mem_singleton.mp this]
      exact hx k hk
    · cases fs with
      | nil => exact hΦ
      | cons k fs => exact hΦ
set_option maxHeartbeats 8000000 in
theorem ok__law_digit (T : Tx K mg) : FnOk P w K mg base CX0 1 T.a__law_digit T.d__law_digit ["_law_word_here", "_law_least_here", "_law_most_here"] (spD K 0 3 S__law_digit) := by
  refine fnD T.F__law_digit sc__law_digit fun cdv A outer s H E hr => ⟨_, (psd_cons (psd_if (PDw.pt (pdw_or (pdt_ne hr (pd_len (pd_v 0) T.n_len) pd_int) (pdw_or1 (pdt_nin hr (pd_v 0) pd_str)))) (psd_one (psd_ret pd_non)) psd_nil) (psd_one (psd_ret (pd_if (pdt_lele (pd_v 1) (pd_intc (pd_v 0) T.n_int) (pd_v 2)) (pd_intc (pd_v 0) T.n_int) pd_non)))), ?_⟩
  rintro c ds Φ hc - ⟨t, lo, hi, rfl, ht, hΦ⟩
  cases c with
  | cons _ _ => cases hc
  | nil =>
  conv => whnf
  refine ⟨Nat.le_trans ht (by decide), ?_⟩
  conv => whnf
  split
  · rename_i he
    conv => whnf
    have he : ¬ (t.length : Int) = 1 := by simpa using he
    have : numberOf t lo hi = none := by
      unfold numberOf
      split
      · rename_i k e
        refine absurd ?_ he
        show ((t.cps.size : Nat) : Int) = 1
        rw [← Array.length_toList, e]; rfl
      · rfl
    rw [this] at hΦ
    exact hΦ
  · rename_i he
    have he : (t.length : Int) = 1 := by simpa using he
    obtain ⟨k, rfl⟩ := str_one he
    conv => whnf
    split
    · rename_i hd
      conv => whnf
      have hd : ¬ (48 ≤ k ∧ k ≤ 57) := by
        rw [← dig_in]
        simpa [inS] using hd
      have : numberOf (one k) lo hi = none := by
        show (if _ then _ else _) = _
        rw [if_neg (fun z => hd z.1)]
      rw [this] at hΦ
      exact hΦ
    · rename_i hd
      have hd : 48 ≤ k ∧ k ≤ 57 := by
        rw [← dig_in]
        simpa [inS] using hd
      conv => whnf
      refine ⟨by show 1 ≤ 640; decide, _, dig_val hd, ?_⟩
      conv => whnf
      have fin : ∀ b : Bool, b = decide (lo ≤ (k : Int) - 48 ∧ (k : Int) - 48 ≤ hi) → (match b with | true => some ((k : Int) - 48) | false => none) = numberOf (one k) lo hi := fun b e => by
        show _ = (if _ then _ else _)
        by_cases h : lo ≤ (k : Int) - 48 ∧ (k : Int) - 48 ≤ hi
        · rw [if_pos ⟨hd, h⟩, e, decide_eq_true h]
        · rw [if_neg (fun z => h z.2), e, decide_eq_false h]
      by_cases h1 : lo ≤ (k : Int) - 48
      case neg =>
        rw [show (fun i j => decide (i ≤ j)) lo ((k : Int) - 48) = false from decide_eq_false h1]
        conv => whnf
        rw [← fin false (decide_eq_false fun z => h1 z.1).symm] at hΦ
        exact hΦ
      rw [show (fun i j => decide (i ≤ j)) lo ((k : Int) - 48) = true from decide_eq_true h1]
      conv => whnf
      by_cases h2 : (k : Int) - 48 ≤ hi
      case neg =>
        rw [show (fun i j => decide (i ≤ j)) ((k : Int) - 48) hi = false from decide_eq_false h2]
        conv => whnf
        rw [← fin false (decide_eq_false fun z => h2 z.2).symm] at hΦ
        exact hΦ
      rw [show (fun i j => decide (i ≤ j)) ((k : Int) - 48) hi = true from decide_eq_true h2]
      conv => whnf
      refine ⟨by show 1 ≤ 640; decide, _, dig_val hd, ?_⟩
      conv => whnf
      rw [← fin true (decide_eq_true ⟨h1, h2⟩).symm] at hΦ
      exact hΦ
set_option maxHeartbeats 8000000 in
theorem ok__law_is_state (T : Tx K mg) : FnOk P w K mg base CX0 2 T.a__law_is_state T.d__law_is_state ["_law_word_here", "_law_period"] (spD K 0 2 S__law_is_state) := by
  refine fnD T.F__law_is_state sc__law_is_state fun cdv A outer s H E hr => ⟨_, (psd_one (psd_ret (pd_and (pd_eq hr (pd_len (pd_v 0) T.n_len) pd_int) (pd_and (pd_isnn (pd_callP (ok__law_digit T) (hr.mono (by decide)) T.g__law_digit T.F__law_digit.kp T.b__law_digit pass0 (pds_cons (pd_ix (pd_v 0) pd_int) (pds_cons pd_int (pds_cons (pd_sub (pd_v 1) pd_int) pds_nil)))) pd_non) (pd_one (pd_in hr (pd_ix (pd_v 0) pd_int) pd_str)))))), ?_⟩
  rintro c ds Φ hc - ⟨t, n, rfl, hn, ht, hΦ⟩
  cases c with
  | cons _ _ => cases hc
  | nil =>
  have ht1 := ht.1
  conv => whnf
  refine ⟨short (by omega), ?_⟩
  conv => whnf
  by_cases h2 : (t.length : Int) = 2
  case neg =>
    rw [if_neg (by decide), decide_eq_false h2]
    rw [decide_eq_false (fun z => h2 (st_mem_len hn z))] at hΦ
    exact hΦ
  rw [if_neg (by decide), decide_eq_true h2]
  obtain ⟨k, w, rfl⟩ := str_two h2
  conv => whnf
  refine ⟨short (by show 2 ≤ _; decide), ?_⟩
  rw [show L2.atI (⟨⟨[k, w]⟩⟩ : Str).cps.toList 0 = some k from at_zero _ _]
  conv => whnf
  refine ⟨rfl, rfl, one k, 0, (n : Int) - 1, rfl, by show 1 ≤ 50000; decide, ?_⟩
  rw [show decide ((⟨⟨[k, w]⟩⟩ : Str) ∈ stL n) = ((numberOf (one k) 0 ((n : Int) - 1)).isSome && decide (w = 60 ∨ w = 62)) by
    rw [num_one k n hn, ← Bool.decide_and]; exact decide_eq_decide.mpr (st_mem_two hn)] at hΦ
  cases h3 : numberOf (one k) 0 ((n : Int) - 1) with
  | none =>
    rw [h3] at hΦ
    conv => whnf
    exact hΦ
  | some v =>
    rw [h3] at hΦ
    conv => whnf
    refine ⟨short (by show 2 ≤ _; decide), ?_⟩
    rw [show L2.atI (⟨⟨[k, w]⟩⟩ : Str).cps.toList 1 = some w from rfl]
    conv => whnf
    rw [if_neg (by decide), way_in]
    exact hΦ
set_option maxHeartbeats 8000000 in
theorem ok__law_read_row (T : Tx K mg) : FnOk P w K mg base CX0 3 T.a__law_read_row T.d__law_read_row ["_law_row", "_law_period"] (spD K 0 2 S__law_read_row) := by
  refine fnD T.F__law_read_row sc__law_read_row fun cdv A outer s H E hr => ⟨_, (psd_cons (psd_set (i := 2) sc__law_read_row.nd (pd_split (pd_v 0) pd_str)) (psd_cons (psd_if (PDw.pt (pdw_or (pdt_lt (pd_len (pd_v 2) T.n_len) pd_int) (pdw_or1 (pdt_not (pdt_val (pd_callP (ok__law_is_word T) (hr.mono (by decide)) T.g__law_is_word T.F__law_is_word.kp T.b__law_is_word pass0 (pds_cons (pd_ix (pd_v 2) pd_int) pds_nil))))))) (psd_one (psd_ret pd_non)) psd_nil) (psd_cons (psd_set (i := 3) sc__law_read_row.nd (pd_callP (ok__law_digit T) (hr.mono (by decide)) T.g__law_digit T.F__law_digit.kp T.b__law_digit pass0 (pds_cons (pd_ix (pd_v 2) (pd_neg pd_int)) (pds_cons pd_int (pds_cons pd_int pds_nil))))) (psd_cons (psd_if (PDw.pt (pdw_or (pdt_isn (pd_v 3) pd_non) (pdw_or1 (pdt_ne hr (pd_ix (pd_v 2) (pd_neg pd_int)) pd_str)))) (psd_one (psd_ret pd_non)) psd_nil) (psd_cons (psd_if (PDw.pt (pdw_and (pdt_eq hr (pd_ix (pd_v 2) pd_int) pd_str) (pdw_and (pdt_eq hr (pd_len (pd_v 2) T.n_len) pd_int) (pdw_and1 (pdt_eq hr (pd_ix (pd_v 2) pd_int) pd_str))))) (psd_cons (psd_set (i := 4) sc__law_read_row.nd (pd_callP (ok__law_digit T) (hr.mono (by decide)) T.g__law_digit T.F__law_digit.kp T.b__law_digit pass0 (pds_cons (pd_ix (pd_v 2) pd_int) (pds_cons pd_int (pds_cons pd_int pds_nil))))) (psd_cons (psd_if (PDw.pt (pdw_or (pdt_isn (pd_v 4) pd_non) (pdw_or (pdt_not (pdt_val (pd_callP (ok__law_is_state T) (hr.mono (by decide)) T.g__law_is_state T.F__law_is_state.kp T.b__law_is_state pass0 (pds_cons (pd_ix (pd_v 2) pd_int) (pds_cons (pd_v 1) pds_nil))))) (pdw_or1 (pdt_not (pdt_val (pd_callP (ok__law_is_state T) (hr.mono (by decide)) T.g__law_is_state T.F__law_is_state.kp T.b__law_is_state pass0 (pds_cons (pd_ix (pd_v 2) pd_int) (pds_cons (pd_v 1) pds_nil))))))))) (psd_one (psd_ret pd_non)) psd_nil) (psd_one (psd_ret (pd_tup (pds_cons (pd_ix (pd_v 2) pd_int) (pds_cons (pd_ix (pd_v 2) pd_int) (pds_cons (pd_ix (pd_v 2) pd_int) (pds_cons (pd_v 4) (pds_cons (pd_v 3) pds_nil)))))))))) psd_nil) (psd_cons (psd_if (PDw.pt (pdw_or (pdt_ne hr (pd_ix (pd_v 2) pd_int) pd_str) (pdw_or (pdt_ne hr (pd_len (pd_v 2) T.n_len) pd_int) (pdw_or1 (pdt_nin hr (pd_ix (pd_v 2) pd_int) (pd_lst (pds_cons pd_str (pds_cons pd_str pds_nil)))))))) (psd_one (psd_ret pd_non)) psd_nil) (psd_cons (psd_if (PDw.pt (pdw_or (pdt_not (pdt_val (pd_callP (ok__law_is_state T) (hr.mono (by decide)) T.g__law_is_state T.F__law_is_state.kp T.b__law_is_state pass0 (pds_cons (pd_ix (pd_v 2) pd_int) (pds_cons (pd_v 1) pds_nil))))) (pdw_or1 (pdt_not (pdt_val (pd_callP (ok__law_is_state T) (hr.mono (by decide)) T.g__law_is_state T.F__law_is_state.kp T.b__law_is_state pass0 (pds_cons (pd_ix (pd_v 2) pd_int) (pds_cons (pd_v 1) pds_nil)))))))) (psd_one (psd_ret pd_non)) psd_nil) (psd_one (psd_ret (pd_tup (pds_cons (pd_ix (pd_v 2) pd_int) (pds_cons (pd_ix (pd_v 2) pd_int) (pds_cons (pd_ix (pd_v 2) pd_int) (pds_cons (pd_ix (pd_v 2) pd_int) (pds_cons (pd_v 3) pds_nil))))))))))))))), ?_⟩
  rintro c ds Φ hc - ⟨t, n, rfl, hn, ht, hΦ⟩
  cases c with
  | cons _ _ => cases hc
  | nil =>
  have sp := good_split (y := " ") ht (by decide) (by decide +kernel)
  have ht1 := ht.1
  conv => whnf
  refine ⟨_, rfl, ?_⟩
  conv => whnf
  refine ⟨rfl, short (by omega), ?_⟩
  conv => whnf
  unfold rowD pieceO cornerO at hΦ
  rw [show Txt.split t " " = Txt.split t (Str.ofString " ") from rfl] at hΦ
  generalize Txt.split t (Str.ofString " ") = ws at hΦ sp ⊢
  rcases ws with _ | ⟨a, _ | ⟨b, _ | ⟨c, _ | ⟨d, _ | ⟨e, _ | ⟨f, _ | ⟨g, _ | ⟨u, _ | ⟨z, r⟩⟩⟩⟩⟩⟩⟩⟩⟩
  · conv => whnf
    exact hΦ
  · conv => whnf
    exact hΦ
  · conv => whnf
    exact hΦ
  · conv => whnf
    exact hΦ
  · conv => whnf
    exact hΦ
  · conv => whnf
    exact hΦ
  · conv => whnf
    exact hΦ
  · -- seven words
    have gw : ∀ x ∈ [a, b, c, d, e, f, g], goodT 36000 x := sp.1
    have lenw : ∀ x ∈ [a, b, c, d, e, f, g], x.length ≤ 50000 := fun x hx => Nat.le_trans (gw x hx).1 (by decide)
    have hΦ : Φ (optJ (if a = "corner" ∧ f = "cost" ∧ isLet b 8 = true then
      match bendO c, stOf n d, stOf n e, numberOf g 0 9 with
      | some o, some x, some y, some c => some ⟨b, o, x.1, x.2, y.1, y.2, c.toNat⟩
      | _, _, _, _ => none
    else none)) [] := hΦ
    have bad0 : ¬ (a = "corner" ∧ f = "cost" ∧ isLet b 8 = true) → Φ .non [] := fun z => by
      rw [if_neg z] at hΦ; exact hΦ
    have bad : (bendO c = none ∨ stOf n d = none ∨ stOf n e = none ∨ numberOf g 0 9 = none) → Φ .non [] := fun z => by
      by_cases hl : a = "corner" ∧ f = "cost" ∧ isLet b 8 = true
      · rw [if_pos hl] at hΦ
        generalize bendO c = o1 at z hΦ
        generalize stOf n d = o2 at z hΦ
        generalize stOf n e = o3 at z hΦ
        generalize numberOf g 0 9 = o4 at z hΦ
        rcases z with z | z | z | z
        all_goals (subst z; first | exact hΦ | (cases o1 <;> first | exact hΦ | (cases o2 <;> first | exact hΦ | (cases o3 <;> exact hΦ))))
      · exact bad0 hl
    conv => whnf
    refine ⟨rfl, rfl, b, rfl, gw b (by simp), ?_⟩
    cases hl : isLet b 8 with
    | false =>
      conv => whnf
      exact bad0 fun z => by rw [hl] at z; cases z.2.2
    | true =>
    conv => whnf
    refine ⟨rfl, rfl, g, 0, 9, rfl, lenw g (by simp), ?_⟩
    cases h5 : numberOf g 0 9 with
    | none =>
      conv => whnf
      exact bad (.inr (.inr (.inr h5)))
    | some v =>
    conv => whnf
    by_cases hf : f = "cost"
    case neg =>
      rw [if_pos rfl, decide_eq_false (show ¬ f = Str.ofString "cost" from hf)]
      conv => whnf
      exact bad0 fun z => hf z.2.1
    rw [if_pos rfl, decide_eq_true (show f = Str.ofString "cost" from hf)]
    conv => whnf
    have tail : (dSeq
              (dIfS
                (dOr (dT (dBin (fEq true) (dBin fIx (dVar 2) (dC (.int 0))) (dC (.str "corner"))))
                  (dOr (dT (dBin (fEq true) (dCB (un1 fLen) (dCons (dVar 2) dNil)) (dC (.int 7))))
                    (dT
                      (dBin (fIn true) (dBin fIx (dVar 2) (dC (.int 2)))
                        (dLst (dCons (dC (.str "out")) (dCons (dC (.str "in")) dNil)))))))
                (dRet (dC .non)) dNext) (dSeq
              (dIfS
                (dOr (dNot (dT (dCallP S__law_is_state 2 (dCons (dBin fIx (dVar 2) (dC (.int 3))) (dCons (dVar 1) dNil)))))
                  (dNot (dT (dCallP S__law_is_state 2 (dCons (dBin fIx (dVar 2) (dC (.int 4))) (dCons (dVar 1) dNil))))))
                (dRet (dC .non)) dNext)
              (dRet
                (dTup
                  (dCons (dBin fIx (dVar 2) (dC (.int 1)))
                    (dCons (dBin fIx (dVar 2) (dC (.int 2)))
                      (dCons (dBin fIx (dVar 2) (dC (.int 3)))
                        (dCons (dBin fIx (dVar 2) (dC (.int 4))) (dCons (dVar 3) dNil)))))))))
            ⟨fun x c' => retD 0 Φ .non c', retD 0 Φ, fun _ _ => False, fun _ _ => False⟩
            [some (.str t), some (.int n), some (.lst ([a, b, c, d, e, f, g].map .str)), some (.int v), none] [] := by
      conv => whnf
      by_cases hc : a = "corner"
      case neg =>
        rw [if_pos rfl, decide_eq_false (show ¬ a = Str.ofString "corner" from hc)]
        conv => whnf
        exact bad0 fun z => hc z.1
      rw [if_pos rfl, decide_eq_true (show a = Str.ofString "corner" from hc)]
      conv => whnf
      refine ⟨by show 2 ≤ sizeLine; decide, ?_⟩
      conv => whnf
      refine .inl ⟨_, rfl, rfl, rfl, ?_⟩
      rw [show inF (.str c) [.str (Str.ofString "out"), .str (Str.ofString "in")] = decide (c ∈ (["out", "in"] : List Str)) from inF_strs c ["out", "in"], bend_mem]
      cases h0 : bendO c with
      | none =>
        conv => whnf
        exact bad (.inl h0)
      | some ob =>
      conv => whnf
      refine ⟨rfl, rfl, d, n, rfl, hn, gw d (by simp), ?_⟩
      rw [stOf_mem]
      cases h1 : stOf n d with
      | none =>
        conv => whnf
        exact bad (.inr (.inl h1))
      | some x =>
      conv => whnf
      refine ⟨rfl, rfl, e, n, rfl, hn, gw e (by simp), ?_⟩
      rw [stOf_mem]
      cases h2 : stOf n e with
      | none =>
        conv => whnf
        exact bad (.inr (.inr (.inl h2)))
      | some y =>
      conv => whnf
      refine ⟨by show 5 ≤ sizeLine; decide, ?_⟩
      conv => whnf
      rw [if_pos ⟨hc, hf, hl⟩, h0, h1, h2, h5] at hΦ
      have hΦ : Φ (.tup [.str b, .str (bendS ob), .str (stS x.1 x.2), .str (stS y.1 y.2), .int ((v.toNat : Nat) : Int)]) [] := hΦ
      have q0 := bend_some h0
      obtain ⟨_, q2⟩ := stOf_some h1
      obtain ⟨_, q4⟩ := stOf_some h2
      obtain ⟨q6, _⟩ := num_some h5
      rw [← q0, ← q2, ← q4, Int.toNat_of_nonneg (by omega)] at hΦ
      exact hΦ
    by_cases hp : a = "piece"
    · rw [if_neg (by decide), decide_eq_true (show a = Str.ofString "piece" from hp)]
      conv => whnf
      have ne : ¬ a = "corner" := by rw [hp]; decide +kernel
      rw [if_pos rfl, decide_eq_false (show ¬ a = Str.ofString "corner" from ne)]
      conv => whnf
      exact bad0 fun z => ne z.1
    · rw [if_neg (by decide), decide_eq_false (show ¬ a = Str.ofString "piece" from hp)]
      exact tail
  · -- eight words
    have gw : ∀ x ∈ [a, b, c, d, e, f, g, u], goodT 36000 x := sp.1
    have lenw : ∀ x ∈ [a, b, c, d, e, f, g, u], x.length ≤ 50000 := fun x hx => Nat.le_trans (gw x hx).1 (by decide)
    have hΦ : Φ (match (if a = "piece" ∧ e = "long" ∧ g = "cost" ∧ isLet b 8 = true then
      match stOf n c, stOf n d, numberOf f 1 6, numberOf u 0 9 with
      | some x, some y, some l, some c => some (⟨b, x.1, x.2, y.1, y.2, l.toNat, c.toNat⟩ : Part)
      | _, _, _, _ => none
    else none) with
      | some p => p.d'
      | none => .non) [] := hΦ
    have bad0 : ¬ (a = "piece" ∧ e = "long" ∧ g = "cost" ∧ isLet b 8 = true) → Φ .non [] := fun z => by
      rw [if_neg z] at hΦ; exact hΦ
    have bad : (stOf n c = none ∨ stOf n d = none ∨ numberOf f 1 6 = none ∨ numberOf u 0 9 = none) → Φ .non [] := fun z => by
      by_cases hl : a = "piece" ∧ e = "long" ∧ g = "cost" ∧ isLet b 8 = true
      · rw [if_pos hl] at hΦ
        generalize stOf n c = o1 at z hΦ
        generalize stOf n d = o2 at z hΦ
        generalize numberOf f 1 6 = o3 at z hΦ
        generalize numberOf u 0 9 = o4 at z hΦ
        rcases z with z | z | z | z
        all_goals (subst z; first | exact hΦ | (cases o1 <;> first | exact hΦ | (cases o2 <;> first | exact hΦ | (cases o3 <;> exact hΦ))))
      · exact bad0 hl
    conv => whnf
    refine ⟨rfl, rfl, b, rfl, gw b (by simp), ?_⟩
    cases hl : isLet b 8 with
    | false =>
      conv => whnf
      exact bad0 fun z => by rw [hl] at z; cases z.2.2.2
    | true =>
    conv => whnf
    refine ⟨rfl, rfl, u, 0, 9, rfl, lenw u (by simp), ?_⟩
    cases h5 : numberOf u 0 9 with
    | none =>
      conv => whnf
      exact bad (.inr (.inr (.inr h5)))
    | some v =>
    conv => whnf
    by_cases hg : g = "cost"
    case neg =>
      rw [if_pos rfl, decide_eq_false (show ¬ g = Str.ofString "cost" from hg)]
      conv => whnf
      exact bad0 fun z => hg z.2.2.1
    rw [if_pos rfl, decide_eq_true (show g = Str.ofString "cost" from hg)]
    conv => whnf
    have tail : ¬ (a = "piece" ∧ e = "long") → (dSeq
              (dIfS
                (dOr (dT (dBin (fEq true) (dBin fIx (dVar 2) (dC (.int 0))) (dC (.str "corner"))))
                  (dOr (dT (dBin (fEq true) (dCB (un1 fLen) (dCons (dVar 2) dNil)) (dC (.int 7))))
                    (dT
                      (dBin (fIn true) (dBin fIx (dVar 2) (dC (.int 2)))
                        (dLst (dCons (dC (.str "out")) (dCons (dC (.str "in")) dNil)))))))
                (dRet (dC .non)) dNext) (dSeq
              (dIfS
                (dOr (dNot (dT (dCallP S__law_is_state 2 (dCons (dBin fIx (dVar 2) (dC (.int 3))) (dCons (dVar 1) dNil)))))
                  (dNot (dT (dCallP S__law_is_state 2 (dCons (dBin fIx (dVar 2) (dC (.int 4))) (dCons (dVar 1) dNil))))))
                (dRet (dC .non)) dNext)
              (dRet
                (dTup
                  (dCons (dBin fIx (dVar 2) (dC (.int 1)))
                    (dCons (dBin fIx (dVar 2) (dC (.int 2)))
                      (dCons (dBin fIx (dVar 2) (dC (.int 3)))
                        (dCons (dBin fIx (dVar 2) (dC (.int 4))) (dCons (dVar 3) dNil)))))))))
            ⟨fun x c' => retD 0 Φ .non c', retD 0 Φ, fun _ _ => False, fun _ _ => False⟩
            [some (.str t), some (.int n), some (.lst ([a, b, c, d, e, f, g, u].map .str)), some (.int v), none] [] := fun no => by
      conv => whnf
      by_cases hc : a = "corner"
      · rw [if_pos rfl, decide_eq_true (show a = Str.ofString "corner" from hc)]
        conv => whnf
        exact bad0 fun z => no ⟨z.1, z.2.1⟩
      · rw [if_pos rfl, decide_eq_false (show ¬ a = Str.ofString "corner" from hc)]
        conv => whnf
        exact bad0 fun z => no ⟨z.1, z.2.1⟩
    by_cases hp : a = "piece"
    case neg =>
      rw [if_neg (by decide), decide_eq_false (show ¬ a = Str.ofString "piece" from hp)]
      exact tail fun z => hp z.1
    rw [if_neg (by decide), decide_eq_true (show a = Str.ofString "piece" from hp)]
    conv => whnf
    by_cases he : e = "long"
    case neg =>
      rw [if_neg (by decide), decide_eq_false (show ¬ e = Str.ofString "long" from he)]
      exact tail fun z => he z.2
    rw [if_neg (by decide), decide_eq_true (show e = Str.ofString "long" from he)]
    conv => whnf
    refine ⟨rfl, rfl, f, 1, 6, rfl, lenw f (by simp), ?_⟩
    cases h4 : numberOf f 1 6 with
    | none =>
      conv => whnf
      exact bad (.inr (.inr (.inl h4)))
    | some y4 =>
    conv => whnf
    refine ⟨rfl, rfl, c, n, rfl, hn, gw c (by simp), ?_⟩
    rw [stOf_mem]
    cases h1 : stOf n c with
    | none =>
      conv => whnf
      exact bad (.inl h1)
    | some x =>
    conv => whnf
    refine ⟨rfl, rfl, d, n, rfl, hn, gw d (by simp), ?_⟩
    rw [stOf_mem]
    cases h2 : stOf n d with
    | none =>
      conv => whnf
      exact bad (.inr (.inl h2))
    | some y =>
    conv => whnf
    refine ⟨by show 5 ≤ sizeLine; decide, ?_⟩
    conv => whnf
    rw [if_pos ⟨hp, he, hg, hl⟩, h1, h2, h4, h5] at hΦ
    have hΦ : Φ (.tup [.str b, .str (stS x.1 x.2), .str (stS y.1 y.2), .int ((y4.toNat : Nat) : Int), .int ((v.toNat : Nat) : Int)]) [] := hΦ
    obtain ⟨_, q2⟩ := stOf_some h1
    obtain ⟨_, q4⟩ := stOf_some h2
    obtain ⟨q5, _⟩ := num_some h4
    obtain ⟨q6, _⟩ := num_some h5
    rw [← q2, ← q4, Int.toNat_of_nonneg (by omega), Int.toNat_of_nonneg (by omega)] at hΦ
    exact hΦ
  · -- more
    have hΦ : Φ .non [] := hΦ
    have s1 := sp.1
    have hlen : ((((a :: b :: c :: d :: e :: f :: g :: u :: z :: r).map D.str).length : Nat) : Int) = (r.length : Int) + 9 := by
      rw [List.length_map]; show ((r.length + 1 + 1 + 1 + 1 + 1 + 1 + 1 + 1 + 1 : Nat) : Int) = _; omega
    obtain ⟨y1, m1, a1⟩ := at_back (ws := a :: b :: c :: d :: e :: f :: g :: u :: z :: r) (k := 1) (by decide) (by simp)
    obtain ⟨y2, m2, a2⟩ := at_back (ws := a :: b :: c :: d :: e :: f :: g :: u :: z :: r) (k := 2) (by decide) (by simp)
    rw [hlen, show (fun i j => decide (i < j)) ((r.length : Int) + 9) 7 = false from decide_eq_false (by omega)]
    conv => whnf
    rw [show L2.atI ((a :: b :: c :: d :: e :: f :: g :: u :: z :: r).map D.str) 1 = some (.str b) from at_one _ _ _]
    conv => whnf
    refine ⟨rfl, rfl, b, rfl, s1 b (by simp), ?_⟩
    cases hl : isLet b 8 with
    | false =>
      conv => whnf
      exact hΦ
    | true =>
    conv => whnf
    rw [show L2.atI ((a :: b :: c :: d :: e :: f :: g :: u :: z :: r).map D.str) (-1) = some (.str y1) from a1]
    conv => whnf
    refine ⟨rfl, rfl, y1, 0, 9, rfl, Nat.le_trans (s1 y1 m1).1 (by decide), ?_⟩
    cases h5 : numberOf y1 0 9 with
    | none =>
      conv => whnf
      exact hΦ
    | some v =>
    conv => whnf
    rw [show L2.atI ((a :: b :: c :: d :: e :: f :: g :: u :: z :: r).map D.str) (-2) = some (.str y2) from a2]
    conv => whnf
    by_cases hg : y2 = "cost"
    case neg =>
      rw [if_pos rfl, decide_eq_false (show ¬ y2 = Str.ofString "cost" from hg)]
      conv => whnf
      exact hΦ
    rw [if_pos rfl, decide_eq_true (show y2 = Str.ofString "cost" from hg)]
    conv => whnf
    rw [show L2.atI ((a :: b :: c :: d :: e :: f :: g :: u :: z :: r).map D.str) 0 = some (.str a) from at_zero _ _]
    conv => whnf
    have tail : (dSeq
              (dIfS
                (dOr (dT (dBin (fEq true) (dBin fIx (dVar 2) (dC (.int 0))) (dC (.str "corner"))))
                  (dOr (dT (dBin (fEq true) (dCB (un1 fLen) (dCons (dVar 2) dNil)) (dC (.int 7))))
                    (dT
                      (dBin (fIn true) (dBin fIx (dVar 2) (dC (.int 2)))
                        (dLst (dCons (dC (.str "out")) (dCons (dC (.str "in")) dNil)))))))
                (dRet (dC .non)) dNext) (dSeq
              (dIfS
                (dOr (dNot (dT (dCallP S__law_is_state 2 (dCons (dBin fIx (dVar 2) (dC (.int 3))) (dCons (dVar 1) dNil)))))
                  (dNot (dT (dCallP S__law_is_state 2 (dCons (dBin fIx (dVar 2) (dC (.int 4))) (dCons (dVar 1) dNil))))))
                (dRet (dC .non)) dNext)
              (dRet
                (dTup
                  (dCons (dBin fIx (dVar 2) (dC (.int 1)))
                    (dCons (dBin fIx (dVar 2) (dC (.int 2)))
                      (dCons (dBin fIx (dVar 2) (dC (.int 3)))
                        (dCons (dBin fIx (dVar 2) (dC (.int 4))) (dCons (dVar 3) dNil)))))))))
            ⟨fun x c' => retD 0 Φ .non c', retD 0 Φ, fun _ _ => False, fun _ _ => False⟩
            [some (.str t), some (.int n), some (.lst ((a :: b :: c :: d :: e :: f :: g :: u :: z :: r).map .str)), some (.int v), none] [] := by
      conv => whnf
      rw [show L2.atI ((a :: b :: c :: d :: e :: f :: g :: u :: z :: r).map D.str) 0 = some (.str a) from at_zero _ _]
      conv => whnf
      by_cases hc : a = "corner"
      · rw [if_pos rfl, decide_eq_true (show a = Str.ofString "corner" from hc)]
        conv => whnf
        exact hΦ
      · rw [if_pos rfl, decide_eq_false (show ¬ a = Str.ofString "corner" from hc)]
        conv => whnf
        exact hΦ
    by_cases hp : a = "piece"
    case neg =>
      rw [if_neg (by decide), decide_eq_false (show ¬ a = Str.ofString "piece" from hp)]
      exact tail
    rw [if_neg (by decide), decide_eq_true (show a = Str.ofString "piece" from hp)]
    conv => whnf
    exact tail
set_option maxHeartbeats 8000000 in
theorem ok__law_bent (T : Tx K mg) : FnOk P w K mg base CX0 2 T.a__law_bent T.d__law_bent ["_law_spring_here", "_law_thing"] (spD K 1 2 S__law_bent) := by
  refine fnD T.F__law_bent sc__law_bent fun cdv A outer s H E hr => ⟨_, (psd_cons (psd_set (i := 2) sc__law_bent.nd pd_str) (psd_cons (psd_set (i := 2) sc__law_bent.nd (pd_add (pd_v 2) pd_str)) (psd_cons (psd_par (i := 3) (j := 4) rfl sc__law_bent.nd (pd_callM (ok__law_take T) (hr.mono (by decide)) T.g__law_take T.F__law_take.kp T.b__law_take pass0 (pds_cons (pd_v 0) (pds_cons pd_int pds_nil))) (pd_callM (ok__law_take T) (hr.mono (by decide)) T.g__law_take T.F__law_take.kp T.b__law_take pass0 (pds_cons (pd_v 0) (pds_cons (pd_add (pd_len (pd_v 1) T.n_len) pd_int) pds_nil)))) (psd_cons (psd_set (i := 5) sc__law_bent.nd (pd_ix (pd_v 2) (pd_callM (ok__law_take T) (hr.mono (by decide)) T.g__law_take T.F__law_take.kp T.b__law_take pass0 (pds_cons (pd_v 0) (pds_cons (pd_len (pd_v 2) T.n_len) pds_nil))))) (psd_cons (psd_if (pdt_eq hr (pd_v 3) pd_int) (psd_one (psd_ret (pd_add (pd_sl (pd_v 1) po_no (po_so (pd_v 4))) (pd_sl (pd_v 1) (po_so (pd_add (pd_v 4) pd_int)) po_no)))) psd_nil) (psd_cons (psd_if (pdt_eq hr (pd_v 3) pd_int) (psd_one (psd_ret (pd_add (pd_add (pd_sl (pd_v 1) po_no (po_so (pd_v 4))) (pd_v 5)) (pd_sl (pd_v 1) (po_so (pd_add (pd_v 4) pd_int)) po_no)))) psd_nil) (psd_cons (psd_if (pdt_eq hr (pd_v 3) pd_int) (psd_one (psd_ret (pd_add (pd_add (pd_sl (pd_v 1) po_no (po_so (pd_v 4))) (pd_v 5)) (pd_sl (pd_v 1) (po_so (pd_v 4)) po_no)))) psd_nil) (psd_cons (psd_if (pdt_lt (pd_v 3) pd_int) (psd_cons (psd_set (i := 6) sc__law_bent.nd (pd_splitM (pd_v 1) pd_str)) (psd_cons (psd_par (i := 7) (j := 8) rfl sc__law_bent.nd (pd_callM (ok__law_take T) (hr.mono (by decide)) T.g__law_take T.F__law_take.kp T.b__law_take pass0 (pds_cons (pd_v 0) (pds_cons (pd_len (pd_v 6) T.n_len) pds_nil))) (pd_callM (ok__law_take T) (hr.mono (by decide)) T.g__law_take T.F__law_take.kp T.b__law_take pass0 (pds_cons (pd_v 0) (pds_cons (pd_len (pd_v 6) T.n_len) pds_nil)))) (psd_cons (psd_asg (pd_tup (pds_cons (pd_ix (pd_v 6) (pd_v 8)) (pds_cons (pd_ix (pd_v 6) (pd_if (pdt_eq hr (pd_v 3) pd_int) (pd_v 7) (pd_v 8))) pds_nil))) (pgd_tup rfl (pgds_cons (pgd_sub (pd_v 6) (pd_v 7)) (pgds_cons (pgd_sub (pd_v 6) (pd_v 8)) pgds_nil)))) (psd_one (psd_ret (pd_join pd_str (pd_v 6))))))) psd_nil) (psd_cons (psd_set (i := 9) sc__law_bent.nd (pd_splitM (pd_v 1) pd_str)) (psd_cons (psd_set (i := 10) sc__law_bent.nd (pd_lst (pds_cons pd_str (pds_cons pd_str (pds_cons pd_str (pds_cons pd_str (pds_cons pd_str (pds_cons pd_str (pds_cons pd_str (pds_cons pd_str (pds_cons pd_str (pds_cons pd_str (pds_cons pd_str (pds_cons pd_str (pds_cons pd_str (pds_cons pd_str (pds_cons pd_str (pds_cons pd_str (pds_cons pd_str (pds_cons pd_str pds_nil)))))))))))))))))))) (psd_cons (psd_set (i := 10) sc__law_bent.nd (pd_add (pd_v 10) (pd_lst (pds_cons pd_str (pds_cons pd_str (pds_cons pd_str (pds_cons pd_str (pds_cons pd_str (pds_cons pd_str (pds_cons pd_str (pds_cons pd_str (pds_cons pd_str (pds_cons pd_str (pds_cons pd_str (pds_cons pd_str pds_nil))))))))))))))) (psd_cons (psd_asg (pd_ix (pd_v 10) (pd_callM (ok__law_take T) (hr.mono (by decide)) T.g__law_take T.F__law_take.kp T.b__law_take pass0 (pds_cons (pd_v 0) (pds_cons (pd_len (pd_v 10) T.n_len) pds_nil)))) (pgd_sub (pd_v 9) (pd_callM (ok__law_take T) (hr.mono (by decide)) T.g__law_take T.F__law_take.kp T.b__law_take pass0 (pds_cons (pd_v 0) (pds_cons (pd_len (pd_v 9) T.n_len) pds_nil))))) (psd_one (psd_ret (pd_join pd_str (pd_v 9)))))))))))))))), ?_⟩
  rintro c ds Φ hc - ⟨a, b, k, t, n, lim, rfl, rfl, ht, hn, hlim, hB, hΦ⟩
  conv => whnf
  refine ⟨by decide, ?_⟩
  conv => whnf
  refine ⟨rfl, ?_⟩
  refine take_call (rest := []) hB (by omega) (by decide) fun y a1 b1 k1 p1 q1 hB1 => ?_
  have ht1 := ht.1
  conv => whnf
  refine ⟨short (by omega), ?_⟩
  conv => whnf
  refine ⟨rfl, ?_⟩
  refine take_call (rest := []) hB1 (by omega) (by omega) fun u a2 b2 k2 p2 q2 hB2 => ?_
  conv => whnf
  refine ⟨by decide +kernel, ?_⟩
  conv => whnf
  refine ⟨rfl, ?_⟩
  refine take_call (rest := []) hB2 (by omega) (by decide +kernel) fun v a3 b3 k3 p3 q3 hB3 => ?_
  conv => whnf
  have hall : ((Str.ofString " !\"#$&'()*+,-./0123456789:;<=>?@ABCDEFGHIJKLMNOPQRSTUVWXYZ[\\]^_-" ++ Str.ofString "`abcdefghijklmnopqrstuvwxyz{|}~\n")).cps.toList.all (· < 0x110000) = true := by decide +kernel
  refine ⟨by decide +kernel, ?_⟩
  generalize (Str.ofString " !\"#$&'()*+,-./0123456789:;<=>?@ABCDEFGHIJKLMNOPQRSTUVWXYZ[\\]^_-" ++ Str.ofString "`abcdefghijklmnopqrstuvwxyz{|}~\n") = sg at hall q3 ⊢
  obtain ⟨q, hq, eq⟩ := at_any (l := sg.cps.toList) p3 (by rw [Array.length_toList]; exact q3)
  have hq : q < 0x110000 := of_decide_eq_true (List.all_eq_true.mp hall q hq)
  rw [eq]
  have hB5 : B3 a3 b3 k3 (lim + 5) := hB3.up (by omega)
  have hy : y = 0 ∨ y = 1 ∨ y = 2 ∨ y = 3 ∨ y = 4 ∨ y = 5 ∨ y = 6 ∨ y = 7 ∨ y = 8 := by omega
  have gl := fun lo hi => good_cut ht lo hi
  have hz : (cutS t none (some u) ++ (⟨#[q]⟩ : Str)).length ≤ n + 1 := (good_app (gl none (some u)) (good_one hq)).1
  rcases hy with rfl | rfl | rfl | rfl | rfl | rfl | rfl | rfl | rfl
  · conv => whnf
    refine ⟨short (by omega), ?_⟩
    conv => whnf
    refine ⟨short (by omega), ?_⟩
    conv => whnf
    refine ⟨short (by have := cut_len t none (some u); have := cut_len t (some (u + 1)) none; omega), ?_⟩
    conv => whnf
    exact hΦ _ _ _ _ (good_up (good_app (gl _ _) (gl _ _)) (by omega)) hB5
  · conv => whnf
    refine ⟨short (by omega), ?_⟩
    conv => whnf
    refine ⟨short (by have := cut_len t none (some u); show _ + 1 ≤ _; omega), ?_⟩
    conv => whnf
    refine ⟨short (by omega), ?_⟩
    conv => whnf
    refine ⟨short (by have := hz; have := cut_len t (some (u + 1)) none; omega), ?_⟩
    conv => whnf
    exact hΦ _ _ _ _ (good_up (good_app (good_app (gl _ _) (good_one hq)) (gl _ _)) (by omega)) hB5
  · conv => whnf
    refine ⟨short (by omega), ?_⟩
    conv => whnf
    refine ⟨short (by have := cut_len t none (some u); show _ + 1 ≤ _; omega), ?_⟩
    conv => whnf
    refine ⟨short (by omega), ?_⟩
    conv => whnf
    refine ⟨short (by have := hz; have := cut_len t (some u) none; omega), ?_⟩
    conv => whnf
    exact hΦ _ _ _ _ (good_up (good_app (good_app (gl _ _) (good_one hq)) (gl _ _)) (by omega)) hB5
  · conv => whnf
    refine ⟨_, rfl, ?_⟩
    conv => whnf
    refine ⟨rfl, short (by omega), ?_⟩
    have sp := good_split (y := "\n") ht (by decide) (by decide +kernel)
    rw [show Txt.split t (Str.ofString "\n") = Txt.split t "\n" from rfl]
    generalize Txt.split t "\n" = rows at sp ⊢
    conv => whnf
    have hrl : (rows.map D.str).length = rows.length := List.length_map ..
    have s1 := sp.1
    have s2 := sp.2.1
    have s3 := sp.2.2
    refine ⟨rfl, ?_⟩
    refine take_call (rest := [.lst (rows.map .str)]) hB3 (by omega) (by omega) fun h a4 b4 k4 p4 q4 hB4 => ?_
    conv => whnf
    refine ⟨rfl, ?_⟩
    refine take_call (rest := [.lst (rows.map .str)]) hB4 (by omega) (by omega) fun j a5 b5 k5 p5 q5 hB5 => ?_
    obtain ⟨dj, hdj, ej⟩ := at_any (l := rows.map D.str) p5 q5
    obtain ⟨xj, hxj, rfl⟩ := List.mem_map.mp hdj
    obtain ⟨dh, hdh, eh⟩ := at_any (l := rows.map D.str) p4 q4
    obtain ⟨xh, hxh, rfl⟩ := List.mem_map.mp hdh
    conv => whnf
    rw [ej]
    conv => whnf
    rw [eh]
    conv => whnf
    refine ⟨by show 2 ≤ sizeLine; decide, ?_⟩
    conv => whnf
    refine ⟨rfl, ?_⟩
    conv => whnf
    refine ⟨1, rfl, ?_⟩
    conv => whnf
    refine ⟨_, _, h.toNat, rfl, rfl, ix_in p4 q4, ?_⟩
    conv => whnf
    refine ⟨1, rfl, ?_⟩
    conv => whnf
    refine ⟨_, _, j.toNat, rfl, rfl, ix_in p5 (by rw [List.length_set]; exact q5), ?_⟩
    conv => whnf
    refine ⟨rfl, ?_⟩
    rw [show ((rows.map D.str).set h.toNat (.str xj)).set j.toNat (.str xh) = ((rows.set h.toNat xj).set j.toNat xh).map D.str by rw [List.map_set, List.map_set]]
    conv => whnf
    refine ⟨_, rfl, ?_⟩
    conv => whnf
    have hsum : (((rows.set h.toNat xj).set j.toNat xh).map (·.length)).sum ≤ 3 * n + 9 := by
      rw [List.map_set, List.map_set]
      have a1 := sum_set ((rows.map (·.length)).set h.toNat xj.length) j.toNat xh.length
      have a2 := sum_set (rows.map (·.length)) h.toNat xj.length
      have a3 := (s1 xj hxj).1
      have a4 := (s1 xh hxh).1
      omega
    have hcnt : ((rows.set h.toNat xj).set j.toNat xh).length ≤ n + 1 := by
      rw [List.length_set, List.length_set]; omega
    have hmem : ∀ x ∈ (rows.set h.toNat xj).set j.toNat xh, goodT (n + 9) x := fun x hx => by
      rcases List.mem_or_eq_of_mem_set hx with hx | rfl
      · rcases List.mem_or_eq_of_mem_set hx with hx | rfl
        · exact good_up (s1 x hx) (by omega)
        · exact good_up (s1 _ hxj) (by omega)
      · exact good_up (s1 _ hxh) (by omega)
    have gj := good_join (y := "\n") (s := 3 * n + 9) (c := n + 1) (n := n + 9) ⟨by decide, by decide +kernel⟩ hsum hcnt hmem
    refine ⟨(rows.set h.toNat xj).set j.toNat xh, txts_of _, ?_, ?_⟩
    · rw [show (Str.ofString "\n").length = 1 by decide, Nat.mul_one]
      omega
    conv => whnf
    exact ⟨rfl, rfl, hΦ _ _ _ _ (good_up gj (by omega)) (hB5.up (by omega))⟩
  · conv => whnf
    refine ⟨_, rfl, ?_⟩
    conv => whnf
    refine ⟨rfl, short (by omega), ?_⟩
    have sp := good_split (y := "\n") ht (by decide) (by decide +kernel)
    rw [show Txt.split t (Str.ofString "\n") = Txt.split t "\n" from rfl]
    generalize Txt.split t "\n" = rows at sp ⊢
    conv => whnf
    have hrl : (rows.map D.str).length = rows.length := List.length_map ..
    have s1 := sp.1
    have s2 := sp.2.1
    have s3 := sp.2.2
    refine ⟨rfl, ?_⟩
    refine take_call (rest := [.lst (rows.map .str)]) hB3 (by omega) (by omega) fun h a4 b4 k4 p4 q4 hB4 => ?_
    conv => whnf
    refine ⟨rfl, ?_⟩
    refine take_call (rest := [.lst (rows.map .str)]) hB4 (by omega) (by omega) fun j a5 b5 k5 p5 q5 hB5 => ?_
    obtain ⟨dj, hdj, ej⟩ := at_any (l := rows.map D.str) p5 q5
    obtain ⟨xj, hxj, rfl⟩ := List.mem_map.mp hdj
    obtain ⟨dh, hdh, eh⟩ := at_any (l := rows.map D.str) p4 q4
    obtain ⟨xh, hxh, rfl⟩ := List.mem_map.mp hdh
    conv => whnf
    rw [ej]
    conv => whnf
    rw [ej]
    conv => whnf
    refine ⟨by show 2 ≤ sizeLine; decide, ?_⟩
    conv => whnf
    refine ⟨rfl, ?_⟩
    conv => whnf
    refine ⟨1, rfl, ?_⟩
    conv => whnf
    refine ⟨_, _, h.toNat, rfl, rfl, ix_in p4 q4, ?_⟩
    conv => whnf
    refine ⟨1, rfl, ?_⟩
    conv => whnf
    refine ⟨_, _, j.toNat, rfl, rfl, ix_in p5 (by rw [List.length_set]; exact q5), ?_⟩
    conv => whnf
    refine ⟨rfl, ?_⟩
    rw [show ((rows.map D.str).set h.toNat (.str xj)).set j.toNat (.str xj) = ((rows.set h.toNat xj).set j.toNat xj).map D.str by rw [List.map_set, List.map_set]]
    conv => whnf
    refine ⟨_, rfl, ?_⟩
    conv => whnf
    have hsum : (((rows.set h.toNat xj).set j.toNat xj).map (·.length)).sum ≤ 3 * n + 9 := by
      rw [List.map_set, List.map_set]
      have a1 := sum_set ((rows.map (·.length)).set h.toNat xj.length) j.toNat xj.length
      have a2 := sum_set (rows.map (·.length)) h.toNat xj.length
      have a3 := (s1 xj hxj).1
      have a4 := (s1 xj hxj).1
      omega
    have hcnt : ((rows.set h.toNat xj).set j.toNat xj).length ≤ n + 1 := by
      rw [List.length_set, List.length_set]; omega
    have hmem : ∀ x ∈ (rows.set h.toNat xj).set j.toNat xj, goodT (n + 9) x := fun x hx => by
      rcases List.mem_or_eq_of_mem_set hx with hx | rfl
      · rcases List.mem_or_eq_of_mem_set hx with hx | rfl
        · exact good_up (s1 x hx) (by omega)
        · exact good_up (s1 _ hxj) (by omega)
      · exact good_up (s1 _ hxj) (by omega)
    have gj := good_join (y := "\n") (s := 3 * n + 9) (c := n + 1) (n := n + 9) ⟨by decide, by decide +kernel⟩ hsum hcnt hmem
    refine ⟨(rows.set h.toNat xj).set j.toNat xj, txts_of _, ?_, ?_⟩
    · rw [show (Str.ofString "\n").length = 1 by decide, Nat.mul_one]
      omega
    conv => whnf
    exact ⟨rfl, rfl, hΦ _ _ _ _ (good_up gj (by omega)) (hB5.up (by omega))⟩
  all_goals
    conv => whnf
    refine ⟨_, rfl, ?_⟩
    conv => whnf
    refine ⟨rfl, short (by omega), ?_⟩
    have sp := good_split (y := " ") ht (by decide) (by decide +kernel)
    rw [show Txt.split t (Str.ofString " ") = Txt.split t " " from rfl]
    generalize Txt.split t " " = rows at sp ⊢
    conv => whnf
    refine ⟨by show 18 ≤ sizeLine; decide, ?_⟩
    conv => whnf
    refine ⟨by show 12 ≤ sizeLine; decide, ?_⟩
    conv => whnf
    refine ⟨by show 18 + 12 ≤ sizeLine; decide, ?_⟩
    conv => whnf
    refine ⟨rfl, ?_⟩
    refine take_call (m := 30) (rest := [.lst (rows.map .str)]) hB3 (by omega) (by decide) fun h a4 b4 k4 p4 q4 hB4 => ?_
    refine ix_any (ds := someW) p4 q4 fun d hd => ?_
    obtain ⟨w, rfl, hw⟩ := someW_in hd
    have hrl : (rows.map D.str).length = rows.length := List.length_map ..
    have s1 := sp.1
    have s2 := sp.2.1
    have s3 := sp.2.2
    conv => whnf
    refine ⟨1, rfl, ?_⟩
    conv => whnf
    refine ⟨rfl, ?_⟩
    refine take_call (rest := [.lst (rows.map .str)]) hB4 (by omega) (by omega) fun j a5 b5 k5 p5 q5 hB5 => ?_
    conv => whnf
    refine ⟨_, _, j.toNat, rfl, rfl, ix_in p5 q5, ?_⟩
    conv => whnf
    rw [show (rows.map D.str).set j.toNat (.str w) = (rows.set j.toNat w).map D.str by rw [List.map_set]]
    refine ⟨_, rfl, ?_⟩
    conv => whnf
    have hsum : ((rows.set j.toNat w).map (·.length)).sum ≤ 3 * n + 9 := by
      rw [List.map_set]
      have a1 := sum_set (rows.map (·.length)) j.toNat w.length
      have a3 := hw.1
      omega
    have hcnt : (rows.set j.toNat w).length ≤ n + 1 := by
      rw [List.length_set]; omega
    have hmem : ∀ x ∈ rows.set j.toNat w, goodT (n + 9) x := fun x hx => by
      rcases List.mem_or_eq_of_mem_set hx with hx | rfl
      · exact good_up (s1 x hx) (by omega)
      · exact good_up hw (by omega)
    have gj := good_join (y := " ") (s := 3 * n + 9) (c := n + 1) (n := n + 9) ⟨by decide, by decide +kernel⟩ hsum hcnt hmem
    refine ⟨rows.set j.toNat w, txts_of _, ?_, ?_⟩
    · rw [show (Str.ofString " ").length = 1 by decide, Nat.mul_one]
      omega
    conv => whnf
    exact ⟨rfl, rfl, hΦ _ _ _ _ (good_up gj (by omega)) (hB5.up (by omega))⟩
set_option maxHeartbeats 8000000 in
theorem ok__law_other_kind (T : Tx K mg) : FnOk P w K mg base CX0 2 T.a__law_other_kind T.d__law_other_kind ["_law_spring_here", "_law_thing"] (spD K 1 2 S__law_other_kind) := by
  refine fnD T.F__law_other_kind sc__law_other_kind fun cdv A outer s H E hr => ⟨_, (psd_cons (psd_set (i := 2) sc__law_other_kind.nd (pd_lst (pds_cons pd_non (pds_cons pd_int (pds_cons pd_int (pds_cons pd_bl (pds_cons (pd_pow pd_int pd_int) (pds_cons (pd_tup pds_nil) (pds_cons (pd_lst pds_nil) (pds_cons pd_dict0 (pds_cons (pd_tup (pds_cons (pd_v 1) pds_nil)) (pds_cons (pd_lst (pds_cons (pd_v 1) pds_nil)) (pds_cons (pd_dict1 1) pds_nil))))))))))))) (psd_one (psd_ret (pd_ix (pd_v 2) (pd_callM (ok__law_take T) (hr.mono (by decide)) T.g__law_take T.F__law_take.kp T.b__law_take pass0 (pds_cons (pd_v 0) (pds_cons (pd_len (pd_v 2) T.n_len) pds_nil))))))), ?_⟩
  rintro c ds Φ hc - ⟨a, b, k, t, lim, rfl, rfl, hlim, hB, hΦ⟩
  conv => whnf
  refine ⟨by decide, ?_⟩
  conv => whnf
  refine ⟨by show 0 ≤ sizeLine; decide, ?_⟩
  conv => whnf
  refine ⟨by show 0 ≤ sizeLine; decide, ?_⟩
  conv => whnf
  refine ⟨by show 1 ≤ sizeLine; decide, ?_⟩
  conv => whnf
  refine ⟨by show 1 ≤ sizeLine; decide, ?_⟩
  conv => whnf
  refine ⟨by show 11 ≤ sizeLine; decide, ?_⟩
  conv => whnf
  refine ⟨rfl, ?_⟩
  refine take_call (m := 11) (rest := []) hB (by omega) (by decide) fun i a2 b2 k2 p2 q2 hB2 => ?_
  refine ix_any (ds := kindsL t) p2 q2 fun d hd => ?_
  have h := hΦ d hd a2 b2 k2 hB2
  have ok : okD 1 d = true := by
    unfold kindsL at hd
    simp only [List.mem_cons, List.not_mem_nil, or_false] at hd
    rcases hd with rfl | rfl | rfl | rfl | rfl | rfl | rfl | rfl | rfl | rfl | rfl <;> rfl
  exact h
set_option maxHeartbeats 8000000 in
theorem ok__law_over (T : Tx K mg) : FnOk P w K mg base CX0 4 T.a__law_over T.d__law_over ["_law_spring_here"] (spD K 1 1 S__law_over) := by
  refine fnD T.F__law_over sc__law_over fun cdv A outer s H E hr => ⟨_, (psd_cons (psd_set (i := 1) sc__law_over.nd (pd_sl pd_str po_no (po_so (pd_add pd_int (pd_callM (ok__law_take T) (hr.mono (by decide)) T.g__law_take T.F__law_take.kp T.b__law_take pass0 (pds_cons (pd_v 0) (pds_cons pd_int pds_nil))))))) (psd_cons (psd_par (i := 2) (j := 3) rfl sc__law_over.nd (pd_min rfl pd_int (pd_len (pd_v 1) T.n_len) T.n_min) (pd_callM (ok__law_words T) (hr.mono (by decide)) T.g__law_words T.F__law_words.kp T.b__law_words pass0 (pds_cons (pd_v 0) (pds_cons pd_int pds_nil)))) (psd_cons (psd_set (i := 4) sc__law_over.nd (pd_lstM (pds_cons (pd_add pd_str (pd_v 1)) pds_nil))) (psd_cons (psd_for PassesOwn.never rfl (pid_range1 (pd_callM (ok__law_take T) (hr.mono (by decide)) T.g__law_take T.F__law_take.kp T.b__law_take pass0 (pds_cons (pd_v 0) (pds_cons pd_int pds_nil))) T.n_range) (pgd_name (i := 5) sc__law_over.nd) (psd_cons (psd_set (i := 6) sc__law_over.nd (pd_if (pdt_gt (pd_callM (ok__law_take T) (hr.mono (by decide)) T.g__law_take T.F__law_take.kp T.b__law_take pass0 (pds_cons (pd_v 0) (pds_cons pd_int pds_nil))) pd_int) (pd_ix pd_str (pd_v 5)) (pd_ix (pd_v 3) pd_int))) (psd_one (psd_expr (pd_append (pd_v 4) (pd_callP (ok__law_piece_row T) (hr.mono (by decide)) T.g__law_piece_row T.F__law_piece_row.kp T.b__law_piece_row pass0 (pds_cons (pd_callM (ok__law_piece T) (hr.mono (by decide)) T.g__law_piece T.F__law_piece.kp T.b__law_piece pass0 (pds_cons (pd_v 0) (pds_cons (pd_v 6) (pds_cons (pd_v 2) pds_nil)))) pds_nil))))))) (psd_cons (psd_for PassesOwn.never rfl (pid_range1 (pd_callM (ok__law_take T) (hr.mono (by decide)) T.g__law_take T.F__law_take.kp T.b__law_take pass0 (pds_cons (pd_v 0) (pds_cons pd_int pds_nil))) T.n_range) (pgd_name (i := 5) sc__law_over.nd) (psd_cons (psd_set (i := 6) sc__law_over.nd (pd_ix (pd_v 3) (pd_callM (ok__law_take T) (hr.mono (by decide)) T.g__law_take T.F__law_take.kp T.b__law_take pass0 (pds_cons (pd_v 0) (pds_cons (pd_len (pd_v 3) T.n_len) pds_nil))))) (psd_one (psd_expr (pd_append (pd_v 4) (pd_callP (ok__law_joint_row T) (hr.mono (by decide)) T.g__law_joint_row T.F__law_joint_row.kp T.b__law_joint_row pass0 (pds_cons (pd_callM (ok__law_joint T) (hr.mono (by decide)) T.g__law_joint T.F__law_joint.kp T.b__law_joint pass0 (pds_cons (pd_v 0) (pds_cons (pd_v 6) (pds_cons (pd_v 2) pds_nil)))) pds_nil))))))) (psd_one (psd_ret (pd_join pd_str (pd_v 4))))))))), ?_⟩
  rintro c ds Φ hc - ⟨a, b, k, lim, rfl, rfl, hB, hl, hΦ⟩
  conv => whnf
  refine ⟨rfl, ?_⟩
  refine take_call (rest := []) hB (by omega) (by decide) fun n a1 b1 k1 n1 n2 hB1 => ?_
  conv => whnf
  refine ⟨short (by decide), ?_⟩
  obtain ⟨M, eM, m1, m2, m3⟩ := over_marks n1 n2
  rw [show cutS (Str.ofString "abcdefg") none (some (1 + n)) = M from eM]
  conv => whnf
  refine ⟨short (by omega), ?_⟩
  conv => whnf
  have p1 : 1 ≤ (if (M.length : Int) < 5 then (M.length : Int) else 5) ∧ (if (M.length : Int) < 5 then (M.length : Int) else 5) ≤ 5 := by split <;> omega
  refine ⟨rfl, ?_⟩
  refine words_call (rest := []) hB1 (by omega) (by decide) fun pool a2 b2 k2 w1 w2 w3 w4 hB2 => ?_
  conv => whnf
  have l6 : (Str.ofString "signs ").length = 6 := by decide +kernel
  refine ⟨short (by omega), ?_⟩
  conv => whnf
  refine ⟨by show 1 ≤ sizeLine; decide, ?_⟩
  conv => whnf
  conv => whnf
  have g0 : goodT 80 (Str.ofString "signs " ++ M) := good_up (good_app (n := 6) (m := 6) ⟨by decide, by decide +kernel⟩ ⟨m2, m3⟩) (by decide)
  generalize hp : (if (M.length : Int) < 5 then (M.length : Int) else 5) = p at p1 ⊢
  refine ⟨rfl, ?_⟩
  refine take_call (rest := [.lst [.str (Str.ofString "signs " ++ M)]]) hB2 (by omega) (by decide) fun v a3 b3 k3 v1 v2 hB3 => ?_
  conv => whnf
  refine ⟨by omega, ?_⟩
  refine forD_inv (fun ds ρ c => ∃ (rs : List Str) (a b k : Int) (x5 x6 : Option D), ρ = [some (.cell 0), some (.str M), some (.int p), some (.lst (pool.map .str)), some (.cell 1), x5, x6] ∧ c = [spr a b k, .lst (rs.map .str)] ∧ (∀ r ∈ rs, goodT 80 r) ∧ (∀ d ∈ ds, isI 10 d) ∧ rs.length + ds.length ≤ 11 ∧ B3 a b k (lim + 110 + 7 * (11 - ds.length))) ?_ ?_ _ _ _ ⟨[Str.ofString "signs " ++ M], a3, b3, k3, none, none, rfl, rfl, fun r hr => by rw [List.mem_singleton.mp hr]; exact g0, rng_isI (by omega), by rw [rng_len]; show 1 + _ ≤ 11; omega, hB3.up (by rw [rng_len]; omega)⟩
  case refine_2 =>
    rintro d ds ρ c F hF ⟨rs, a, b, k, x5, x6, rfl, rfl, o1, o2, o3, hB⟩
    replace o3 : rs.length + (ds.length + 1) ≤ 11 := o3
    replace hB : B3 a b k (lim + 110 + 7 * (11 - ((ds.length + 1 : Nat) : Int))) := hB
    have hd := o2 d List.mem_cons_self
    have o2' : ∀ d ∈ ds, isI 10 d := fun d h => o2 d (List.mem_cons_of_mem _ h)
    clear o2
    cases d <;> first | exact hd.elim | skip
    rename_i i
    obtain ⟨hd1, hd2⟩ := hd
    conv => whnf
    refine ⟨rfl, ?_⟩
    refine take_call (rest := [.lst (rs.map .str)]) hB (by omega) (by decide) fun u a4 b4 k4 u1 u2 hB4 => ?_
    have tail : ∀ (De : DEnds) (t : Str), De.nx = F → isLet t 8 = true → dDrop (dAppend (dVar 4) (dCallP S__law_piece_row 1 (dCons (dCallM S__law_piece 3 (dCons (dVar 0) (dCons (dVar 6) (dCons (dVar 2) dNil)))) dNil))) De [some (.cell 0), some (.str M), some (.int p), some (.lst (pool.map .str)), some (.cell 1), some (.int i), some (.str t)] [spr a4 b4 k4, .lst (rs.map .str)] := fun De t hDe ht => by
      conv => whnf
      refine ⟨1, rfl, ⟨_, rfl⟩, ?_⟩
      conv => whnf
      refine ⟨rfl, ?_⟩
      refine piece_call (rest := [.lst (rs.map .str)]) hB4 (by omega) p1 ht fun pp a5 b5 k5 hpp et hB5 => ?_
      conv => whnf
      refine ⟨rfl, rfl, pp, p.toNat, rfl, by omega, hpp, ?_⟩
      conv => whnf
      refine ⟨_, rfl, by rw [List.length_map]; exact short (by omega), ?_⟩
      show De.nx _ _
      rw [hDe]
      refine hF _ _ ⟨rs ++ [pp.row], a5, b5, k5, _, _, rfl, by rw [List.map_append]; rfl, fun r hr => ?_, o2', by rw [List.length_append]; show rs.length + 1 + _ ≤ _; omega, hB5.up (by omega)⟩
      rcases List.mem_append.mp hr with hr | hr
      · exact o1 r hr
      · rw [List.mem_singleton.mp hr]
        exact words_good (Part.tames hpp (by omega)) (by simp [Part.ws])
    conv => whnf
    by_cases hu : 0 < u
    · rw [show (fun i j => decide (j < i)) u 0 = true from decide_eq_true hu]
      conv => whnf
      refine ⟨short (by decide), ?_⟩
      obtain ⟨q, e1, e2⟩ := over_title hd1 hd2
      rw [show L2.atI (Str.ofString "abcdefghij").cps.toList i = some q from e1]
      exact tail ⟨F, _, _, F⟩ (one q) rfl e2
    · rw [show (fun i j => decide (j < i)) u 0 = false from decide_eq_false hu]
      conv => whnf
      obtain ⟨t0, ts, rfl⟩ : ∃ t0 ts, pool = t0 :: ts := by
        cases pool with
        | nil => exact absurd rfl w4
        | cons t0 ts => exact ⟨t0, ts, rfl⟩
      rw [show L2.atI ((t0 :: ts).map D.str) 0 = some (.str t0) from at_zero _ _]
      exact tail ⟨F, _, _, F⟩ t0 rfl (w1 t0 List.mem_cons_self)
  rintro ρ c ⟨rs, a4, b4, k4, x5, x6, rfl, rfl, o1, -, o3, hB4⟩
  have o3 : rs.length ≤ 11 := by simpa using o3
  replace hB4 : B3 a4 b4 k4 (lim + 110 + 7 * 11) := by simpa using hB4
  conv => whnf
  refine ⟨rfl, ?_⟩
  refine take_call (rest := [.lst (rs.map .str)]) hB4 (by omega) (by decide) fun v a3 b3 k3 v1 v2 hB3 => ?_
  conv => whnf
  refine ⟨by omega, ?_⟩
  refine forD_inv (fun ds ρ c => ∃ (rs : List Str) (a b k : Int) (x5 x6 : Option D), ρ = [some (.cell 0), some (.str M), some (.int p), some (.lst (pool.map .str)), some (.cell 1), x5, x6] ∧ c = [spr a b k, .lst (rs.map .str)] ∧ (∀ r ∈ rs, goodT 80 r) ∧ rs.length + ds.length ≤ 25 ∧ B3 a b k (lim + 190 + 7 * (14 - ds.length))) ?_ ?_ _ _ _ ⟨rs, a3, b3, k3, _, _, rfl, rfl, o1, by rw [rng_len]; omega, hB3.up (by rw [rng_len]; omega)⟩
  case refine_2 =>
    rintro d ds ρ c F hF ⟨rs, a, b, k, x5, x6, rfl, rfl, o1, o3, hB⟩
    have o3 : rs.length + (ds.length + 1) ≤ 25 := o3
    have hB : B3 a b k (lim + 190 + 7 * (14 - ((ds.length + 1 : Nat) : Int))) := hB
    conv => whnf
    refine ⟨rfl, ?_⟩
    refine take_call (rest := [.lst (rs.map .str)]) hB (by omega) ⟨by rw [List.length_map]; have := List.length_pos_iff.mpr w4; omega, by rw [List.length_map]; omega⟩ fun w a10 b10 k10 z1 z2 hB10 => ?_
    obtain ⟨t, tm, et⟩ := at_mem z1 (by rw [List.length_map] at z2; exact z2)
    conv => whnf
    rw [et]
    conv => whnf
    refine ⟨1, rfl, ⟨_, rfl⟩, ?_⟩
    conv => whnf
    refine ⟨rfl, ?_⟩
    refine joint_call (rest := [.lst (rs.map .str)]) hB10 (by omega) p1 (w1 t tm) fun pp a11 b11 k11 hpp ep hB11 => ?_
    conv => whnf
    refine ⟨rfl, rfl, pp, p.toNat, rfl, by omega, hpp, ?_⟩
    conv => whnf
    refine ⟨_, rfl, by rw [List.length_map]; exact short (by omega), ?_⟩
    refine hF _ _ ⟨rs ++ [pp.row], a11, b11, k11, _, _, rfl, by rw [List.map_append]; rfl, fun r hr => ?_, by rw [List.length_append]; show rs.length + 1 + _ ≤ _; omega, hB11.up (by omega)⟩
    rcases List.mem_append.mp hr with hr | hr
    · exact o1 r hr
    · rw [List.mem_singleton.mp hr]
      exact words_good (Joint.tames hpp (by omega)) (by simp [Joint.ws])
  rintro ρ c ⟨rs, a5, b5, k5, x5, x6, rfl, rfl, o1, o3, hB5⟩
  have o3 : rs.length ≤ 25 := by simpa using o3
  replace hB5 : B3 a5 b5 k5 (lim + 190 + 7 * 14) := by simpa using hB5
  have s80 := sum_80 o1
  have gj := good_join (y := "\n") (s := 2000) (c := 25) (n := 80) ⟨by decide, by decide +kernel⟩ (by omega) o3 o1
  conv => whnf
  refine ⟨_, rfl, ?_⟩
  conv => whnf
  refine ⟨rs, txts_of _, ?_, ?_⟩
  · rw [show (Str.ofString "\n").length = 1 by decide, Nat.mul_one]
    omega
  conv => whnf
  exact ⟨rfl, rfl, hΦ _ _ _ _ (good_up gj (by omega)) (hB5.up (by omega))⟩
set_option maxHeartbeats 8000000 in
theorem ok__law_read (T : Tx K mg) : FnOk P w K mg base CX0 4 T.a__law_read T.d__law_read ["_law_thing"] (spD K 0 1 S__law_read) := by
  refine fnD T.F__law_read sc__law_read fun cdv A outer s H E hr => ⟨_, (psd_cons (psd_set (i := 1) sc__law_read.nd (pd_split (pd_v 0) pd_str)) (psd_cons (psd_set (i := 2) sc__law_read.nd (pd_split (pd_ix (pd_v 1) pd_int) pd_str)) (psd_cons (psd_if (PDw.pt (pdw_or (pdt_ne hr (pd_len (pd_v 2) T.n_len) pd_int) (pdw_or (pdt_ne hr (pd_ix (pd_v 2) pd_int) pd_str) (pdw_or (pdt_gt (pd_len (pd_ix (pd_v 2) pd_int) T.n_len) pd_int) (pdw_or1 (pdt_not (pdt_val (pd_callP (ok__law_is_word T) (hr.mono (by decide)) T.g__law_is_word T.F__law_is_word.kp T.b__law_is_word pass0 (pds_cons (pd_ix (pd_v 2) pd_int) pds_nil))))))))) (psd_one (psd_ret pd_non)) psd_nil) (psd_cons (psd_par (i := 3) (j := 4) rfl sc__law_read.nd (pd_lstM pds_nil) (pd_lstM pds_nil)) (psd_cons (psd_for PassesOwn.never rfl (pid_list (pd_sl (pd_v 1) (po_so pd_int) po_no)) (pgd_name (i := 5) sc__law_read.nd) (psd_cons (psd_set (i := 6) sc__law_read.nd (pd_callP (ok__law_read_row T) (hr.mono (by decide)) T.g__law_read_row T.F__law_read_row.kp T.b__law_read_row pass0 (pds_cons (pd_v 5) (pds_cons (pd_len (pd_ix (pd_v 2) pd_int) T.n_len) pds_nil)))) (psd_cons (psd_if (pdt_isn (pd_v 6) pd_non) (psd_one (psd_ret pd_non)) psd_nil) (psd_one (psd_if (pdt_eq hr (pd_ix (pd_v 5) pd_int) pd_str) (psd_cons (psd_if (PDw.pt (pdw_or (pdt_ne hr (pd_v 4) (pd_lst pds_nil)) (pdw_or1 (pdt_in hr (pd_ix (pd_v 6) pd_int) (pd_lcC (i := 7) rfl sc__law_read.nd (pd_v 3) (by kernel_rfl) (fun _ _ _ _ _ => pg_name (i := 7) sc__law_read.nd rfl (Or.inl rfl)) (fun _ _ _ _ _ => ptd_nil) (fun _ _ _ _ _ => (pd_ix (pd_v 7) pd_int))))))) (psd_one (psd_ret pd_non)) psd_nil) (psd_one (psd_expr (pd_append (pd_v 3) (pd_v 6))))) (psd_cons (psd_if (pdt_in hr (pd_v 6) (pd_v 4)) (psd_one (psd_ret pd_non)) psd_nil) (psd_one (psd_expr (pd_append (pd_v 4) (pd_v 6)))))))))) (psd_cons (psd_if (PDw.pt (pdw_or (pdt_gt (pd_len (pd_v 3) T.n_len) pd_int) (pdw_or (pdt_gt (pd_len (pd_v 4) T.n_len) pd_int) (pdw_or1 (pdt_gt (pd_lenTx hr.units rfl (pd_lcC (i := 8) rfl sc__law_read.nd (pd_v 4) (by kernel_rfl) (fun _ _ _ _ _ => pg_name (i := 8) sc__law_read.nd rfl (Or.inl rfl)) (fun _ _ _ _ _ => ptd_nil) (fun _ _ _ _ _ => (pd_ix (pd_v 8) pd_int))) T.n_len T.n_set) pd_int))))) (psd_one (psd_ret pd_non)) psd_nil) (psd_one (psd_ret (pd_tup (pds_cons (pd_ix (pd_v 2) pd_int) (pds_cons (pd_tuplec (pd_v 3) T.n_tuple) (pds_cons (pd_tuplec (pd_v 4) T.n_tuple) pds_nil)))))))))))), ?_⟩
  rintro c ds Φ hc - ⟨t, rfl, ht, h1, h0⟩
  cases c with
  | cons _ _ => cases hc
  | nil =>
  have hg1 := ht.1
  have sp := good_split (y := "\n") ht (by decide) (by decide +kernel)
  have ej := join_sp t "\n"
  have key : ∀ s : Sp, s.ok → t = s.text → Txt.split t "\n" = s.lines := fun s hs e => by
    rw [e]; exact Sp.split hs
  conv => whnf
  refine ⟨_, rfl, ?_⟩
  conv => whnf
  refine ⟨rfl, short (by omega), ?_⟩
  rw [show Txt.split t (Str.ofString "\n") = Txt.split t "\n" from rfl]
  generalize Txt.split t "\n" = ls at sp ej key ⊢
  cases ls with
  | nil => exact absurd sp.2.1.1 (by decide)
  | cons l0 ls =>
  have s1 := sp.1
  have s2 : ls.length + 1 ≤ 36000 + 1 := sp.2.1.2
  have g0 := s1 l0 List.mem_cons_self
  have g01 := g0.1
  conv => whnf
  rw [show L2.atI ((l0 :: ls).map D.str) 0 = some (.str l0) from at_zero _ _]
  conv => whnf
  refine ⟨_, rfl, ?_⟩
  conv => whnf
  refine ⟨rfl, short (by omega), ?_⟩
  cases em : signsOf l0 with
  | none =>
    have no : Φ .non [] := h0 fun s hs e => by
      have e := key s hs e
      injection e with e _
      rw [e, signs_of_line hs.m] at em
      cases em
    have sp2 := (good_split (y := " ") g0 (by decide) (by decide +kernel)).1
    unfold signsOf at em
    rw [show Txt.split l0 " " = Txt.split l0 (Str.ofString " ") from rfl] at em
    generalize Txt.split l0 (Str.ofString " ") = ws at em sp2 ⊢
    rcases ws with _ | ⟨x, _ | ⟨y, _ | ⟨d, r⟩⟩⟩
    · conv => whnf
      exact no
    · conv => whnf
      exact no
    · have gy := sp2 y (by simp)
      have gy1 := gy.1
      have em : (if x = "signs" ∧ isLet y 5 = true then some y else none) = none := em
      conv => whnf
      by_cases h1 : x = "signs"
      case neg =>
        rw [if_pos rfl, decide_eq_false (show ¬ x = Str.ofString "signs" from h1)]
        conv => whnf
        exact no
      rw [if_pos rfl, decide_eq_true (show x = Str.ofString "signs" from h1)]
      conv => whnf
      refine ⟨short (by omega), ?_⟩
      conv => whnf
      by_cases h5 : (y.length : Int) ≤ 5
      case neg =>
        rw [show (fun i j => decide (j < i)) (y.length : Int) 5 = true from decide_eq_true (by omega)]
        conv => whnf
        exact no
      rw [show (fun i j => decide (j < i)) (y.length : Int) 5 = false from decide_eq_false (by omega)]
      conv => whnf
      refine ⟨rfl, rfl, y, rfl, gy, ?_⟩
      cases h8 : isLet y 8 with
      | false =>
        conv => whnf
        exact no
      | true =>
        have : isLet y 5 = true := by rw [let_58, h8, decide_eq_true h5]; rfl
        rw [if_pos ⟨h1, this⟩] at em
        cases em
    · conv => whnf
      exact no
  | some m =>
  obtain ⟨hm, em2⟩ := signs_some em
  have hn : m.length ≤ 5 := tame_len (let_tame (n := 5) hm)
  have hm8 : isLet m 8 = true := by
    have := hm
    rw [let_58] at this
    exact (Bool.and_eq_true_iff.mp this).1
  have gm : goodT 36000 m := good_up (tame_good (let_tame (n := 5) hm)) (by decide)
  rw [show Txt.split l0 (Str.ofString " ") = (["signs", m] : List Str) by rw [em2]; exact signs_split hm]
  have key2 : ∀ s : Sp, s.ok → t = s.text → s.m = m ∧ ls = s.ps.map Part.row ++ s.js.map Joint.row := fun s hs e => by
    have e := key s hs e
    injection e with e1 e2
    refine ⟨?_, e2⟩
    rw [e1, signs_of_line hs.m] at em
    exact Option.some.inj em
  have stop : (∀ (P : List Part) (J : List Joint), (∀ p ∈ P, p.ok m.length) → (∀ j ∈ J, j.ok m.length) → (⟨m, P, J⟩ : Sp).ok → ls = P.map Part.row ++ J.map Joint.row → False) → Φ .non [] := fun h => h0 fun s hs e => by
    obtain ⟨e1, e2⟩ := key2 s hs e
    subst e1
    exact h s.ps s.js hs.ps hs.js hs e2
  conv => whnf
  refine ⟨short (by omega), ?_⟩
  conv => whnf
  rw [show (fun i j => decide (j < i)) (m.length : Int) 5 = false from decide_eq_false (by omega)]
  conv => whnf
  refine ⟨rfl, rfl, m, rfl, gm, ?_⟩
  rw [hm8]
  conv => whnf
  refine ⟨Nat.zero_le _, Nat.zero_le _, ?_⟩
  conv => whnf
  have R1 : Cw.cutD ((l0 :: ls).map D.str) (some 1) none = ls.map D.str := cut_from ((l0 :: ls).map D.str) 1
  rw [R1]
  refine forD_inv (fun ds ρ c => ∃ (rs : List Str) (ps : List Part) (js : List Joint) (x5 x6 : Option D), ds = rs.map .str ∧ ls = (ps.map Part.row ++ js.map Joint.row) ++ rs ∧ ρ = [some (.str t), some (.lst ((l0 :: ls).map .str)), some (.lst ((["signs", m] : List Str).map .str)), some (.cell 0), some (.cell 1), x5, x6, none, none] ∧ c = [.lst (ps.map Part.d'), .lst (js.map Joint.d')] ∧ (∀ p ∈ ps, p.ok m.length) ∧ (∀ p ∈ js, p.ok m.length) ∧ (ps.map (·.t)).Nodup ∧ (js.map Joint.k).Nodup) ?_ ?_ _ _ _ ⟨ls, [], [], none, none, rfl, rfl, rfl, rfl, (by intro _ z; cases z), (by intro _ z; cases z), List.nodup_nil, List.nodup_nil⟩
  case refine_2 =>
    rintro d ds ρ c F hF ⟨rs, ps, js, x5, x6, e1, els, rfl, rfl, okp, okj, ndp, ndj⟩
    cases rs with
    | nil => cases e1
    | cons x rs =>
    injection e1 with e1 e2
    subst e1
    subst e2
    have hx : x ∈ ls := by rw [els]; simp
    have gx := s1 x (List.mem_cons_of_mem _ hx)
    have gx1 := gx.1
    have lls : ps.length + js.length + (rs.length + 1) = ls.length := by
      rw [els, List.length_append, List.length_append, List.length_map, List.length_map]; rfl
    conv => whnf
    refine ⟨short (by omega), ?_⟩
    conv => whnf
    refine ⟨rfl, rfl, x, m.length, rfl, hn, gx, ?_⟩
    unfold rowD
    cases ep : pieceO m.length x with
    | some p =>
      obtain ⟨hp, xp⟩ := piece_some ep
      obtain ⟨hd, ehd⟩ := part_head p
      conv => whnf
      refine ⟨short (by omega), ?_⟩
      rw [show L2.atI x.cps.toList 0 = some 112 by rw [xp]; show L2.atI (TL.tl p.row) 0 = _; rw [ehd]; exact at_zero _ _]
      conv => whnf
      refine ⟨by show 0 ≤ sizeLine; decide, ?_⟩
      conv => whnf
      have sh2 : SeqAt.shaped (.list (js.map Joint.py)) = true := shaped_of (fun q hq => Joint.lay (okj q hq) hn) (fun q _ => Nat.le_refl _)
      refine ⟨_, _, by show D.py (.lst (js.map Joint.d')) = _; unfold D.py; rw [pys_of d_joint js]; rfl, rfl, sh2, by decide +kernel, ?_⟩
      cases js with
      | cons j0 js =>
        conv => whnf
        refine ⟨rfl, rfl, stop fun P J hP hJ hs eL => ?_⟩
        have := before (st := fun y => Txt.startswith y "piece " = true) (P' := P.map Part.row) (J' := J.map Joint.row) (fun y hy => ?_) (fun y hy => ?_) (eL.symm.trans els) (by rw [xp]; exact part_starts p) j0.row (by simp)
        · rw [joint_starts] at this; cases this
        · obtain ⟨q, _, rfl⟩ := List.mem_map.mp hy
          rw [joint_starts]; decide
        · obtain ⟨q, _, rfl⟩ := List.mem_map.mp hy
          exact part_starts q
      | nil =>
        conv => whnf
        refine ⟨0, _, rfl, rfl, ?_⟩
        refine lcK_pair (c := [.lst (ps.map Part.d'), .lst []]) Part.d' (fun p => .str p.t) rfl (by show (okDs 2 (ps.map Part.d') && _) = true; rw [okDs_map (fun _ => rfl)]; rfl) ps [] (fun p hp => ⟨rfl, fun acc Ψ _ h => ?_⟩) rfl (by show 0 + ps.length ≤ _; exact short (by omega)) ?_
        · exact h
        · rw [show ([] ++ ps.map fun p => D.str p.t) = (ps.map (·.t)).map D.str by rw [List.map_map]; rfl]
          conv => whnf
          refine .inl ⟨_, rfl, rfl, txt_flat _, ?_⟩
          rw [show inF (.str p.t) ((ps.map (·.t)).map .str) = decide (p.t ∈ ps.map (·.t)) from inF_strs _ _]
          by_cases hin : p.t ∈ ps.map (·.t)
          · rw [decide_eq_true hin]
            conv => whnf
            refine ⟨rfl, rfl, stop fun P J hP hJ hs eL => ?_⟩
            have eP := pieces_in hn (js := J) hP
            rw [← eL, els, List.filterMap_append, pieces_in hn okp, List.filterMap_cons_some ep] at eP
            have nd := hs.dp
            have nd : (P.map (·.t)).Nodup := nd
            rw [← eP, List.map_append, List.map_cons] at nd
            exact nod_mid nd hin
          · rw [decide_eq_false hin]
            conv => whnf
            refine ⟨0, rfl, ⟨_, rfl⟩, ?_⟩
            conv => whnf
            refine ⟨_, rfl, by rw [List.length_map]; exact short (by omega), ?_⟩
            refine hF _ _ ⟨rs, ps ++ [p], [], _, _, rfl, ?_, rfl, by rw [List.map_append]; rfl, fun q hq => ?_, okj, ?_, ndj⟩
            · rw [els, xp]; simp
            · rcases List.mem_append.mp hq with hq | hq
              · exact okp q hq
              · rw [List.mem_singleton.mp hq]; exact hp
            · rw [List.map_append]
              refine List.nodup_append.mpr ⟨ndp, by simp, fun a ha b hb e => ?_⟩
              have : b = p.t := by simpa using hb
              rw [e, this] at ha
              exact hin ha
    | none =>
      cases ec : cornerO m.length x with
      | none =>
        conv => whnf
        refine ⟨rfl, rfl, stop fun P J hP hJ hs eL => ?_⟩
        rw [eL] at hx
        rcases List.mem_append.mp hx with hx | hx
        · obtain ⟨q, hq, e⟩ := List.mem_map.mp hx
          rw [← e, piece_row hn (hP q hq)] at ep; cases ep
        · obtain ⟨q, hq, e⟩ := List.mem_map.mp hx
          rw [← e, corner_row hn (hJ q hq)] at ec; cases ec
      | some j =>
        obtain ⟨hj, xj⟩ := corner_some ec
        obtain ⟨hd, ehd⟩ := joint_head j
        conv => whnf
        refine ⟨short (by omega), ?_⟩
        rw [show L2.atI x.cps.toList 0 = some 99 by rw [xj]; show L2.atI (TL.tl j.row) 0 = _; rw [ehd]; exact at_zero _ _]
        conv => whnf
        refine .inr ⟨j.py, _, _, rfl, rfl, pys_of d_joint js, ?_, shaped_of (fun q hq => Joint.lay (okj q hq) hn) (fun q _ => Nat.le_refl _), ?_⟩
        · show ((Joint.py j).canLay0 && _) = true
          rw [Joint.lay hj hn]; rfl
        · by_cases hin : j.k ∈ js.map Joint.k
          · rw [if_neg (by decide), (joints_any js j).mpr hin]
            conv => whnf
            refine ⟨rfl, rfl, stop fun P J hP hJ hs eL => ?_⟩
            have eJ := joints_in hn (ps := P) hJ
            rw [← eL, els, List.filterMap_append, joints_in hn okj, List.filterMap_cons_some ec] at eJ
            have nd : (J.map Joint.k).Nodup := hs.dj
            rw [← eJ, List.map_append, List.map_cons] at nd
            exact nod_mid nd hin
          · rw [if_neg (by decide), Bool.eq_false_iff.mpr (fun z => hin ((joints_any js j).mp z))]
            conv => whnf
            refine ⟨1, rfl, ⟨_, rfl⟩, ?_⟩
            conv => whnf
            refine ⟨_, rfl, by rw [List.length_map]; exact short (by omega), ?_⟩
            refine hF _ _ ⟨rs, ps, js ++ [j], _, _, rfl, ?_, rfl, by rw [List.map_append]; rfl, okp, fun q hq => ?_, ndp, ?_⟩
            · rw [els, xj]; simp
            · rcases List.mem_append.mp hq with hq | hq
              · exact okj q hq
              · rw [List.mem_singleton.mp hq]; exact hj
            · rw [List.map_append]
              refine List.nodup_append.mpr ⟨ndj, by simp, fun a ha b hb e => ?_⟩
              have : b = j.k := by simpa using hb
              rw [e, this] at ha
              exact hin ha
  · rintro ρ c ⟨rs, ps, js, x5, x6, e1, els, rfl, rfl, okp, okj, ndp, ndj⟩
    have ers : rs = [] := List.map_eq_nil_iff.mp e1.symm
    subst ers
    rw [List.append_nil] at els
    have lls : ps.length + js.length = ls.length := by
      rw [els, List.length_append, List.length_map, List.length_map]
    have same : ∀ (P : List Part) (J : List Joint), (∀ p ∈ P, p.ok m.length) → (∀ j ∈ J, j.ok m.length) → ls = P.map Part.row ++ J.map Joint.row → P = ps ∧ J = js := fun P J hP hJ eL => by
      have eP := pieces_in hn (js := J) hP
      have eJ := joints_in hn (ps := P) hJ
      rw [← eL, els] at eP eJ
      rw [pieces_in hn okp] at eP
      rw [joints_in hn okj] at eJ
      exact ⟨eP.symm, eJ.symm⟩
    conv => whnf
    by_cases h8 : ps.length ≤ 8
    case neg =>
      rw [show (fun i j => decide (j < i)) (((ps.map Part.d').length : Nat) : Int) 8 = true from decide_eq_true (by rw [List.length_map]; omega)]
      conv => whnf
      refine ⟨rfl, rfl, stop fun P J hP hJ hs eL => ?_⟩
      obtain ⟨e1, e2⟩ := same P J hP hJ eL
      have := hs.np
      have this : P.length ≤ 8 := this
      rw [e1] at this; exact h8 this
    rw [show (fun i j => decide (j < i)) (((ps.map Part.d').length : Nat) : Int) 8 = false from decide_eq_false (by rw [List.length_map]; omega)]
    conv => whnf
    by_cases h12 : js.length ≤ 12
    case neg =>
      rw [show (fun i j => decide (j < i)) (((js.map Joint.d').length : Nat) : Int) 12 = true from decide_eq_true (by rw [List.length_map]; omega)]
      conv => whnf
      refine ⟨rfl, rfl, stop fun P J hP hJ hs eL => ?_⟩
      obtain ⟨e1, e2⟩ := same P J hP hJ eL
      have := hs.nj
      have this : J.length ≤ 12 := this
      rw [e2] at this; exact h12 this
    rw [show (fun i j => decide (j < i)) (((js.map Joint.d').length : Nat) : Int) 12 = false from decide_eq_false (by rw [List.length_map]; omega)]
    conv => whnf
    refine ⟨1, _, rfl, rfl, ?_⟩
    refine lcK_pair (c := [.lst (ps.map Part.d'), .lst (js.map Joint.d')]) Joint.d' (fun p => .str p.t) rfl (by show (okDs 2 (ps.map Part.d') && (okDs 2 (js.map Joint.d') && true)) = true; rw [okDs_map (fun _ => rfl), okDs_map (fun _ => rfl)]; rfl) js [] (fun p hp => ⟨rfl, fun acc Ψ _ h => ?_⟩) rfl (by show 0 + js.length ≤ _; exact short (by omega)) ?_
    · exact h
    · conv => whnf
      refine ⟨js.map (·.t), by rw [List.map_map]; rfl, by rw [List.length_map]; omega, fun zs nd mem => ?_⟩
      conv => whnf
      by_cases h4 : zs.length ≤ 4
      case neg =>
        rw [show (fun i j => decide (j < i)) ((zs.length : Nat) : Int) 4 = true from decide_eq_true (by omega)]
        conv => whnf
        refine ⟨rfl, rfl, stop fun P J hP hJ hs eL => ?_⟩
        obtain ⟨e1, e2⟩ := same P J hP hJ eL
        obtain ⟨pool, q4, hpool⟩ := hs.pool
        have hpool : ∀ p ∈ J, p.t ∈ pool := hpool
        rw [e2] at hpool
        refine h4 (Nat.le_trans (nodup_sub nd fun x hx => ?_) q4)
        obtain ⟨p, hp, e⟩ := List.mem_map.mp ((mem x).mp hx)
        rw [← e]; exact hpool p hp
      rw [show (fun i j => decide (j < i)) ((zs.length : Nat) : Int) 4 = false from decide_eq_false (by omega)]
      conv => whnf
      refine ⟨by show 3 ≤ sizeLine; decide, ?_⟩
      conv => whnf
      have sok : (⟨m, ps, js⟩ : Sp).ok := ⟨hm, okp, h8, ndp, okj, h12, ndj, zs, h4, fun p hp => (mem _).mpr (List.mem_map.mpr ⟨p, hp, rfl⟩)⟩
      have tt : t = (⟨m, ps, js⟩ : Sp).text := by
        have e : (⟨m, ps, js⟩ : Sp).lines = l0 :: ls := by
          show signL m :: (ps.map Part.row ++ js.map Joint.row) = _
          rw [← els, ← em2]
        unfold Sp.text
        rw [e, ej]
      refine ⟨rfl, ?_, h1 _ sok tt⟩
      show (true && (okDs 0 (ps.map Part.d') && (okDs 0 (js.map Joint.d') && true))) = true
      rw [okDs_map (fun _ => rfl), okDs_map (fun _ => rfl)]; rfl

end
end K03

namespace K03
open PySem PySem.Spec PyProof.Rows L2 Cw
def S__law_right : Pm := fun c ds Φ => ∃ a b k lim, c = [spr a b k] ∧ ds = [.cell 0] ∧ B3 a b k lim ∧ lim ≤ 2400 ∧ ∀ a' b' k', B3 a' b' k' (lim + 420) → Φ (.bl true) [spr a' b' k']
def S__law_all_right : Pm := fun c ds Φ => ∃ a b k, c = [spr a b k] ∧ ds = [.cell 0] ∧ B3 a b k 0 ∧ ∀ a' b' k', Φ (.bl true) [spr a' b' k']
theorem bent_call {a b k lim : Int} {t : Str} {n : Nat} {Φ : D → List Cell → Prop} (ht : goodT n t) (hn : n ≤ 9000) (hl : lim ≤ 90000) (hB : B3 a b k lim)
    (h : ∀ t' a' b' k', goodT (4 * n + 40) t' → B3 a' b' k' (lim + 5) → Φ (.str t') [spr a' b' k']) : callM S__law_bent [.cell 0, .str t] [spr a b k] Φ :=
  ⟨spr a b k, rfl, rfl, rfl, a, b, k, t, n, lim, rfl, rfl, ht, hn, hl, hB, fun t' a' b' k' h1 h2 => ⟨rfl, rfl, h t' a' b' k' h1 h2⟩⟩
theorem over_call {a b k lim : Int} {Φ : D → List Cell → Prop} (hl : lim ≤ 2500) (hB : B3 a b k lim)
    (h : ∀ t a' b' k', goodT 2200 t → B3 a' b' k' (lim + 300) → Φ (.str t) [spr a' b' k']) : callM S__law_over [.cell 0] [spr a b k] Φ :=
  ⟨spr a b k, rfl, rfl, rfl, a, b, k, lim, rfl, rfl, hB, hl, fun t a' b' k' h1 h2 => ⟨rfl, rfl, h t a' b' k' h1 h2⟩⟩
theorem spec_call {a b k lim : Int} {Φ : D → List Cell → Prop} (hl : lim ≤ 2500) (hB : B3 a b k lim)
    (h : ∀ (s : Sp) a' b' k', s.ok → B3 a' b' k' (lim + 400) → Φ s.d [spr a' b' k']) : callM S__law_spec [.cell 0] [spr a b k] Φ :=
  ⟨spr a b k, rfl, rfl, rfl, a, b, k, lim, rfl, rfl, hB, hl, fun s a' b' k' h1 h2 => ⟨rfl, (Bool.and_eq_true_iff.mp (sp_ok s)).1, h s a' b' k' h1 h2⟩⟩
theorem kinds_ok {t : Str} {d : D} (hd : d ∈ kindsL t) : okD 0 d = true ∧ oddD d := by
  unfold kindsL at hd
  simp only [List.mem_cons, List.not_mem_nil, or_false] at hd
  rcases hd with rfl | rfl | rfl | rfl | rfl | rfl | rfl | rfl | rfl | rfl | rfl <;> exact ⟨rfl, by first | trivial | rfl⟩
theorem kind_call {a b k lim : Int} {t : Str} {Φ : D → List Cell → Prop} (hl : lim ≤ 90000) (hB : B3 a b k lim)
    (h : ∀ d ∈ kindsL t, ∀ a' b' k', B3 a' b' k' (lim + 1) → Φ d [spr a' b' k']) : callM S__law_other_kind [.cell 0, .str t] [spr a b k] Φ :=
  ⟨spr a b k, rfl, rfl, rfl, a, b, k, t, lim, rfl, rfl, hl, hB, fun d hd a' b' k' h2 => ⟨rfl, (kinds_ok hd).1, h d hd a' b' k' h2⟩⟩
theorem text_good {s : Sp} (h : s.ok) : goodT 2200 s.text := ⟨Sp.len h, strOk_to (text_ok h)⟩
theorem lc_spr {i : Nat} {te : TD} {ρ : Cw.Env} {Φ : List D → List Cell → Prop} : ∀ (ds acc : List D) (a b k lim : Int),
    (∀ (d : D) (a b k lim : Int) (acc : List D) (Ψ : D → List Cell → Prop), B3 a b k lim → lim ≤ 2400 → (∀ a' b' k', B3 a' b' k' (lim + 420) → Ψ (.bl true) [spr a' b' k', .lst acc]) → te (ρ.set i (some d)) [spr a b k, .lst acc] Ψ) →
    okDs 1 acc = true → acc.length + ds.length ≤ sizeLine → B3 a b k lim → lim + 420 * ds.length ≤ 2820 → (∀ a' b' k', Φ (acc ++ ds.map fun _ => .bl true) [spr a' b' k']) → lcD i dYes te ds acc ρ [spr a b k] Φ
  | [], acc, a, b, k, lim, _, h, _, _, _, q => ⟨rfl, h, by simpa using q a b k⟩
  | d :: ds, acc, a, b, k, lim, he, h, hl, hB, hlim, q => by
    have hl' : acc.length + (ds.length + 1) ≤ sizeLine := hl
    have hlim' : lim + 420 * ((ds.length + 1 : Nat) : Int) ≤ 2820 := hlim
    show te _ _ _
    refine he d a b k lim acc _ hB (by omega) fun a' b' k' hB' => ⟨by omega, ?_⟩
    refine inner_same (c := [spr a' b' k']) ?_
    refine lc_spr ds _ a' b' k' (lim + 420) he (okDs_app h (okDs_one rfl)) (by rw [List.length_append]; show acc.length + 1 + ds.length ≤ _; omega) hB' (by omega) fun a b k => ?_
    simpa using q a b k
theorem bls7 : ∀ ds : List D, Cw.bls (ds.map fun _ => D.bl true) = some (ds.map fun _ => true)
  | [] => rfl
  | d :: ds => by
    have ih := bls7 ds
    show (Cw.bls (D.bl true :: ds.map fun _ => D.bl true)) = _
    simp only [Cw.bls, ih]
    rfl
def pairD (t : Str) (d : D) : D := .tup [.str t, .tup [d]]
theorem one_show {w : Str} {p : PyData} {d : D} (ht : PyData.strOk w = true) (hl : w.length ≤ 10) (e : D.pyG d = some p) (h : Fine p 100000) (hd : p.depth ≤ 5) : ∃ P, D.pyG (pairD w d) = some P ∧ ShowG P := by
  refine ⟨.tuple [.str w, .tuple [p]], ?_, ?_⟩
  · simp only [pairD, D.pyG, D.pysG, e, Option.map_some]
  · have f1 : Fine (.tuple [p]) 110000 := fine_tup (d := 5) (fines_cons (m := 0) h hd fines_nil (by omega)) (by decide)
    have f2 : Fine (.tuple [.str w, .tuple [p]]) 130000 := fine_tup (d := 6) (fines_cons (m := 120000) (fine_str (n := 10) ht hl) (Nat.zero_le _) (fines_cons (m := 0) f1 (by show max p.depth 0 + 1 ≤ 6; omega) fines_nil (by decide)) (by decide)) (by decide)
    have sh := f2.showy (by decide)
    exact ⟨sh.sh, sh.dp, sh.sz⟩
theorem pysG_of {α : Type} {d : α → D} {py : α → PyData} (h : ∀ x, D.pyG (d x) = some (py x)) : ∀ xs : List α, D.pysG (xs.map d) = some (xs.map py)
  | [] => rfl
  | x :: xs => by
    show (match D.pyG (d x), D.pysG (xs.map d) with | some p, some ps => some (p :: ps) | _, _ => none) = _
    rw [h, pysG_of h xs]; rfl
theorem pyG_joint (p : Joint) : D.pyG p.d' = some p.py := rfl
theorem pyG_due (s : Sp) (zs : List Str) : D.pyG (dueD s zs) = some (duePy s zs) := by
  have e1 : D.pyG (stD s.m.length) = some (.tuple ((stL s.m.length).map .str)) := by
    show (D.pysG ((stL s.m.length).map D.str)).map PyData.tuple = _
    rw [pysG_of (py := PyData.str) fun _ => rfl]; rfl
  have e2 : D.pyG (.tup (s.ps.map Part.d')) = some (.tuple (s.ps.map Part.py)) := by
    show (D.pysG (s.ps.map Part.d')).map PyData.tuple = _
    rw [pysG_of (py := Part.py) fun _ => rfl]; rfl
  have e3 : D.pyG (.tup (s.js.map Joint.d')) = some (.tuple (s.js.map Joint.py)) := by
    show (D.pysG (s.js.map Joint.d')).map PyData.tuple = _
    rw [pysG_of (py := Joint.py) pyG_joint]; rfl
  have e4 : D.pyG (.tup (zs.map .str)) = some (.tuple (zs.map .str)) := by
    show (D.pysG (zs.map D.str)).map PyData.tuple = _
    rw [pysG_of (py := PyData.str) fun _ => rfl]; rfl
  show (D.pysG [.str s.text, .str s.m, stD s.m.length, .tup (s.ps.map Part.d'), .tup (s.js.map Joint.d'), .tup (zs.map .str), .str s.text]).map PyData.list = _
  simp only [D.pysG, e1, e2, e3, e4]
  rfl
theorem due_depth (s : Sp) (zs : List Str) : (duePy s zs).depth ≤ 5 := by
  have d1 : PyData.depthAll ((stL s.m.length).map PyData.str) ≤ 0 := dep_of (py := PyData.str) fun _ _ => Nat.le_refl _
  have d2 : PyData.depthAll (s.ps.map Part.py) ≤ 1 := dep_of (py := Part.py) fun _ _ => Nat.le_refl _
  have d3 : PyData.depthAll (s.js.map Joint.py) ≤ 1 := dep_of (py := Joint.py) fun _ _ => Nat.le_refl _
  have d4 : PyData.depthAll (zs.map PyData.str) ≤ 0 := dep_of (py := PyData.str) fun _ _ => Nat.le_refl _
  show max 0 (max 0 (max (PyData.depthAll ((stL s.m.length).map PyData.str) + 1) (max (PyData.depthAll (s.ps.map Part.py) + 1) (max (PyData.depthAll (s.js.map Joint.py) + 1) (max (PyData.depthAll (zs.map PyData.str) + 1) (max 0 0)))))) + 1 ≤ 5
  omega
theorem kinds_nostr {t : Str} {d : D} (hd : d ∈ kindsL t) (t' : Str) : d ≠ .str t' := by
  intro z
  subst z
  unfold kindsL at hd
  simp only [List.mem_cons, List.not_mem_nil, or_false] at hd
  rcases hd with h | h | h | h | h | h | h | h | h | h | h <;> cases h
theorem dict_show {t : Str} (ht : goodT 36000 t) : ShowG (.tuple [.str "bad text", .tuple [.dict [(.str "a", .str t)]]]) := by
  have ht' : (t.cps.toList.all fun c => decide (c < 16 ^ 8)) = true := List.all_eq_true.mpr fun k hk => decide_eq_true (Nat.lt_trans (ht.2 k hk) (by decide))
  have hl : PyData.leavesShort 45 (.tuple [.str "bad text", .tuple [.dict [(.str "a", .str t)]]]) = true := by
    simp only [PyData.leavesShort, PyData.leavesShortAll, PyData.leavesShortKv, ht', Bool.and_true]
    decide +kernel
  refine ⟨rfl, by show _ ≤ 60; exact (by decide : (3 : Nat) ≤ 60), ?_⟩
  have h2 := PyData.shown_le 45 (by decide) _ hl
  have hw : PyData.weight (.tuple [.str "bad text", .tuple [.dict [(.str "a", .str t)]]]) ≤ 40000 := by
    show ("bad text" : Str).cps.size + 1 + (((("a" : Str).cps.size + t.cps.size + 2 + 0) + 1 + 0) + 1 + 0) ≤ 40000
    have e1 : ("bad text" : Str).cps.size = 8 := by decide +kernel
    have e2 : ("a" : Str).cps.size = 1 := by decide +kernel
    have e3 : t.cps.size ≤ 36000 := ht.1
    omega
  have h3 := Nat.mul_le_mul (Nat.le_refl (45 + 2)) hw
  have e : sizeLine = 16777216 := by decide
  rw [e]
  omega
theorem kind_show {t : Str} {d : D} (ht : goodT 36000 t) (hd : d ∈ kindsL t) : ∃ P, D.pyG (pairD "bad text" d) = some P ∧ ShowG P := by
  have hts := strOk_of ht.2
  have w1 : PyData.strOk ("bad text" : Str) = true := by decide +kernel
  have w2 : ("bad text" : Str).length ≤ 10 := by decide
  have fn : Fine .none 100000 := ⟨rfl, rfl, rfl, Nat.zero_le _, Nat.zero_le _⟩
  have fs := fine_str (n := 36000) hts ht.1
  unfold kindsL at hd
  simp only [List.mem_cons, List.not_mem_nil, or_false] at hd
  rcases hd with rfl | rfl | rfl | rfl | rfl | rfl | rfl | rfl | rfl | rfl | rfl
  · exact one_show w1 w2 rfl fn (Nat.zero_le _)
  · exact one_show w1 w2 rfl ((fine_big (i := 0) (by decide)).up (by decide)) (Nat.zero_le _)
  · exact one_show w1 w2 rfl ((fine_big (i := 7) (by decide)).up (by decide)) (Nat.zero_le _)
  · exact one_show w1 w2 rfl ((fine_bool true).up (by decide)) (Nat.zero_le _)
  · exact one_show w1 w2 rfl ((fine_big (i := 10 ^ Int.toNat 30) (by decide +kernel)).up (by decide)) (Nat.zero_le _)
  · exact one_show w1 w2 rfl ((fine_tup (n := 10) (d := 0) fines_nil (by decide)).up (by decide)) (by decide)
  · exact one_show w1 w2 rfl ((fine_lst (n := 10) (d := 0) fines_nil (by decide)).up (by decide)) (by decide)
  · exact ⟨_, rfl, ⟨by decide +kernel, by decide +kernel, by decide +kernel⟩⟩
  · exact one_show w1 w2 rfl ((fine_tup (n := 40000) (d := 0) (fines_cons (m := 0) fs (Nat.zero_le _) fines_nil (by decide)) (by decide)).up (by decide)) (by show (1 : Nat) ≤ 5; decide)
  · exact one_show w1 w2 rfl ((fine_lst (n := 40000) (d := 0) (fines_cons (m := 0) fs (Nat.zero_le _) fines_nil (by decide)) (by decide)).up (by decide)) (by show (1 : Nat) ≤ 5; decide)
  · exact ⟨_, rfl, dict_show ht⟩
theorem draw_if {a b k lim : Int} {ρ : Cw.Env} {Ψ : D → List Cell → Prop} (hlim : lim ≤ 2400) (hB : B3 a b k lim) (h : ∀ t a' b' k', goodT 2200 t → B3 a' b' k' (lim + 401) → Ψ (.str t) [spr a' b' k']) :
    dIf (dT (dBin (fEq false) (dCallM S__law_take 2 (dCons (dVar 0) (dCons (dC (.int 3)) dNil))) (dC (.int 0)))) (dCallM S__law_over 1 (dCons (dVar 0) dNil)) (dCallP S__law_joined 1 (dCons (dCallM S__law_spec 1 (dCons (dVar 0) dNil)) dNil)) (some (.cell 0) :: ρ) [spr a b k] Ψ := by
  conv => whnf
  refine ⟨rfl, ?_⟩
  refine take_call (rest := []) hB (by omega) (by decide) fun v a1 b1 k1 p1 q1 hB1 => ?_
  conv => whnf
  rw [if_neg (by decide)]
  by_cases hv : v = 0
  case pos =>
    rw [decide_eq_true hv]
    conv => whnf
    refine ⟨rfl, ?_⟩
    exact over_call (by omega) hB1 fun t a2 b2 k2 ht hB2 => h t a2 b2 k2 ht (hB2.up (by omega))
  case neg =>
    rw [decide_eq_false hv]
    conv => whnf
    refine ⟨rfl, ?_⟩
    refine spec_call (by omega) hB1 fun s a2 b2 k2 hs hB2 => ?_
    conv => whnf
    exact ⟨rfl, sp_ok s, s, rfl, hs, h _ a2 b2 k2 (text_good hs) (hB2.up (by omega))⟩
theorem text_inj {s s' : Sp} (h : s.ok) (h' : s'.ok) (e : s.text = s'.text) : s = s' := by
  have el : s.lines = s'.lines := by rw [← Sp.split h, ← Sp.split h', e]
  injection el with e1 e2
  have em : s.m = s'.m := by
    have := signs_of_line h.m
    rw [e1, signs_of_line h'.m] at this
    exact (Option.some.inj this).symm
  have hn : s.m.length ≤ 5 := tame_len (let_tame (n := 5) h.m)
  have p1 := pieces_in hn (js := s.js) h.ps
  have p2 := pieces_in (n := s.m.length) hn (js := s'.js) (by rw [em]; exact h'.ps)
  have j1 := joints_in hn (ps := s.ps) h.js
  have j2 := joints_in (n := s.m.length) hn (ps := s'.ps) (by rw [em]; exact h'.js)
  rw [e2, p2] at p1
  rw [e2, j2] at j1
  obtain ⟨m, ps, js⟩ := s
  obtain ⟨m', ps', js'⟩ := s'
  simp only at em p1 j1
  subst em; subst p1; subst j1
  rfl
section
variable {P : Program} {w : World} {K : PySem.W.Frag} {mg : Str → Option Value} {base : Heap}
set_option maxHeartbeats 8000000 in
theorem ok__law_right (T : Tx K mg) (TB : LamX.TabB base mg T.cL T.P) : FnG P w K mg base 14 T.a__law_right T.d__law_right ["_law_spring_here"] (spD K 1 1 S__law_right) := by
  refine fnGCD T.FC sc__law_right fun A outer s H E hgu hr => ⟨_, (psd_cons (psd_set (i := 1) sc__law_right.nd (pd_if (pdt_eq hr (pd_callM (ok__law_take T) (hr.mono (by decide)) T.g__law_take T.F__law_take.kp T.b__law_take pass0 (pds_cons (pd_v 0) (pds_cons pd_int pds_nil))) pd_int) (pd_callM (ok__law_over T) (hr.mono (by decide)) T.g__law_over T.F__law_over.kp T.b__law_over pass0 (pds_cons (pd_v 0) pds_nil)) (pd_callP (ok__law_joined T) (hr.mono (by decide)) T.g__law_joined T.F__law_joined.kp T.b__law_joined pass0 (pds_cons (pd_callM (ok__law_spec T) (hr.mono (by decide)) T.g__law_spec T.F__law_spec.kp T.b__law_spec pass0 (pds_cons (pd_v 0) pds_nil)) pds_nil)))) (psd_cons (psd_for PassesOwn.never rfl (pid_range1 (pd_callM (ok__law_take T) (hr.mono (by decide)) T.g__law_take T.F__law_take.kp T.b__law_take pass0 (pds_cons (pd_v 0) (pds_cons pd_int pds_nil))) T.n_range) (pgd_name (i := 2) sc__law_right.nd) (psd_one (psd_set (i := 1) sc__law_right.nd (pd_callM (ok__law_bent T) (hr.mono (by decide)) T.g__law_bent T.F__law_bent.kp T.b__law_bent pass0 (pds_cons (pd_v 0) (pds_cons (pd_v 1) pds_nil)))))) (psd_cons (psd_set (i := 3) sc__law_right.nd (pd_callP (ok__law_read T) (hr.mono (by decide)) T.g__law_read T.F__law_read.kp T.b__law_read pass0 (pds_cons (pd_v 1) pds_nil))) (psd_cons (psd_set (i := 4) sc__law_right.nd (pd_if (pdt_isn (pd_v 3) pd_non) (pd_tup (pds_cons pd_str (pds_cons (pd_tup (pds_cons (pd_v 1) pds_nil)) pds_nil))) (pd_tup (pds_cons pd_str (pds_cons (pd_tup (pds_cons (pd_callP (ok__law_due T) (hr.mono (by decide)) T.g__law_due T.F__law_due.kp T.b__law_due pass0 (pds_cons (pd_v 3) pds_nil)) pds_nil)) pds_nil))))) (psd_cons (psd_set (i := 5) sc__law_right.nd (pd_lam (k := 10) (tell := tell6 T.C_InvalidText) (tsu := tsu6 T.C_InvalidText) T.F__law_caught sc__law_caught rfl T.g__law_caught T.b__law_caught T.g_BadValue T.g_BadName T.g_NoAnswer TB rfl T.hT (hr.mono (by decide)) (tell6_exm T.xm_InvalidText) (fun cdv A outer s H p pn hr => (psd_cons (psd_set (i := 3) sc__law_caught.nd (pd_callE (ok__law_sort T) (hr.mono (by decide)) (List.mem_cons_self) T.g__law_sort T.F__law_sort.kp T.b__law_sort (pds_cons (pd_v 2) pds_nil))) (psd_one (psd_ret (pd_tup (pds_cons (pd_v 3) (pds_cons (pd_callE (ok__law_told T) (hr.mono (by decide)) (List.mem_cons_self) T.g__law_told T.F__law_told.kp T.b__law_told (pds_cons (pd_v 2) (pds_cons (pd_v 3) pds_nil))) pds_nil))))))) tell6_ts (fun A outer s H E f c' hr => (pdx_callA (ok__law_seen T) (hr.mono (by decide)) T.g__law_seen T.F__law_seen.kp T.b__law_seen pass0 (pdx_make T.mk_Borders (okY_Borders___init__ T) (hr.mono (by decide)) T.g_Borders T.b_Borders___init__ (passes_call (takes_of rfl rfl rfl rfl) fun _ _ _ _ h => h) (pds_cons (pd_v 1) pds_nil)))) (LamX.lamS_by (by kernel_rfl)))) (psd_cons (psd_if (PDw.pt (pdw_or (pdt_ne hr (pd_reprG hgu hr.units (pd_v 5) T.n_repr) (pd_reprG hgu hr.units (pd_v 4) T.n_repr)) (pdw_or1 (pdt_ne hr (pd_reprG hgu hr.units (pd_lam (k := 10) (tell := tell6 T.C_InvalidText) (tsu := tsu6 T.C_InvalidText) T.F__law_caught sc__law_caught rfl T.g__law_caught T.b__law_caught T.g_BadValue T.g_BadName T.g_NoAnswer TB rfl T.hT (hr.mono (by decide)) (tell6_exm T.xm_InvalidText) (fun cdv A outer s H p pn hr => (psd_cons (psd_set (i := 3) sc__law_caught.nd (pd_callE (ok__law_sort T) (hr.mono (by decide)) (List.mem_cons_self) T.g__law_sort T.F__law_sort.kp T.b__law_sort (pds_cons (pd_v 2) pds_nil))) (psd_one (psd_ret (pd_tup (pds_cons (pd_v 3) (pds_cons (pd_callE (ok__law_told T) (hr.mono (by decide)) (List.mem_cons_self) T.g__law_told T.F__law_told.kp T.b__law_told (pds_cons (pd_v 2) (pds_cons (pd_v 3) pds_nil))) pds_nil))))))) tell6_ts (fun A outer s H E f c' hr => (pdx_callA (ok__law_seen T) (hr.mono (by decide)) T.g__law_seen T.F__law_seen.kp T.b__law_seen pass0 (pdx_makeK T.mk_Borders (okY_Borders___init__ T) (hr.mono (by decide)) T.g_Borders T.kb_Borders (passes_call (takes_of rfl rfl rfl rfl) fun _ _ _ _ h => h) (pdk_cons (pd_v 1) pdk_nil)))) (LamX.lamS_by (by kernel_rfl))) T.n_repr) (pd_reprG hgu hr.units (pd_v 4) T.n_repr))))) (psd_one (psd_ret pd_bl)) psd_nil) (psd_cons (psd_set (i := 6) sc__law_right.nd (pd_callM (ok__law_other_kind T) (hr.mono (by decide)) T.g__law_other_kind T.F__law_other_kind.kp T.b__law_other_kind pass0 (pds_cons (pd_v 0) (pds_cons (pd_v 1) pds_nil)))) (psd_one (psd_ret (pd_eq hr (pd_reprG hgu hr.units (pd_lam (k := 10) (tell := tell6 T.C_InvalidText) (tsu := tsu6 T.C_InvalidText) T.F__law_caught sc__law_caught rfl T.g__law_caught T.b__law_caught T.g_BadValue T.g_BadName T.g_NoAnswer TB rfl T.hT (hr.mono (by decide)) (tell6_exm T.xm_InvalidText) (fun cdv A outer s H p pn hr => (psd_cons (psd_set (i := 3) sc__law_caught.nd (pd_callE (ok__law_sort T) (hr.mono (by decide)) (List.mem_cons_self) T.g__law_sort T.F__law_sort.kp T.b__law_sort (pds_cons (pd_v 2) pds_nil))) (psd_one (psd_ret (pd_tup (pds_cons (pd_v 3) (pds_cons (pd_callE (ok__law_told T) (hr.mono (by decide)) (List.mem_cons_self) T.g__law_told T.F__law_told.kp T.b__law_told (pds_cons (pd_v 2) (pds_cons (pd_v 3) pds_nil))) pds_nil))))))) tell6_ts (fun A outer s H E f c' hr => (pdx_make T.mk_Borders (okY_Borders___init__ T) (hr.mono (by decide)) T.g_Borders T.b_Borders___init__ (passes_call (takes_of rfl rfl rfl rfl) fun _ _ _ _ h => h) (pds_cons (pd_v 6) pds_nil))) (LamX.lamS_by (by kernel_rfl))) T.n_repr) (pd_reprG hgu hr.units (pd_tup (pds_cons pd_str (pds_cons (pd_tup (pds_cons (pd_v 6) pds_nil)) pds_nil))) T.n_repr))))))))))), ?_⟩
  rintro c ds Φ hc - ⟨a, b, k, lim, rfl, rfl, hB, hlim, hΦ⟩
  show dIf _ _ _ _ _ _
  refine draw_if (lim := lim) (by omega) hB fun t0 a2 b2 k2 ht0 hB2 => ?_
  conv => whnf
  refine ⟨rfl, ?_⟩
  refine take_call (rest := []) hB2 (by omega) (by decide) fun w a3 b3 k3 p3 q3 hB3 => ?_
  conv => whnf
  refine ⟨by omega, ?_⟩
  refine forD_inv (fun ds ρ c => ∃ (n : Nat) (t : Str) (a b k : Int) (x2 : Option D), ρ = [some (.cell 0), some (.str t), x2, none, none, none, none] ∧ c = [spr a b k] ∧ goodT n t ∧ ds.length ≤ 2 ∧ n ≤ 35400 ∧ (1 ≤ ds.length → n ≤ 8840) ∧ (2 ≤ ds.length → n ≤ 2200) ∧ B3 a b k (lim + 415 - 5 * ds.length)) ?_ ?_ _ _ _ ⟨2200, t0, a3, b3, k3, none, rfl, rfl, ht0, by rw [rng_len]; omega, by omega, by omega, by omega, hB3.up (by rw [rng_len]; omega)⟩
  · rintro ρ c ⟨n, t, a, b, k, x2, rfl, rfl, ht, -, hn2, -, -, hB⟩
    replace hB : B3 a b k (lim + 415) := hB.up (by simp)
    have htN : goodT 36000 t := good_up ht (by omega)
    have odt : oddD (.str t) := trivial
    conv => whnf
    refine ⟨rfl, rfl, t, rfl, htN, ?_, ?_⟩
    · intro s hs e
      subst e
      conv => whnf
      refine ⟨rfl, sp_ok s, s, rfl, hs, fun zs hz => ?_⟩
      have bf : okDs 0 [.str s.text, .str s.m, .tup (s.ps.map Part.d'), .tup (s.js.map Joint.d'), stD s.m.length, .tup (zs.map .str)] = true := by
        have h := b_ok T.C_Borders s zs
        have h : (okDs 0 [.str s.text, .str s.m, .tup (s.ps.map Part.d'), .tup (s.js.map Joint.d'), stD s.m.length, .tup (zs.map .str)] && true) = true := h
        rw [Bool.and_true] at h; exact h
      obtain ⟨PD, eD, sD⟩ := one_show (w := "told") (d := dueD s zs) (by decide +kernel) (by decide) (pyG_due s zs) ((due_fine hs hz).up (by decide)) (due_depth s zs)
      conv => whnf
      refine ⟨by show 1 ≤ sizeLine; decide, ?_⟩
      conv => whnf
      refine ⟨by show 2 ≤ sizeLine; decide, ?_⟩
      conv => whnf
      refine ⟨rfl, rfl, .str s.text, rfl, rfl, odt, fun t' h => (by cases h; exact htN), fun z => absurd rfl (z s hs), ?_⟩
      intro s' zs' hs' hz' e
      injection e with e
      have es := text_inj hs hs' e
      subst es
      have ez := tits_one hz hz'
      subst ez
      conv => whnf
      refine ⟨rfl, rfl, bf, ?_⟩
      refine ⟨b_ok T.C_Borders s zs, s, zs, rfl, ?_⟩
      conv => whnf
      refine ⟨PD, eD, sD, ?_⟩
      conv => whnf
      refine ⟨PD, eD, sD, ?_⟩
      conv => whnf
      rw [if_pos rfl, decide_eq_true (rfl : PD.shown = PD.shown)]
      conv => whnf
      refine ⟨rfl, rfl, rfl, .str s.text, rfl, rfl, odt, fun t' h => (by cases h; exact htN), fun z => absurd rfl (z s hs), ?_⟩
      intro s' zs' hs' hz' e
      injection e with e
      have es := text_inj hs hs' e
      subst es
      have ez := tits_one hz hz'
      subst ez
      conv => whnf
      refine ⟨rfl, rfl, bf, ?_⟩
      refine ⟨b_ok T.C_Borders s zs, s, zs, rfl, ?_⟩
      conv => whnf
      refine ⟨PD, eD, sD, ?_⟩
      conv => whnf
      refine ⟨PD, eD, sD, ?_⟩
      conv => whnf
      rw [if_pos rfl, decide_eq_true (rfl : PD.shown = PD.shown)]
      conv => whnf
      refine ⟨rfl, ?_⟩
      refine kind_call (by omega) hB fun d hd a' b' k' hB' => ?_
      obtain ⟨ok, od⟩ := kinds_ok hd
      obtain ⟨P2, eP, sP⟩ := kind_show htN hd
      have ok1 : okDs 0 [d] = true := by show (okD 0 d && true) = true; rw [ok]; rfl
      conv => whnf
      refine ⟨rfl, ok1, d, rfl, rfl, od, fun t' h => absurd h (kinds_nostr hd t'), ?_, fun s' zs' _ _ h => absurd h (kinds_nostr hd _)⟩
      intro _
      refine ⟨_, tell6_eq, ok1, ?_⟩
      conv => whnf
      refine ⟨P2, eP, sP, ?_⟩
      conv => whnf
      refine ⟨by show 1 ≤ sizeLine; decide, ?_⟩
      conv => whnf
      refine ⟨by show 2 ≤ sizeLine; decide, ?_⟩
      conv => whnf
      refine ⟨P2, eP, sP, ?_⟩
      conv => whnf
      rw [if_neg (by decide), decide_eq_true (rfl : P2.shown = P2.shown)]
      conv => whnf
      exact hΦ _ _ _ (hB'.up (by omega))
    · intro no
      obtain ⟨PD, eD, sD⟩ := one_show (w := "bad text") (d := .str t) (by decide +kernel) (by decide) rfl ((fine_str (n := 36000) (strOk_of htN.2) htN.1).up (by decide)) (Nat.zero_le _)
      conv => whnf
      refine ⟨by show 1 ≤ sizeLine; decide, ?_⟩
      conv => whnf
      refine ⟨by show 2 ≤ sizeLine; decide, ?_⟩
      conv => whnf
      refine ⟨rfl, rfl, .str t, rfl, rfl, odt, fun t' h => (by cases h; exact htN), ?_, fun s' zs' hs' hz' e => (by injection e with e; exact absurd e (no s' hs'))⟩
      intro _
      refine ⟨_, tell6_eq, rfl, ?_⟩
      conv => whnf
      refine ⟨PD, eD, sD, ?_⟩
      conv => whnf
      refine ⟨PD, eD, sD, ?_⟩
      conv => whnf
      rw [if_pos rfl, decide_eq_true (rfl : PD.shown = PD.shown)]
      conv => whnf
      refine ⟨rfl, rfl, rfl, .str t, rfl, rfl, odt, fun t' h => (by cases h; exact htN), ?_, fun s' zs' hs' hz' e => (by injection e with e; exact absurd e (no s' hs'))⟩
      intro _
      refine ⟨_, tell6_eq, rfl, ?_⟩
      conv => whnf
      refine ⟨PD, eD, sD, ?_⟩
      conv => whnf
      refine ⟨PD, eD, sD, ?_⟩
      conv => whnf
      rw [if_pos rfl, decide_eq_true (rfl : PD.shown = PD.shown)]
      conv => whnf
      refine ⟨rfl, ?_⟩
      refine kind_call (by omega) hB fun d hd a' b' k' hB' => ?_
      obtain ⟨ok, od⟩ := kinds_ok hd
      obtain ⟨P2, eP, sP⟩ := kind_show htN hd
      have ok1 : okDs 0 [d] = true := by show (okD 0 d && true) = true; rw [ok]; rfl
      conv => whnf
      refine ⟨rfl, ok1, d, rfl, rfl, od, fun t' h => absurd h (kinds_nostr hd t'), ?_, fun s' zs' _ _ h => absurd h (kinds_nostr hd _)⟩
      intro _
      refine ⟨_, tell6_eq, ok1, ?_⟩
      conv => whnf
      refine ⟨P2, eP, sP, ?_⟩
      conv => whnf
      refine ⟨by show 1 ≤ sizeLine; decide, ?_⟩
      conv => whnf
      refine ⟨by show 2 ≤ sizeLine; decide, ?_⟩
      conv => whnf
      refine ⟨P2, eP, sP, ?_⟩
      conv => whnf
      rw [if_neg (by decide), decide_eq_true (rfl : P2.shown = P2.shown)]
      conv => whnf
      exact hΦ _ _ _ (hB'.up (by omega))
  · rintro d ds ρ c F hF ⟨n, t, a, b, k, x2, rfl, rfl, ht, h1, h2, h3, h4, hB⟩
    have h1 : ds.length + 1 ≤ 2 := h1
    have h3 := h3 (by show 1 ≤ ds.length + 1; omega)
    have h4' : 2 ≤ ds.length + 1 → n ≤ 2200 := h4
    have hB : B3 a b k (lim + 415 - 5 * ((ds.length : Int) + 1)) := by simpa using hB
    conv => whnf
    refine ⟨rfl, ?_⟩
    refine bent_call ht (by omega) (by omega) hB fun t' a' b' k' ht' hB' => ?_
    conv => whnf
    exact hF _ _ ⟨4 * n + 40, t', a', b', k', _, rfl, rfl, ht', by omega, by omega, fun z => by have := h4' (by omega); omega, fun z => by omega, hB'.up (by omega)⟩
set_option maxHeartbeats 8000000 in
theorem ok__law_all_right (T : Tx K mg) (TB : LamX.TabB base mg T.cL T.P) : FnG P w K mg base 15 T.a__law_all_right T.d__law_all_right ["_law_spring_here"] (spD K 1 1 S__law_all_right) := by
  refine fnGD T.F__law_all_right sc__law_all_right fun cdv A outer s H E hgu hr => ⟨_, (psd_one (psd_ret (pd_all rfl (pd_lc (i := 1) rfl sc__law_all_right.nd (pid_range1 pd_int T.n_range) (by kernel_rfl) (fun _ _ _ _ _ => pg_name (i := 1) sc__law_all_right.nd rfl (Or.inl rfl)) (fun _ _ _ _ _ => ptd_nil) (fun _ _ _ _ _ => (pd_callMG (ok__law_right T TB) hgu (hr.mono (by decide)) T.g__law_right T.F__law_right.kp T.b__law_right pass0 (pds_cons (pd_v 0) pds_nil)))) T.n_all))), ?_⟩
  rintro c ds Φ hc - ⟨a, b, k, rfl, rfl, hB, hΦ⟩
  conv => whnf
  refine ⟨by decide, ?_⟩
  refine lc_spr _ [] a b k 0 (fun d a b k lim acc Ψ hB hl h => ?_) rfl (by show 0 + (rng 0 6).length ≤ _; rw [rng_len]; decide) hB (by rw [rng_len]; decide) fun a' b' k' => ?_
  · conv => whnf
    refine ⟨rfl, ?_⟩
    exact ⟨spr a b k, rfl, rfl, rfl, a, b, k, lim, rfl, rfl, hB, by omega, fun a' b' k' h1 => ⟨rfl, rfl, h a' b' k' h1⟩⟩
  · conv => whnf
    refine ⟨_, bls7 _, ?_⟩
    rw [show ((rng 0 (Int.toNat 6)).map fun _ => true).all id = true by simp]
    exact hΦ _ _ _

end
end K03

namespace K03
open PySem PySem.Spec PyProof.Rows L2 Cw
theorem inner_more {acc : List D} {y : D} {ex : List Cell} {Q : List Cell → Prop} (ha : okDs 0 acc = true) (hy : okD 1 y = true) (q : Q []) : inner 0 acc y (.lst acc :: ex) Q := by
  refine ⟨rfl, ?_⟩
  cases ex with
  | nil => exact q
  | cons e r =>
    refine ⟨?_, hy, q⟩
    show (okDs 1 acc && true) = true
    rw [show okDs 1 acc = true from okDs_up _ ha]; rfl
theorem lc_fresh {i : Nat} {te : TD} {ρ : Cw.Env} {Φ : List D → List Cell → Prop} (f : D → D) : ∀ (ds acc : List D),
    (∀ d ∈ ds, okD 0 (f d) = true ∧ ∀ acc (Ψ : D → List Cell → Prop), (∀ ex, Ψ (f d) (.lst acc :: ex)) → te (ρ.set i (some d)) [.lst acc] Ψ) →
    okDs 0 acc = true → acc.length + ds.length ≤ sizeLine → Φ (acc ++ ds.map f) [] → lcD i dYes te ds acc ρ [] Φ
  | [], acc, _, h, _, q => ⟨rfl, h, by simpa using q⟩
  | d :: ds, acc, he, h, hl, q => by
    have hl' : acc.length + (ds.length + 1) ≤ sizeLine := hl
    obtain ⟨hk, ht⟩ := he d List.mem_cons_self
    show te _ _ _
    refine ht acc _ fun ex => ⟨by omega, inner_more h (okD_up _ hk) ?_⟩
    refine lc_fresh f ds _ (fun x hx => he x (List.mem_cons_of_mem _ hx)) (okDs_app h (okDs_one hk)) (by rw [List.length_append]; show acc.length + 1 + ds.length ≤ _; omega) ?_
    simpa using q
theorem oki : ∀ ns : List Int, okDs 0 (ns.map D.int) = true
  | [] => rfl
  | n :: ns => by
    show (true && okDs 0 (ns.map D.int)) = true
    rw [oki ns]; rfl
theorem bls_true : ∀ ds : List D, Cw.bls (ds.map fun _ => D.bl true) = some (ds.map fun _ => true)
  | [] => rfl
  | d :: ds => by
    have ih := bls_true ds
    show (Cw.bls (D.bl true :: ds.map fun _ => D.bl true)) = _
    simp only [Cw.bls, ih]
    rfl
theorem all_true (ds : List D) : (ds.map fun _ => true).all id = true := by simp
def S_law : Pm := fun c ds Φ => ∃ ns, ds = [intsD ns] ∧ ns.length ≤ 63 ∧ Φ (.bl true) c
section
variable {P : Program} {w : World} {K : PySem.W.Frag} {mg : Str → Option Value} {base : Heap}
set_option maxHeartbeats 8000000 in
theorem ok_law (T : Tx K mg) (TB : LamX.TabB base mg T.cL T.P) : FnG P w K mg base 16 T.a_law T.d_law ["_law_cells"] (spD K 0 1 S_law) := by
  refine fnGD T.F_law sc_law fun cdv A outer s H E hgu hr => ⟨_, (psd_one (psd_ret (pd_all rfl (pd_lc (i := 1) rfl sc_law.nd (pid_range1 (pd_max rfl pd_int (pd_min rfl (pd_len (pd_v 0) T.n_len) pd_int T.n_min) T.n_max) T.n_range) (by kernel_rfl) (fun _ _ _ _ _ => pg_name (i := 1) sc_law.nd rfl (Or.inl rfl)) (fun _ _ _ _ _ => ptd_nil) (fun _ _ _ _ _ => (pd_callMG (ok__law_all_right T TB) hgu (hr.mono (by decide)) T.g__law_all_right T.F__law_all_right.kp T.b__law_all_right pass0 (pds_cons (pd_callN (ok__law_spring T) (hr.mono (by decide)) T.g__law_spring T.F__law_spring.kp T.b__law_spring pass0 (pds_cons (pd_v 0) (pds_cons (pd_v 1) pds_nil))) pds_nil)))) T.n_all))), ?_⟩
  rintro c ds Φ hc - ⟨ns, rfl, hl, hΦ⟩
  cases c with
  | cons _ _ => cases hc
  | nil =>
  conv => whnf
  have hnl : ((ns.map D.int).length : Int) ≤ 63 := by rw [List.length_map]; omega
  generalize hM : (if (if 5 < ((ns.map D.int).length : Int) then 5 else ((ns.map D.int).length : Int)) > 2 then (if 5 < ((ns.map D.int).length : Int) then 5 else ((ns.map D.int).length : Int)) else 2) = M
  have hM' : 0 ≤ M ∧ M ≤ 5 := by
    subst hM
    split <;> split <;> omega
  refine ⟨by omega, ?_⟩
  refine lc_fresh (fun _ => .bl true) _ [] ?_ rfl ?_ ?_
  · intro d hd
    obtain ⟨j, hj, rfl⟩ := List.mem_map.mp hd
    have hj := List.mem_range.mp hj
    refine ⟨rfl, fun acc Ψ h => ?_⟩
    conv => whnf
    refine ⟨rfl, ?_, ns, _, rfl, ⟨by omega, by omega⟩, hl, fun a b ha hb => ?_⟩
    · show (okDs 0 (ns.map D.int) && (true && true)) = true
      rw [oki]; rfl
    · conv => whnf
      exact ⟨rfl, spr a b 0, rfl, rfl, rfl, a, b, 0, rfl, rfl, ⟨ha, hb, by decide, by decide⟩, fun a' b' k' => ⟨rfl, rfl, h [spr a' b' k']⟩⟩
  · show 0 + (rng 0 M.toNat).length ≤ _
    rw [rng_len]; exact short (by omega)
  · conv => whnf
    refine ⟨_, bls_true _, ?_⟩
    rw [all_true]
    exact hΦ

end
end K03

namespace K03
open PySem PySem.Spec PyProof.Rows L2 Cw
theorem law_in {K : PySem.W.Frag} {H : Hp} {a P : Addr} {ns : List Int} (hl : ns.length ≤ 63) (hT : tabsK K = [(P, (⟨lamQ, rfl⟩ : LQ))]) (hH : H P = some (.tbl #[])) (h : SqL K H a (ns.map V.int)) : spD K 0 1 S_law [.ref a] H (fun v _ => v = .bl true) fun _ _ _ => False := by
  have at_ : ∀ b u, H b = some u → (∀ ps, u ≠ .tbl ps) → hid ⟨[], [P]⟩ H b = some u := fun b u e n => by
    rw [hid_of]
    · exact e
    · refine ⟨fun z => (by cases z), fun z => ?_⟩
      have : b = P := by simpa using z
      subst this
      rw [hH] at e
      exact n _ (Option.some.inj e).symm
  have h' : SqL K (hid ⟨[], [P]⟩ H) a (ns.map V.int) := by
    rcases h with (h | ⟨o, h⟩) | h
    · exact .inl (.inl (at_ _ _ h fun _ z => nomatch z))
    · exact .inl (.inr ⟨o, at_ _ _ h fun _ z => nomatch z⟩)
    · exact .inr h
  have ri : ∀ ns : List Int, RL K [] (hid ⟨[], [P]⟩ H) (ns.map D.int) (ns.map V.int) := fun ns => by
    induction ns with
    | nil => rfl
    | cons n ns ih => exact ⟨_, _, rfl, rfl, ih⟩
  refine ⟨⟨[], [P]⟩, [], [intsD ns], fun d _ => d = .bl true, rfl, rfl, ⟨rfl, List.nodup_nil, fun k ce e => by simp at e, fun b hb => ?_, fun b hb => absurd (show b ∈ ([] : List Addr) from hb) (by simp), fun p hp => ?_⟩, ⟨.ref a, [], rfl, ⟨a, _, rfl, h', ri ns⟩, rfl⟩, ⟨ns, rfl, hl, rfl⟩, fun d c' w H' hd _ r _ => ?_⟩
  · have : b = P := by simpa using hb
    subst this
    exact ⟨_, hH, fun _ z => nomatch z⟩
  · rw [hT] at hp
    have : p = (P, (⟨lamQ, rfl⟩ : LQ)) := by simpa using hp
    subst this
    exact ⟨List.mem_cons_self, #[], hH, True.intro, fun pos cv hc => by
      have z : codeAmong pos [] = some cv := hc
      simp [codeAmong] at z⟩
  · subst hd
    exact r
theorem fin {l : PySem.W.OpenLaw} {w : World} {K : PySem.W.Frag} {mg : Str → Option Value} {fa : Addr} {h : Heap} (T : Tx K mg) (KX : K.In h) (hget : h.get? T.P = some (PySem.W.tabObj #[])) (nT : K.lookup T.P = none) (hcd : PySem.W.codeHdIn K T.cL T.P = true) (hb : ∀ (s : Shared) (v : Value), BindsTo s T.d_law ⟨[v], []⟩ [("_law_cells", v)]) (hfa : mg "law" = some (.ref fa)) :
    ∃ (fd : FuncData) (cL P : Addr), h.get? P = some { cls := .none, data := .fields #[] } ∧ K.lookup P = none ∧ PySem.W.CodeHd h cL P ∧ (∀ (s : Shared) (v : Value), BindsTo s fd ⟨[v], []⟩ [("_law_cells", v)]) ∧
      (∀ (H : Hp) (a : Addr) (ns : List Int), ns.length ≤ 63 → H P = some (.tbl #[]) → SqL K H a (ns.map V.int) → spD K 0 1 S_law [.ref a] H (fun v _ => v = .bl true) fun _ _ _ => False) ∧
      ∀ base : Heap, K.In base → base.Ns mainGlobals mg → LamX.TabB base mg cL P → FnG l.prog w K mg base 16 fa fd ["_law_cells"] (spD K 0 1 S_law) := by
  have e := hfa.symm.trans T.g_law
  have e : fa = T.a_law := by injection e with e; injection e
  subst e
  exact ⟨T.d_law, T.cL, T.P, hget, nT, PySem.W.codeHd_of_K KX hcd, hb, fun H a ns hl hH hS => law_in hl T.hTab hH hS, fun base _ _ TB => ok_law T TB⟩
theorem walkL {l : PySem.W.OpenLaw} {q : Program} {loose : List Str} {XP : (Str → Option Value) → Heap → Prop} {YP : World → Heap → Prop} {d : DefRec} {K : Params → PySem.W.Frag} (hn : l.most = some 63) (hdf : d.params.defaults = [])
    (hY : ∀ (w : World) (h : Heap), YP w h → (K w.params).In h)
    (F : ∀ (w : World) (mg : Str → Option Value) (fa : Addr) (h : Heap), YP w h → (K w.params).In h → h.Ns mainGlobals mg → mg d.name = some (.ref fa) →
      ∃ (fd : FuncData) (cL P : Addr), h.get? P = some { cls := .none, data := .fields #[] } ∧ (K w.params).lookup P = none ∧ PySem.W.CodeHd h cL P ∧ (∀ (s : Shared) (v : Value), BindsTo s fd ⟨[v], []⟩ [("_law_cells", v)]) ∧
        (∀ (H : Hp) (a : Addr) (ns : List Int), ns.length ≤ 63 → H P = some (.tbl #[]) → SqL (K w.params) H a (ns.map V.int) → spD (K w.params) 0 1 S_law [.ref a] H (fun v _ => v = .bl true) fun _ _ _ => False) ∧
        ∀ base : Heap, (K w.params).In base → base.Ns mainGlobals mg → LamX.TabB base mg cL P → FnG l.prog w (K w.params) mg base 16 fa fd ["_law_cells"] (spD (K w.params) 0 1 S_law)) :
    PySem.W.WalkO q loose XP YP l.row.toRowW d [] (fun f vs => PySem.call f vs) :=
  walkT (n := 63) (k := 16) (x := "_law_cells") (sp := fun w => spD (K w.params) 0 1 S_law) hn (by decide) hdf ⟨rfl, by decide, by decide⟩ hY F
end K03
open PySem PySem.W PyProof.Rows
local macro_rules | `(tactic| o_head $h:term) => `(tactic| refine K03.head_km (r := K03.rowR) (q := K03.qvR) (M := 9000) (loose := K03.namesR) (kwd := []) (h := $h) rfl (by kernel_rfl) (fun s => by kernel_rfl) K03.runT (by rfl) (by rfl) (by rfl) (by rfl) (by first | assumption | decide +kernel) (by decide +kernel) ⟨rfl, rfl, rfl, rfl, rfl, by decide +kernel⟩ ?hw ?hc)
set_option maxRecDepth 100000 in
set_option maxHeartbeats 0 in
theorem PySem.Challenge.cw_cornerways_k03_texts_of_border_books_holds : PySem.Challenge.rw_cornerways_k03_texts_of_border_books.Holds := by
  w_on; o_law; k_head; (case hw => w_witness2)
  k_fill
  refine K03.walkL (l := PySem.Challenge.rw_cornerways_k03_texts_of_border_books) rfl rfl (fun w h Y => PySem.W.km_in_of Y) ?F
  case F =>
    intro w mg fa h Y KX G hmg
    have tabs := PySem.W.km_tabs_of Y
    refine' K03.fin (K03.mkTx KX G ?z_ValueError ?z_LookupError ?z_ArithmeticError ?z_all ?z_len ?z_isinstance ?z_str ?z_int ?z_tuple ?z_range ?z_sorted ?z_set ?z_abs ?z_divmod ?z_min ?z_repr ?z_max ?s_LETTERS ?s_DIGITS ?s_LONGEST_WORD ?s_MOST_SIGNS ?s_MOST_PIECES ?s_MOST_CORNERS ?s_MOST_NAMES ?s_MOST_LONG ?s_MOST_COST ?s_TURNS ?l_TURNS ?ag_is_letters ?l_is_letters ?c_is_letters ?k_is_letters ?ag_is_word ?l_is_word ?c_is_word ?k_is_word ?ag_number_of ?l_number_of ?c_number_of ?k_number_of ?ag_signs_of ?l_signs_of ?c_signs_of ?k_signs_of ?ag_states_of ?l_states_of ?c_states_of ?k_states_of ?ag_piece_of ?l_piece_of ?c_piece_of ?k_piece_of ?ag_corner_of ?l_corner_of ?c_corner_of ?k_corner_of ?ag_names_of ?l_names_of ?c_names_of ?k_names_of ?ag_pieces_fit ?l_pieces_fit ?c_pieces_fit ?k_pieces_fit ?ag_corners_fit ?l_corners_fit ?c_corners_fit ?k_corners_fit ?ag_parts_of ?l_parts_of ?c_parts_of ?k_parts_of ?ag__law_spring ?l__law_spring ?c__law_spring ?k__law_spring ?ag__law_take ?l__law_take ?c__law_take ?k__law_take ?ag__law_word ?l__law_word ?c__law_word ?k__law_word ?ag__law_words ?l__law_words ?c__law_words ?k__law_words ?ag__law_state ?l__law_state ?c__law_state ?k__law_state ?ag__law_piece ?l__law_piece ?c__law_piece ?k__law_piece ?ag__law_joint ?l__law_joint ?c__law_joint ?k__law_joint ?ag__law_spec ?l__law_spec ?c__law_spec ?k__law_spec ?ag__law_piece_row ?l__law_piece_row ?c__law_piece_row ?k__law_piece_row ?ag__law_joint_row ?l__law_joint_row ?c__law_joint_row ?k__law_joint_row ?ag__law_rows ?l__law_rows ?c__law_rows ?k__law_rows ?ag__law_joined ?l__law_joined ?c__law_joined ?k__law_joined ?ag__law_states ?l__law_states ?c__law_states ?k__law_states ?ag__law_due ?l__law_due ?c__law_due ?k__law_due ?ag__law_seen ?l__law_seen ?c__law_seen ?k__law_seen ?ag__law_sort ?l__law_sort ?c__law_sort ?k__law_sort ?ag__law_told ?l__law_told ?c__law_told ?k__law_told ?ag__law_caught ?l__law_caught ?c__law_caught ?k__law_caught ?ag__law_is_word ?l__law_is_word ?c__law_is_word ?k__law_is_word ?ag__law_digit ?l__law_digit ?c__law_digit ?k__law_digit ?ag__law_is_state ?l__law_is_state ?c__law_is_state ?k__law_is_state ?ag__law_read_row ?l__law_read_row ?c__law_read_row ?k__law_read_row ?ag__law_read ?l__law_read ?c__law_read ?k__law_read ?ag__law_bent ?l__law_bent ?c__law_bent ?k__law_bent ?ag__law_sorts ?l__law_sorts ?c__law_sorts ?k__law_sorts ?ag__law_other_kind ?l__law_other_kind ?c__law_other_kind ?k__law_other_kind ?ag__law_over ?l__law_over ?c__law_over ?k__law_over ?ag__law_right ?l__law_right ?c__law_right ?k__law_right ?ag__law_all_right ?l__law_all_right ?c__law_all_right ?k__law_all_right ?ag_law ?l_law ?c_law ?k_law ?aC_Borders ?pg_Borders ?hd_Borders ?po_Borders ?sa_Borders ?mk_Borders ?kc_Borders ?ne_Borders ?mro_Borders ?bool_Borders ?hcl_Borders ?hsp_Borders ?htk_Borders ?kwNoneType_Borders ?kwbool_Borders ?kwint_Borders ?kwstr_Borders ?kwtuple_Borders ?kwlist_Borders ?kwdict_Borders ?na_whole_Borders ?na_all_states_Borders ?na_corner_names_Borders ?na_motif_Borders ?na_piece_rows_Borders ?na_corner_rows_Borders ?nolen_Borders ?l_Borders___init__ ?c_Borders___init__ ?k_Borders___init__ ?e_Borders___init__ ?i_Borders___init__ ?l_Borders_text ?c_Borders_text ?k_Borders_text ?e_Borders_text ?g_Borders_text ?tk_Borders_text ?r_Borders_text ?l_Borders_signs ?c_Borders_signs ?k_Borders_signs ?e_Borders_signs ?g_Borders_signs ?tk_Borders_signs ?r_Borders_signs ?l_Borders_states ?c_Borders_states ?k_Borders_states ?e_Borders_states ?g_Borders_states ?tk_Borders_states ?r_Borders_states ?l_Borders_pieces ?c_Borders_pieces ?k_Borders_pieces ?e_Borders_pieces ?g_Borders_pieces ?tk_Borders_pieces ?r_Borders_pieces ?l_Borders_corners ?c_Borders_corners ?k_Borders_corners ?e_Borders_corners ?g_Borders_corners ?tk_Borders_corners ?r_Borders_corners ?l_Borders_names ?c_Borders_names ?k_Borders_names ?e_Borders_names ?g_Borders_names ?tk_Borders_names ?r_Borders_names ?l_Borders___eq__ ?c_Borders___eq__ ?k_Borders___eq__ ?e_Borders___eq__ ?i_Borders___eq__ ?l_Borders___str__ ?c_Borders___str__ ?k_Borders___str__ ?e_Borders___str__ ?i_Borders___str__ ?aC_BadValue ?aC_InvalidText ?aC_InvalidLine ?aC_InvalidState ?aC_InvalidNumber ?aC_InvalidName ?aC_InvalidIndex ?aC_InvalidWish ?aC_InvalidClaim ?aC_NotBorders ?aC_NotARoom ?aC_InvalidSizes ?aC_InvalidFilling ?aC_InvalidNames ?aC_InvalidLines ?aC_BadName ?aC_UnknownName ?aC_InUse ?aC_NoAnswer ?aC_OtherLetters ?aC_TooMany ?aC_NothingToUndo ?aC_NotAsked ?aC_Broken ?oex_InvalidText ?ecl_InvalidText ?ehd_InvalidText ?ega_InvalidText ?egt_InvalidText ?esu_InvalidText ?ehc_InvalidText ?esp_InvalidText ?etk_InvalidText ?emr_InvalidText ?esa_InvalidText ?ety_InvalidText ?ekp_InvalidText ?enogiven_InvalidText ?enoindex_InvalidText ?enoshown_InvalidText ?enolimit_InvalidText ?exm_InvalidText ?kt_InvalidText_BadValue ?kt_InvalidText_InvalidText ?kt_InvalidText_InvalidLine ?kt_InvalidText_InvalidState ?kt_InvalidText_InvalidNumber ?kt_InvalidText_InvalidName ?kt_InvalidText_InvalidIndex ?kt_InvalidText_InvalidWish ?kt_InvalidText_InvalidClaim ?kt_InvalidText_NotBorders ?kt_InvalidText_NotARoom ?kt_InvalidText_InvalidSizes ?kt_InvalidText_InvalidFilling ?kt_InvalidText_InvalidNames ?kt_InvalidText_InvalidLines ?kt_InvalidText_BadName ?kt_InvalidText_UnknownName ?kt_InvalidText_InUse ?kt_InvalidText_NoAnswer ?kt_InvalidText_OtherLetters ?kt_InvalidText_TooMany ?kt_InvalidText_NothingToUndo ?kt_InvalidText_NotAsked ?kt_InvalidText_Broken ?kt_InvalidText_ValueError ?kt_InvalidText_LookupError ?kt_InvalidText_ArithmeticError ?e_InvalidText_I ?l_InvalidText_I ?c_InvalidText_I ?k_InvalidText_I ?t_InvalidText_I ?hcd ?hTab) KX (tabs _ List.mem_cons_self) ?nT ?hcc ?hbb hmg
    (case aC_Borders => k_is)
    (case aC_BadValue => k_is)
    (case aC_InvalidText => k_is)
    (case aC_InvalidLine => k_is)
    (case aC_InvalidState => k_is)
    (case aC_InvalidNumber => k_is)
    (case aC_InvalidName => k_is)
    (case aC_InvalidIndex => k_is)
    (case aC_InvalidWish => k_is)
    (case aC_InvalidClaim => k_is)
    (case aC_NotBorders => k_is)
    (case aC_NotARoom => k_is)
    (case aC_InvalidSizes => k_is)
    (case aC_InvalidFilling => k_is)
    (case aC_InvalidNames => k_is)
    (case aC_InvalidLines => k_is)
    (case aC_BadName => k_is)
    (case aC_UnknownName => k_is)
    (case aC_InUse => k_is)
    (case aC_NoAnswer => k_is)
    (case aC_OtherLetters => k_is)
    (case aC_TooMany => k_is)
    (case aC_NothingToUndo => k_is)
    (case aC_NotAsked => k_is)
    (case aC_Broken => k_is)
    (case e_Borders___init__ => k_is)
    (case e_Borders_text => k_is)
    (case e_Borders_signs => k_is)
    (case e_Borders_states => k_is)
    (case e_Borders_pieces => k_is)
    (case e_Borders_corners => k_is)
    (case e_Borders_names => k_is)
    (case e_Borders___eq__ => k_is)
    (case e_Borders___str__ => k_is)
    (case e_InvalidText_I => k_is)
    (case r_Borders_text => k_is)
    (case r_Borders_signs => k_is)
    (case r_Borders_states => k_is)
    (case r_Borders_pieces => k_is)
    (case r_Borders_corners => k_is)
    (case r_Borders_names => k_is)
    (case z_ValueError => k_is)
    (case z_LookupError => k_is)
    (case z_ArithmeticError => k_is)
    (case z_all => k_is)
    (case z_len => k_is)
    (case z_isinstance => k_is)
    (case z_str => k_is)
    (case z_int => k_is)
    (case z_tuple => k_is)
    (case z_range => k_is)
    (case z_sorted => k_is)
    (case z_set => k_is)
    (case z_abs => k_is)
    (case z_divmod => k_is)
    (case z_min => k_is)
    (case z_repr => k_is)
    (case z_max => k_is)
    (case s_LETTERS => k_is)
    (case s_DIGITS => k_is)
    (case s_LONGEST_WORD => k_is)
    (case s_MOST_SIGNS => k_is)
    (case s_MOST_PIECES => k_is)
    (case s_MOST_CORNERS => k_is)
    (case s_MOST_NAMES => k_is)
    (case s_MOST_LONG => k_is)
    (case s_MOST_COST => k_is)
    (case s_TURNS => k_is)
    (case l_TURNS => k_is)
    (case ag_is_letters => k_is)
    (case l_is_letters => k_is)
    (case c_is_letters => k_is)
    (case k_is_letters => k_is)
    (case ag_is_word => k_is)
    (case l_is_word => k_is)
    (case c_is_word => k_is)
    (case k_is_word => k_is)
    (case ag_number_of => k_is)
    (case l_number_of => k_is)
    (case c_number_of => k_is)
    (case k_number_of => k_is)
    (case ag_signs_of => k_is)
    (case l_signs_of => k_is)
    (case c_signs_of => k_is)
    (case k_signs_of => k_is)
    (case ag_states_of => k_is)
    (case l_states_of => k_is)
    (case c_states_of => k_is)
    (case k_states_of => k_is)
    (case ag_piece_of => k_is)
    (case l_piece_of => k_is)
    (case c_piece_of => k_is)
    (case k_piece_of => k_is)
    (case ag_corner_of => k_is)
    (case l_corner_of => k_is)
    (case c_corner_of => k_is)
    (case k_corner_of => k_is)
    (case ag_names_of => k_is)
    (case l_names_of => k_is)
    (case c_names_of => k_is)
    (case k_names_of => k_is)
    (case ag_pieces_fit => k_is)
    (case l_pieces_fit => k_is)
    (case c_pieces_fit => k_is)
    (case k_pieces_fit => k_is)
    (case ag_corners_fit => k_is)
    (case l_corners_fit => k_is)
    (case c_corners_fit => k_is)
    (case k_corners_fit => k_is)
    (case ag_parts_of => k_is)
    (case l_parts_of => k_is)
    (case c_parts_of => k_is)
    (case k_parts_of => k_is)
    (case ag__law_spring => k_is)
    (case l__law_spring => k_is)
    (case c__law_spring => k_is)
    (case k__law_spring => k_is)
    (case ag__law_take => k_is)
    (case l__law_take => k_is)
    (case c__law_take => k_is)
    (case k__law_take => k_is)
    (case ag__law_word => k_is)
    (case l__law_word => k_is)
    (case c__law_word => k_is)
    (case k__law_word => k_is)
    (case ag__law_words => k_is)
    (case l__law_words => k_is)
    (case c__law_words => k_is)
    (case k__law_words => k_is)
    (case ag__law_state => k_is)
    (case l__law_state => k_is)
    (case c__law_state => k_is)
    (case k__law_state => k_is)
    (case ag__law_piece => k_is)
    (case l__law_piece => k_is)
    (case c__law_piece => k_is)
    (case k__law_piece => k_is)
    (case ag__law_joint => k_is)
    (case l__law_joint => k_is)
    (case c__law_joint => k_is)
    (case k__law_joint => k_is)
    (case ag__law_spec => k_is)
    (case l__law_spec => k_is)
    (case c__law_spec => k_is)
    (case k__law_spec => k_is)
    (case ag__law_piece_row => k_is)
    (case l__law_piece_row => k_is)
    (case c__law_piece_row => k_is)
    (case k__law_piece_row => k_is)
    (case ag__law_joint_row => k_is)
    (case l__law_joint_row => k_is)
    (case c__law_joint_row => k_is)
    (case k__law_joint_row => k_is)
    (case ag__law_rows => k_is)
    (case l__law_rows => k_is)
    (case c__law_rows => k_is)
    (case k__law_rows => k_is)
    (case ag__law_joined => k_is)
    (case l__law_joined => k_is)
    (case c__law_joined => k_is)
    (case k__law_joined => k_is)
    (case ag__law_states => k_is)
    (case l__law_states => k_is)
    (case c__law_states => k_is)
    (case k__law_states => k_is)
    (case ag__law_due => k_is)
    (case l__law_due => k_is)
    (case c__law_due => k_is)
    (case k__law_due => k_is)
    (case ag__law_seen => k_is)
    (case l__law_seen => k_is)
    (case c__law_seen => k_is)
    (case k__law_seen => k_is)
    (case ag__law_sort => k_is)
    (case l__law_sort => k_is)
    (case c__law_sort => k_is)
    (case k__law_sort => k_is)
    (case ag__law_told => k_is)
    (case l__law_told => k_is)
    (case c__law_told => k_is)
    (case k__law_told => k_is)
    (case ag__law_caught => k_is)
    (case l__law_caught => k_is)
    (case c__law_caught => k_is)
    (case k__law_caught => k_is)
    (case ag__law_is_word => k_is)
    (case l__law_is_word => k_is)
    (case c__law_is_word => k_is)
    (case k__law_is_word => k_is)
    (case ag__law_digit => k_is)
    (case l__law_digit => k_is)
    (case c__law_digit => k_is)
    (case k__law_digit => k_is)
    (case ag__law_is_state => k_is)
    (case l__law_is_state => k_is)
    (case c__law_is_state => k_is)
    (case k__law_is_state => k_is)
    (case ag__law_read_row => k_is)
    (case l__law_read_row => k_is)
    (case c__law_read_row => k_is)
    (case k__law_read_row => k_is)
    (case ag__law_read => k_is)
    (case l__law_read => k_is)
    (case c__law_read => k_is)
    (case k__law_read => k_is)
    (case ag__law_bent => k_is)
    (case l__law_bent => k_is)
    (case c__law_bent => k_is)
    (case k__law_bent => k_is)
    (case ag__law_sorts => k_is)
    (case l__law_sorts => k_is)
    (case c__law_sorts => k_is)
    (case k__law_sorts => k_is)
    (case ag__law_other_kind => k_is)
    (case l__law_other_kind => k_is)
    (case c__law_other_kind => k_is)
    (case k__law_other_kind => k_is)
    (case ag__law_over => k_is)
    (case l__law_over => k_is)
    (case c__law_over => k_is)
    (case k__law_over => k_is)
    (case ag__law_right => k_is)
    (case l__law_right => k_is)
    (case c__law_right => k_is)
    (case k__law_right => k_is)
    (case ag__law_all_right => k_is)
    (case l__law_all_right => k_is)
    (case c__law_all_right => k_is)
    (case k__law_all_right => k_is)
    (case ag_law => k_is)
    (case l_law => k_is)
    (case c_law => k_is)
    (case k_law => k_is)
    (case pg_Borders => k_is)
    (case hd_Borders => k_is)
    (case po_Borders => k_is)
    (case sa_Borders => k_is)
    (case mk_Borders => k_is)
    (case kc_Borders => k_is)
    (case ne_Borders => k_is)
    (case mro_Borders => k_is)
    (case bool_Borders => k_is)
    (case hcl_Borders => k_is)
    (case hsp_Borders => k_is)
    (case htk_Borders => k_is)
    (case kwNoneType_Borders => kernel_rfl)
    (case kwbool_Borders => kernel_rfl)
    (case kwint_Borders => kernel_rfl)
    (case kwstr_Borders => kernel_rfl)
    (case kwtuple_Borders => kernel_rfl)
    (case kwlist_Borders => kernel_rfl)
    (case kwdict_Borders => kernel_rfl)
    (case na_whole_Borders => k_is)
    (case na_all_states_Borders => k_is)
    (case na_corner_names_Borders => k_is)
    (case na_motif_Borders => k_is)
    (case na_piece_rows_Borders => k_is)
    (case na_corner_rows_Borders => k_is)
    (case nolen_Borders => k_is)
    (case l_Borders___init__ => k_is)
    (case c_Borders___init__ => k_is)
    (case k_Borders___init__ => k_is)
    (case i_Borders___init__ => k_is)
    (case l_Borders_text => k_is)
    (case c_Borders_text => k_is)
    (case k_Borders_text => k_is)
    (case g_Borders_text => k_is)
    (case tk_Borders_text => k_is)
    (case l_Borders_signs => k_is)
    (case c_Borders_signs => k_is)
    (case k_Borders_signs => k_is)
    (case g_Borders_signs => k_is)
    (case tk_Borders_signs => k_is)
    (case l_Borders_states => k_is)
    (case c_Borders_states => k_is)
    (case k_Borders_states => k_is)
    (case g_Borders_states => k_is)
    (case tk_Borders_states => k_is)
    (case l_Borders_pieces => k_is)
    (case c_Borders_pieces => k_is)
    (case k_Borders_pieces => k_is)
    (case g_Borders_pieces => k_is)
    (case tk_Borders_pieces => k_is)
    (case l_Borders_corners => k_is)
    (case c_Borders_corners => k_is)
    (case k_Borders_corners => k_is)
    (case g_Borders_corners => k_is)
    (case tk_Borders_corners => k_is)
    (case l_Borders_names => k_is)
    (case c_Borders_names => k_is)
    (case k_Borders_names => k_is)
    (case g_Borders_names => k_is)
    (case tk_Borders_names => k_is)
    (case l_Borders___eq__ => k_is)
    (case c_Borders___eq__ => k_is)
    (case k_Borders___eq__ => k_is)
    (case i_Borders___eq__ => k_is)
    (case l_Borders___str__ => k_is)
    (case c_Borders___str__ => k_is)
    (case k_Borders___str__ => k_is)
    (case i_Borders___str__ => k_is)
    (case oex_InvalidText => kernel_rfl)
    (case ecl_InvalidText => kernel_rfl)
    (case ehd_InvalidText => k_is)
    (case ega_InvalidText => k_is)
    (case egt_InvalidText => k_is)
    (case esu_InvalidText => k_is)
    (case ehc_InvalidText => k_is)
    (case esp_InvalidText => k_is)
    (case etk_InvalidText => k_is)
    (case emr_InvalidText => k_is)
    (case esa_InvalidText => k_is)
    (case ety_InvalidText => k_is)
    (case ekp_InvalidText => k_is)
    (case enogiven_InvalidText => k_is)
    (case enoindex_InvalidText => k_is)
    (case enoshown_InvalidText => k_is)
    (case enolimit_InvalidText => k_is)
    (case exm_InvalidText => kernel_rfl)
    (case kt_InvalidText_BadValue => kernel_rfl)
    (case kt_InvalidText_InvalidText => kernel_rfl)
    (case kt_InvalidText_InvalidLine => kernel_rfl)
    (case kt_InvalidText_InvalidState => kernel_rfl)
    (case kt_InvalidText_InvalidNumber => kernel_rfl)
    (case kt_InvalidText_InvalidName => kernel_rfl)
    (case kt_InvalidText_InvalidIndex => kernel_rfl)
    (case kt_InvalidText_InvalidWish => kernel_rfl)
    (case kt_InvalidText_InvalidClaim => kernel_rfl)
    (case kt_InvalidText_NotBorders => kernel_rfl)
    (case kt_InvalidText_NotARoom => kernel_rfl)
    (case kt_InvalidText_InvalidSizes => kernel_rfl)
    (case kt_InvalidText_InvalidFilling => kernel_rfl)
    (case kt_InvalidText_InvalidNames => kernel_rfl)
    (case kt_InvalidText_InvalidLines => kernel_rfl)
    (case kt_InvalidText_BadName => kernel_rfl)
    (case kt_InvalidText_UnknownName => kernel_rfl)
    (case kt_InvalidText_InUse => kernel_rfl)
    (case kt_InvalidText_NoAnswer => kernel_rfl)
    (case kt_InvalidText_OtherLetters => kernel_rfl)
    (case kt_InvalidText_TooMany => kernel_rfl)
    (case kt_InvalidText_NothingToUndo => kernel_rfl)
    (case kt_InvalidText_NotAsked => kernel_rfl)
    (case kt_InvalidText_Broken => kernel_rfl)
    (case kt_InvalidText_ValueError => kernel_rfl)
    (case kt_InvalidText_LookupError => kernel_rfl)
    (case kt_InvalidText_ArithmeticError => kernel_rfl)
    (case l_InvalidText_I => k_is)
    (case c_InvalidText_I => k_is)
    (case k_InvalidText_I => k_is)
    (case t_InvalidText_I => k_is)
    (case hcd => rfl)
    (case hTab => kernel_rfl)
    (case nT => first | k_is | kernel_rfl)
    (case hcc => first | k_is | kernel_rfl)
    case hbb => exact fun s v => .of_eq rfl
