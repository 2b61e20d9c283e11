import PyProof.Rows.All
import Wide.All
import OpenK.AllK
import Wide.FinOn
import HandS.ForMost
import HandS.Lambda
import HandS.TupAny
import HandS.Property
import HandS.RaiseMore
import HandS.IsInst
import HandS.MakeKw
import HandS.Deep
import HandS.OwnEq
import HandS.NamedTupSort
import HandS.Small
import KE.KFmtOwn
import KE.KCallOwn
import KE.KFromBytes
import PyProof.ReprRoads
import HandS.MakeKwOnly
import HandS.Style
import HandS.SetTxt0
import HandS.SetBool
import HandS.TupSets
import HandS.Strs
import HandS.TryOnly
import HandS.FStr
import HandS.Defaults
import HandS.Text
import PyProof.StrBlock2
import PyProof.Rows.StrMul
import HandS.Zip
import HandS.DictComp
import HandS.TupMul
import HandS.Iter
import HandS.WideBits
import PyProof.NoPylong
import KE.KEqDict
import HandS.Conv
import HandS.WordsExc
import HandS.ExcInit
import HandS.HotCalls
import HandS.ExcIs
import HandS.ExcField
import KE.KExcIs
import KE.KTryMore
import HandS.NestedK
import HandS.EndTab
import KE.KNestM
import HandS.ClsMeth
import KE.KxField
import PySem.Challenge.RW_cornerways_k08_oblongs
import KE.KStateDown
import HandS.Head0
import HandS.Head1
import HandS.Head2
set_option Elab.async false
set_option linter.all false
set_option maxRecDepth 100000
set_option maxHeartbeats 1000000
/-! # Values as plain data, mutable objects as numbered cells: readings over data alone -/
namespace Cw
open PySem PySem.Spec PyProof.Rows L2

/-- plain data; `cell k` is the k-th mutable object at hand -/
inductive D where
  | non | bl (b : Bool) | int (i : Int) | str (x : Str)
  | tup (ds : List D) | lst (ds : List D) | fl (ds : List D) | cell (k : Nat)
  | ins (C : Addr) (ns : List Str) (ds : List D)
  | dct (ks : List Key) (ds : List D)
  | dcT (ks : List (List Key)) (ds : List D)
  | exc (a dd C : Addr) (ns : List Str) (ds : List D)
  | raw (v : V)

/-- a mutable object's content -/
inductive Cell where
  | lst (ds : List D)
  | obj (C : Addr) (ns : List Str) (ds : List D)
  | dct (ks : List Key) (ds : List D)
  | dcT (ks : List (List Key)) (ds : List D)

/-- where the cells stand; what the callers hide -/
structure Ad where
  ix : List Addr
  hd : List Addr
/-- the heap without the mutable objects -/
def hid (m : Ad) (H : Hp) : Hp := fun b => if b ∈ m.ix ∨ b ∈ m.hd then none else H b
theorem hid_some {m : Ad} {H : Hp} {b : Addr} {o : HO} (h : hid m H b = some o) : (b ∉ m.ix ∧ b ∉ m.hd) ∧ H b = some o := by
  unfold hid at h
  by_cases hb : b ∈ m.ix ∨ b ∈ m.hd
  · rw [if_pos hb] at h; cases h
  · rw [if_neg hb] at h; exact ⟨⟨fun z => hb (.inl z), fun z => hb (.inr z)⟩, h⟩
theorem hid_of {m : Ad} {H : Hp} {b : Addr} (h : b ∉ m.ix ∧ b ∉ m.hd) : hid m H b = H b := by
  unfold hid; rw [if_neg (fun z => z.elim h.1 h.2)]

def Ex (H H' : Hp) : Prop := ∀ a o, H a = some o → H' a = some o
theorem Ex.refl (H : Hp) : Ex H H := fun _ _ h => h
theorem Ex.trans {H H1 H2 : Hp} (a : Ex H H1) (b : Ex H1 H2) : Ex H H2 := fun x o h => b x o (a x o h)
theorem Ex.new {H : Hp} {p : Addr} {o : HO} (h : H p = none) : Ex H (upd H p o) := fun a u e => by
  rw [upd_ne (ne_of_none e h)]; exact e
theorem ex_rd {H H' : Hp} {a : Addr} {u : HO} (e : Ex H H') (h : Rd H a u) : Rd H' a u := by
  rcases h with h | ⟨o, h⟩
  · exact .inl (e a _ h)
  · exact .inr ⟨o, e a _ h⟩
theorem ex_l {K : PySem.W.Frag} {H H' : Hp} {a : Addr} {xs : List V} (e : Ex H H') (h : SqL K H a xs) : SqL K H' a xs := by
  rcases h with h | h
  · exact .inl (ex_rd e h)
  · exact .inr h
theorem ex_t {K : PySem.W.Frag} {H H' : Hp} {a : Addr} {xs : List V} (e : Ex H H') (h : SqT K H a xs) : SqT K H' a xs := by
  rcases h with h | h
  · exact .inl (ex_rd e h)
  · exact .inr h
theorem ex_hid (m : Ad) (H : Hp) : Ex (hid m H) H := fun _ _ h => (hid_some h).2

/-! ### which value is which data -/
section
variable (K : PySem.W.Frag) (m : List Addr) (H : Hp)
mutual
def R : D → V → Prop
  | .non, v => v = .non
  | .bl b, v => v = .bl b
  | .int i, v => v = .int i
  | .str x, v => v = .str x
  | .tup ds, v => ∃ a xs, v = .ref a ∧ SqT K H a xs ∧ RL ds xs
  | .lst ds, v => ∃ a xs, v = .ref a ∧ H a = some (.lst xs) ∧ RL ds xs
  | .fl ds, v => ∃ a xs, v = .ref a ∧ SqL K H a xs ∧ RL ds xs
  | .cell k, v => ∃ a, m[k]? = some a ∧ v = .ref a
  | .ins C ns ds, v => ∃ a dx fs, v = .ref a ∧ H a = some (.ins C dx fs) ∧ fs.map (·.1) = ns ∧ RL ds (fs.map (·.2))
  | .dct ks ds, v => ∃ a kvs, v = .ref a ∧ Rd H a (.dK kvs) ∧ kvs.map (·.1) = ks ∧ RL ds (kvs.map (·.2))
  | .dcT ks ds, v => ∃ a kvs, v = .ref a ∧ H a = some (.dT kvs) ∧ kvs.map (·.1) = ks ∧ RL ds (kvs.map (·.2))
  | .exc a dd _ ns ds, v => ∃ fs, v = .ref a ∧ H dd = some (.xd fs) ∧ fs.map (·.1) = ns ∧ RL ds (fs.map (·.2))
  | .raw w, v => v = w
def RL : List D → List V → Prop
  | [], xs => xs = []
  | d :: ds, xs => ∃ x r, xs = x :: r ∧ R d x ∧ RL ds r
end
end
section
variable {K : PySem.W.Frag} {m m' : List Addr} {H H' : Hp}
mutual
theorem R.mono (e : Ex H H') (p : ∀ (k : Nat) a, m[k]? = some a → m'[k]? = some a) : ∀ (d : D) (v : V), R K m H d v → R K m' H' d v
  | .non, _, h => h
  | .bl _, _, h => h
  | .int _, _, h => h
  | .str _, _, h => h
  | .tup ds, _, ⟨a, xs, e1, h1, h2⟩ => ⟨a, xs, e1, ex_t e h1, RL.mono e p ds xs h2⟩
  | .lst ds, _, ⟨a, xs, e1, h1, h2⟩ => ⟨a, xs, e1, e a _ h1, RL.mono e p ds xs h2⟩
  | .fl ds, _, ⟨a, xs, e1, h1, h2⟩ => ⟨a, xs, e1, ex_l e h1, RL.mono e p ds xs h2⟩
  | .cell k, _, ⟨a, h1, h2⟩ => ⟨a, p k a h1, h2⟩
  | .ins _ _ ds, _, ⟨a, dx, fs, e1, h1, h2, h3⟩ => ⟨a, dx, fs, e1, e a _ h1, h2, RL.mono e p ds _ h3⟩
  | .dct _ ds, _, ⟨a, kvs, e1, h1, h2, h3⟩ => ⟨a, kvs, e1, ex_rd e h1, h2, RL.mono e p ds _ h3⟩
  | .dcT _ ds, _, ⟨a, kvs, e1, h1, h2, h3⟩ => ⟨a, kvs, e1, e a _ h1, h2, RL.mono e p ds _ h3⟩
  | .exc _ dd _ _ ds, _, ⟨fs, e1, h1, h5, h6⟩ => ⟨fs, e1, e dd _ h1, h5, RL.mono e p ds _ h6⟩
  | .raw _, _, h => h
theorem RL.mono (e : Ex H H') (p : ∀ (k : Nat) a, m[k]? = some a → m'[k]? = some a) : ∀ (ds : List D) (xs : List V), RL K m H ds xs → RL K m' H' ds xs
  | [], _, h => h
  | d :: ds, _, ⟨x, r, e1, h1, h2⟩ => ⟨x, r, e1, R.mono e p d x h1, RL.mono e p ds r h2⟩
end
theorem RL.length : ∀ {ds : List D} {xs : List V}, RL K m H ds xs → ds.length = xs.length
  | [], _, h => by cases (show _ = [] from h); rfl
  | d :: ds, _, ⟨x, r, e1, h1, h2⟩ => by subst e1; simp [RL.length h2]
theorem RL.get : ∀ {ds : List D} {xs : List V} {i : Nat} {d : D}, RL K m H ds xs → ds[i]? = some d → ∃ x, xs[i]? = some x ∧ R K m H d x
  | [], _, _, _, _, e => by simp at e
  | d :: ds, _, 0, _, ⟨x, r, e1, h1, h2⟩, e => by subst e1; simp at e; subst e; exact ⟨x, rfl, h1⟩
  | d :: ds, _, i + 1, _, ⟨x, r, e1, h1, h2⟩, e => by
    subst e1
    obtain ⟨y, h3, h4⟩ := RL.get (i := i) h2 (by simpa using e)
    exact ⟨y, by simpa using h3, h4⟩
theorem RL.append : ∀ {ds es : List D} {xs ys : List V}, RL K m H ds xs → RL K m H es ys → RL K m H (ds ++ es) (xs ++ ys)
  | [], _, _, _, h, h' => by cases (show _ = [] from h); exact h'
  | d :: ds, _, _, _, ⟨x, r, e1, h1, h2⟩, h' => by subst e1; exact ⟨x, r ++ _, rfl, h1, RL.append h2 h'⟩
theorem RL.take : ∀ {ds : List D} {xs : List V} (n : Nat), RL K m H ds xs → RL K m H (ds.take n) (xs.take n)
  | [], _, n, h => by cases (show _ = [] from h); simp; exact rfl
  | d :: ds, _, 0, ⟨x, r, e1, h1, h2⟩ => by subst e1; exact rfl
  | d :: ds, _, n + 1, ⟨x, r, e1, h1, h2⟩ => by subst e1; exact ⟨x, r.take n, rfl, h1, RL.take n h2⟩
theorem RL.drop : ∀ {ds : List D} {xs : List V} (n : Nat), RL K m H ds xs → RL K m H (ds.drop n) (xs.drop n)
  | [], _, n, h => by cases (show _ = [] from h); simp; exact rfl
  | d :: ds, _, 0, h => h
  | d :: ds, _, n + 1, ⟨x, r, e1, h1, h2⟩ => by subst e1; exact RL.drop n h2
theorem RL.set {d : D} {x : V} (hx : R K m H d x) : ∀ {ds : List D} {xs : List V} (n : Nat), RL K m H ds xs → RL K m H (ds.set n d) (xs.set n x)
  | [], _, n, h => by cases (show _ = [] from h); exact rfl
  | d :: ds, _, 0, ⟨y, r, e1, h1, h2⟩ => by subst e1; exact ⟨x, r, rfl, hx, h2⟩
  | d :: ds, _, n + 1, ⟨y, r, e1, h1, h2⟩ => by subst e1; exact ⟨y, r.set n x, rfl, h1, RL.set hx n h2⟩
end

/-! ### the mutable objects and the slots -/
abbrev RR (K : PySem.W.Frag) (H : Hp) (m : Ad) (d : D) (v : V) : Prop := R K m.ix (hid m H) d v
abbrev RRL (K : PySem.W.Frag) (H : Hp) (m : Ad) (ds : List D) (vs : List V) : Prop := RL K m.ix (hid m H) ds vs
def CellAt (K : PySem.W.Frag) (m : Ad) (H : Hp) (a : Addr) : Cell → Prop
  | .lst ds => ∃ xs, H a = some (.lst xs) ∧ RRL K H m ds xs
  | .obj C ns ds => ∃ dx fs, H a = some (.ins C dx fs) ∧ fs.map (·.1) = ns ∧ RRL K H m ds (fs.map (·.2))
  | .dct ks ds => ∃ kvs, H a = some (.dK kvs) ∧ kvs.map (·.1) = ks ∧ RRL K H m ds (kvs.map (·.2))
  | .dcT ks ds => ∃ kvs, H a = some (.dT kvs) ∧ kvs.map (·.1) = ks ∧ RRL K H m ds (kvs.map (·.2))
/-- no tuple -/
def Mu (o : HO) : Prop := ∀ xs, o ≠ .tup xs
/-! ### tables of code objects -/
/-- the defs that make lambdas -/
def lamFns : List Str := ["_law_right"]
/-- what all lambdas are called -/
def lamQ : Str := "_law_right" ++ ".<locals>." ++ "<lambda>"
abbrev LQ := { q : Str // q = lamQ }
def tabOfCode (o : Obj) : Option (Addr × LQ) := match o.data with
  | .fields vs => match (vs[1]? : Option Value), (vs[11]? : Option Value) with
    | some (.str n _), some (.ref P) => if lamFns.contains n then some (P, ⟨lamQ, rfl⟩) else none
    | _, _ => none
  | _ => none
def tabsK (K : PySem.W.Frag) : List (Addr × LQ) := K.filterMap fun p => tabOfCode p.2
/-- the table at P: each code object that it tells bears the name q -/
def TabK (m : Ad) (H : Hp) (P : Addr) (q : Str) : Prop := ∃ ps : Array Value, H P = some (.tbl ps) ∧ TriplesOk ps.toList ∧ ∀ (pos : Pos) (cv : Value), codeAmong pos ps.toList = some cv → ∃ c, cv = .ref c ∧ hid m H c = some (LamX.CodeO c q)
theorem TabK.keep {m m' : Ad} {H H' : Hp} {P : Addr} {q : Str} (t : TabK m H P q) (e : H' P = H P) (x : Ex (hid m H) (hid m' H')) : TabK m' H' P q := by
  obtain ⟨ps, h1, h2, h3⟩ := t
  exact ⟨ps, e.trans h1, h2, fun pos cv hc => let ⟨c, e1, e2⟩ := h3 pos cv hc; ⟨c, e1, x c _ e2⟩⟩
theorem TabK.keep2 {m m' : Ad} {H H' : Hp} {P : Addr} {q : Str} (t : TabK m H P q) (e : ∀ o, H P = some o → H' P = some o) (x : Ex (hid m H) (hid m' H')) : TabK m' H' P q := by
  obtain ⟨ps, h1, h2, h3⟩ := t
  exact ⟨ps, e _ h1, h2, fun pos cv hc => let ⟨c, e1, e2⟩ := h3 pos cv hc; ⟨c, e1, x c _ e2⟩⟩
/-- a table has grown -/
def TabG (m : Ad) (H : Hp) (m' : Ad) (H' : Hp) (b : Addr) : Prop := (∃ ps ps', H b = some (.tbl ps) ∧ H' b = some (.tbl ps')) ∧ ∀ q : LQ, TabK m H b q.1 → TabK m' H' b q.1
structure CR (K : PySem.W.Frag) (H : Hp) (m : Ad) (c : List Cell) : Prop where
  len : m.ix.length = c.length
  nd : m.ix.Nodup
  at_ : ∀ (k : Nat) ce, c[k]? = some ce → ∃ a, m.ix[k]? = some a ∧ CellAt K m H a ce
  hs : ∀ b ∈ m.hd, ∃ o, H b = some o ∧ Mu o
  dj : ∀ a ∈ m.ix, a ∉ m.hd
  tk : ∀ p ∈ tabsK K, p.1 ∈ m.hd ∧ TabK m H p.1 p.2.1
/-- the slots: none says nothing -/
abbrev Env := List (Option D)
structure SR (K : PySem.W.Frag) (σ : L2.St) (H : Hp) (m : Ad) (ρ : Env) (c : List Cell) : Prop where
  cr : CR K H m c
  len : ρ.length = σ.length
  sl : ∀ (i : Nat) d, ρ[i]? = some (some d) → ∃ v, σ[i]? = some (some v) ∧ RR K H m d v
/-- what is kept -/
structure Le (m : Ad) (H : Hp) (m' : Ad) (H' : Hp) : Prop where
  pre : ∀ (k : Nat) a, m.ix[k]? = some a → m'.ix[k]? = some a
  ex : Ex (hid m H) (hid m' H')
  hd : m'.hd = m.hd
  hk : ∀ b ∈ m.hd, H' b = H b ∨ TabG m H m' H' b
  fr : ∀ a ∈ m'.ix, a ∈ m.ix ∨ H a = none
  al : ∀ a, H' a = none → H a = none
theorem upd_none {H : Hp} {p a : Addr} {o : HO} (h : upd H p o a = none) : H a = none := by
  by_cases e : a = p
  · subst e; rw [upd_same] at h; cases h
  · rw [upd_ne e] at h; exact h
section
variable {K : PySem.W.Frag} {m m' m2 : Ad} {H H' H2 : Hp} {σ : L2.St} {ρ : Env} {c c' : List Cell}
theorem Le.refl (m : Ad) (H : Hp) : Le m H m H := ⟨fun _ _ h => h, Ex.refl _, rfl, fun _ _ => .inl rfl, fun _ h => .inl h, fun _ h => h⟩
theorem hk_trans {x : Addr} (ea : Ex (hid m H) (hid m' H')) (eb : Ex (hid m' H') (hid m2 H2)) (a : H' x = H x ∨ TabG m H m' H' x) (b : H2 x = H' x ∨ TabG m' H' m2 H2 x) : H2 x = H x ∨ TabG m H m2 H2 x := by
  rcases a with a | ⟨⟨ps, ps', a1, a2⟩, a3⟩
  · rcases b with b | ⟨⟨ps, ps', b1, b2⟩, b3⟩
    · exact .inl (b.trans a)
    · exact .inr ⟨⟨ps, ps', a.symm.trans b1, b2⟩, fun q z => b3 q (z.keep a ea)⟩
  · rcases b with b | ⟨⟨qs, qs', b1, b2⟩, b3⟩
    · exact .inr ⟨⟨ps, ps', a1, b.trans a2⟩, fun q z => (a3 q z).keep b eb⟩
    · exact .inr ⟨⟨ps, qs', a1, b2⟩, fun q z => b3 q (a3 q z)⟩
theorem Le.trans (a : Le m H m' H') (b : Le m' H' m2 H2) : Le m H m2 H2 := ⟨fun k x h => b.pre k x (a.pre k x h), a.ex.trans b.ex, b.hd.trans a.hd, fun x hx => hk_trans a.ex b.ex (a.hk x hx) (b.hk x (by rw [a.hd]; exact hx)), fun x hx => (b.fr x hx).elim (a.fr x) fun z => .inr (a.al x z), fun x h => a.al x (b.al x h)⟩
theorem Le.tab {b : Addr} {q : LQ} (l : Le m H m' H') (hb : b ∈ m.hd) (t : TabK m H b q.1) : TabK m' H' b q.1 := (l.hk b hb).elim (fun e => t.keep e l.ex) fun z => z.2 q t
theorem Le.hs {b : Addr} (l : Le m H m' H') (hb : b ∈ m.hd) (h : ∃ o, H b = some o ∧ Mu o) : ∃ o, H' b = some o ∧ Mu o := by
  obtain ⟨o, e, u⟩ := h
  rcases l.hk b hb with z | ⟨⟨ps, ps', _, z⟩, _⟩
  · exact ⟨o, z.trans e, u⟩
  · exact ⟨_, z, fun _ y => nomatch y⟩
theorem Le.kc {b : Addr} {o : HO} (l : Le m H m' H') (hb : b ∈ m.hd) (h : H b = some o) (n : ∀ ps, o ≠ .tbl ps) : H' b = some o := by
  rcases l.hk b hb with z | ⟨⟨ps, ps', y, _⟩, _⟩
  · exact z.trans h
  · rw [h] at y; exact absurd (Option.some.inj y) (n ps)
theorem Le.hk' {m3 : Ad} (l : Le m H m' H') (x : Ex (hid m' H') (hid m3 H')) : ∀ b ∈ m.hd, H' b = H b ∨ TabG m H m3 H' b := fun b hb => (l.hk b hb).imp id fun z => ⟨z.1, fun q t => (z.2 q t).keep rfl x⟩
theorem CR.tk' (C : CR K H m c) (l : Le m H m' H') : ∀ p ∈ tabsK K, p.1 ∈ m'.hd ∧ TabK m' H' p.1 p.2.1 := fun p hp => ⟨by rw [l.hd]; exact (C.tk p hp).1, l.tab (C.tk p hp).1 (C.tk p hp).2⟩
theorem Le.r {d : D} {v : V} (a : Le m H m' H') (h : RR K H m d v) : RR K H' m' d v := R.mono a.ex a.pre d v h
theorem Le.rl {ds : List D} {vs : List V} (a : Le m H m' H') (h : RRL K H m ds vs) : RRL K H' m' ds vs := RL.mono a.ex a.pre ds vs h
theorem SR.step (s : SR K σ H m ρ c) (a : Le m H m' H') (h : CR K H' m' c') : SR K σ H' m' ρ c' :=
  ⟨h, s.len, fun i d e => let ⟨v, h1, h2⟩ := s.sl i d e; ⟨v, h1, a.r h2⟩⟩
theorem CR.some_at {k : Nat} {a : Addr} (C : CR K H m c) (h : m.ix[k]? = some a) : ∃ ce, c[k]? = some ce ∧ CellAt K m H a ce := by
  have hk : k < c.length := by rw [← C.len]; exact (List.getElem?_eq_some_iff.mp h).1
  obtain ⟨b, h1, h2⟩ := C.at_ k c[k] (List.getElem?_eq_getElem hk)
  rw [h] at h1; cases h1
  exact ⟨_, List.getElem?_eq_getElem hk, h2⟩
theorem CellAt.obj {a : Addr} {ce : Cell} (h : CellAt K m H a ce) : ∃ o, H a = some o := by
  cases ce with
  | lst ds => obtain ⟨xs, h, _⟩ := h; exact ⟨_, h⟩
  | obj C ns ds => obtain ⟨dx, fs, h, _⟩ := h; exact ⟨_, h⟩
  | dct ks ds => obtain ⟨kvs, h, _⟩ := h; exact ⟨_, h⟩
  | dcT ks ds => obtain ⟨kvs, h, _⟩ := h; exact ⟨_, h⟩
theorem CellAt.nt {a : Addr} {ce : Cell} (h : CellAt K m H a ce) : ∃ o, H a = some o ∧ ∀ ps, o ≠ .tbl ps := by
  cases ce with
  | lst ds => obtain ⟨xs, h, _⟩ := h; exact ⟨_, h, fun _ z => nomatch z⟩
  | obj C ns ds => obtain ⟨dx, fs, h, _⟩ := h; exact ⟨_, h, fun _ z => nomatch z⟩
  | dct ks ds => obtain ⟨kvs, h, _⟩ := h; exact ⟨_, h, fun _ z => nomatch z⟩
  | dcT ks ds => obtain ⟨kvs, h, _⟩ := h; exact ⟨_, h, fun _ z => nomatch z⟩
/-- a cell that a callee hid -/
theorem Le.kcell {b : Addr} {ce : Cell} {m0 m1 : Ad} (l : Le m0 H m1 H') (hb : b ∈ m0.hd) (h : CellAt K m H b ce) {o : HO} (e : H b = some o) : H' b = some o := by
  obtain ⟨u, e1, n⟩ := h.nt
  rw [e] at e1; cases e1
  exact l.kc hb e n
theorem CellAt.mu {a : Addr} {ce : Cell} (h : CellAt K m H a ce) : ∃ o, H a = some o ∧ Mu o := by
  cases ce with
  | lst ds => obtain ⟨xs, h, _⟩ := h; exact ⟨_, h, fun _ z => nomatch z⟩
  | obj C ns ds => obtain ⟨dx, fs, h, _⟩ := h; exact ⟨_, h, fun _ z => nomatch z⟩
  | dct ks ds => obtain ⟨kvs, h, _⟩ := h; exact ⟨_, h, fun _ z => nomatch z⟩
  | dcT ks ds => obtain ⟨kvs, h, _⟩ := h; exact ⟨_, h, fun _ z => nomatch z⟩
/-- a new object, not mutable -/
theorem hid_new {p : Addr} (h : H p = none) (c1 : CR K H m c) : p ∉ m.ix ∧ p ∉ m.hd := by
  refine ⟨fun hp => ?_, fun hp => ?_⟩
  · obtain ⟨k, e⟩ := List.mem_iff_getElem?.mp hp
    obtain ⟨ce, _, h2⟩ := c1.some_at e
    obtain ⟨o, h3⟩ := h2.obj
    rw [h] at h3; cases h3
  · obtain ⟨o, h3, _⟩ := c1.hs p hp
    rw [h] at h3; cases h3
theorem hid_upd {p : Addr} {o : HO} (hp : p ∉ m.ix ∧ p ∉ m.hd) : hid m (upd H p o) = upd (hid m H) p o := by
  funext b
  unfold hid upd
  by_cases hb : b = p
  · subst hb; simp [hp.1, hp.2]
  · simp [hb]
theorem hid_mut {p : Addr} {o : HO} (hp : p ∈ m.ix) : hid m (upd H p o) = hid m H := by
  funext b
  unfold hid upd
  by_cases hb : b = p
  · subst hb; simp [hp]
  · simp [hb]
theorem CellAt.step {a : Addr} {ce : Cell} (l : Le m H m' H') (k : ∀ o, H a = some o → H' a = some o) (h : CellAt K m H a ce) : CellAt K m' H' a ce := by
  cases ce with
  | lst ds => obtain ⟨xs, h1, h2⟩ := h; exact ⟨xs, k _ h1, l.rl h2⟩
  | obj C ns ds => obtain ⟨dx, fs, h1, h2, h3⟩ := h; exact ⟨dx, fs, k _ h1, h2, l.rl h3⟩
  | dct ks ds => obtain ⟨kvs, h1, h2, h3⟩ := h; exact ⟨kvs, k _ h1, h2, l.rl h3⟩
  | dcT ks ds => obtain ⟨kvs, h1, h2, h3⟩ := h; exact ⟨kvs, k _ h1, h2, l.rl h3⟩
theorem Le.new {p : Addr} {o : HO} (h : H p = none) (c1 : CR K H m c) : Le m H m (upd H p o) := by
  have hp := hid_new h c1
  refine ⟨fun _ _ e => e, ?_, rfl, fun b hb => .inl (upd_ne fun e => hp.2 (by rw [← e]; exact hb)), fun _ h => .inl h, fun _ h => upd_none h⟩
  rw [hid_upd hp]
  exact Ex.new (by rw [hid_of hp]; exact h)
theorem CR.new {p : Addr} {o : HO} (h : H p = none) (c1 : CR K H m c) : CR K (upd H p o) m c :=
  ⟨c1.len, c1.nd, fun k ce e => let ⟨a, h1, h2⟩ := c1.at_ k ce e; ⟨a, h1, h2.step (Le.new h c1) fun o' e' => by rw [upd_ne (ne_of_none e' h)]; exact e'⟩,
    fun b hb => let ⟨o', h3, h4⟩ := c1.hs b hb; ⟨o', by rw [upd_ne (ne_of_none h3 h)]; exact h3, h4⟩, c1.dj, c1.tk' (Le.new h c1)⟩
theorem new_at {p : Addr} {o : HO} (h : H p = none) (c1 : CR K H m c) : hid m (upd H p o) p = some o := by
  rw [hid_of (hid_new h c1), upd_same]
end

/-! ### readings over data -/
/-- an expression: which data and which cells come out -/
abbrev TD := Env → List Cell → (D → List Cell → Prop) → Prop
abbrev TDs := Env → List Cell → (List D → List Cell → Prop) → Prop
abbrev TDt := Env → List Cell → (Bool → List Cell → Prop) → Prop
def lift (K : PySem.W.Frag) (t : TD) : TE := fun σ H Q => ∃ (m : Ad) (ρ : Env) (c : List Cell) (Φ : D → List Cell → Prop), SR K σ H m ρ c ∧ t ρ c Φ ∧
  ∀ d c' v H' m', Φ d c' → CR K H' m' c' → RR K H' m' d v → Le m H m' H' → Q v H'
def liftA (K : PySem.W.Frag) (t : TDs) : TA := fun σ H Q => ∃ (m : Ad) (ρ : Env) (c : List Cell) (Φ : List D → List Cell → Prop), SR K σ H m ρ c ∧ t ρ c Φ ∧
  ∀ ds c' vs H' m', Φ ds c' → CR K H' m' c' → RRL K H' m' ds vs → Le m H m' H' → Q vs H'
def liftT (K : PySem.W.Frag) (t : TDt) : TT := fun σ H Q => ∃ (m : Ad) (ρ : Env) (c : List Cell) (Φ : Bool → List Cell → Prop), SR K σ H m ρ c ∧ t ρ c Φ ∧
  ∀ b c' H' m', Φ b c' → CR K H' m' c' → Le m H m' H' → Q b H'
abbrev PD (X : Cx) (e : Expr) (t : TD) : Prop := PE X e (lift X.K t)
abbrev PDs (X : Cx) (es : List Expr) (t : TDs) : Prop := PA X es (liftA X.K t)
abbrev PDt (X : Cx) (e : Expr) (t : TDt) : Prop := PT X e (liftT X.K t)
theorem PE.imp {X : Cx} {e : Expr} {t t' : TE} (h : PE X e t) (i : ∀ σ H Q, t' σ H Q → t σ H Q) : PE X e t' := ⟨fun pins s σ H Q I w => h.run pins s σ H Q I (i σ H Q w)⟩
theorem PT.imp {X : Cx} {e : Expr} {t t' : TT} (h : PT X e t) (i : ∀ σ H Q, t' σ H Q → t σ H Q) : PT X e t' := ⟨fun pins s σ H Q I w => h.run pins s σ H Q I (i σ H Q w)⟩
theorem PW.imp {X : Cx} {e : Expr} {t t' : TT} (h : PW X e t) (i : ∀ σ H Q, t' σ H Q → t σ H Q) : PW X e t' := ⟨fun wh pins s σ H Q I w => h.run wh pins s σ H Q I (i σ H Q w)⟩
theorem PA.imp {X : Cx} {es : List Expr} {t t' : TA} (h : PA X es t) (i : ∀ σ H Q, t' σ H Q → t σ H Q) : PA X es t' := ⟨fun pos pins s σ H Q I w => h.run pos pins s σ H Q I (i σ H Q w)⟩
theorem PS.imp {X : Cx} {st : Stmt} {t t' : TS} (h : PS X st t) (i : ∀ D σ H, t' D σ H → t D σ H) : PS X st t' := ⟨fun pins s σ H D I w => h.run pins s σ H D I (i D σ H w)⟩
theorem PSs.imp {X : Cx} {st : List Stmt} {t t' : TS} (h : PSs X st t) (i : ∀ D σ H, t' D σ H → t D σ H) : PSs X st t' := ⟨fun pins s σ H D I w => h.run pins s σ H D I (i D σ H w)⟩
end Cw

namespace Cw
open PySem PySem.Spec PyProof.Rows L2

/-! ### a mutable object as what it holds now -/
def vw (c : List Cell) : D → D
  | .cell k => match c[k]? with
    | some (.lst ds) => .lst ds
    | some (.obj C ns ds) => .ins C ns ds
    | some (.dct ks ds) => .dct ks ds
    | some (.dcT ks ds) => .dcT ks ds
    | none => .cell k
  | d => d
def W (K : PySem.W.Frag) (H : Hp) (m : Ad) : D → V → Prop
  | .lst ds, v => ∃ a xs, v = .ref a ∧ H a = some (.lst xs) ∧ RRL K H m ds xs
  | .ins C ns ds, v => ∃ a dx fs, v = .ref a ∧ H a = some (.ins C dx fs) ∧ fs.map (·.1) = ns ∧ RRL K H m ds (fs.map (·.2))
  | .dct ks ds, v => ∃ a kvs, v = .ref a ∧ Rd H a (.dK kvs) ∧ kvs.map (·.1) = ks ∧ RRL K H m ds (kvs.map (·.2))
  | .dcT ks ds, v => ∃ a kvs, v = .ref a ∧ H a = some (.dT kvs) ∧ kvs.map (·.1) = ks ∧ RRL K H m ds (kvs.map (·.2))
  | d, v => RR K H m d v
section
variable {K : PySem.W.Frag} {m : Ad} {H : Hp} {c : List Cell}
theorem W.of : ∀ {d : D} {v : V}, RR K H m d v → W K H m d v
  | .non, _, h => h
  | .bl _, _, h => h
  | .int _, _, h => h
  | .str _, _, h => h
  | .tup _, _, h => h
  | .lst _, _, ⟨a, xs, e1, h1, h2⟩ => ⟨a, xs, e1, ex_hid m H a _ h1, h2⟩
  | .fl _, _, h => h
  | .cell _, _, h => h
  | .ins _ _ _, _, ⟨a, dx, fs, e1, h1, h2, h3⟩ => ⟨a, dx, fs, e1, ex_hid m H a _ h1, h2, h3⟩
  | .dct _ _, _, ⟨a, kvs, e1, h1, h2, h3⟩ => ⟨a, kvs, e1, ex_rd (ex_hid m H) h1, h2, h3⟩
  | .dcT _ _, _, ⟨a, kvs, e1, h1, h2, h3⟩ => ⟨a, kvs, e1, ex_hid m H a _ h1, h2, h3⟩
  | .exc _ _ _ _ _, _, h => h
  | .raw _, _, h => h
theorem W.vw (C : CR K H m c) {d : D} {v : V} (h : RR K H m d v) : W K H m (vw c d) v := by
  cases d with
  | cell k =>
    obtain ⟨a, h1, h2⟩ := h
    cases e : c[k]? with
    | none =>
      have z : Cw.vw c (.cell k) = .cell k := by simp [Cw.vw, e]
      rw [z]; exact ⟨a, h1, h2⟩
    | some ce =>
      obtain ⟨b, h3, h4⟩ := C.at_ k ce e
      rw [h1] at h3; cases h3
      cases ce with
      | lst ds =>
        have z : Cw.vw c (.cell k) = .lst ds := by simp [Cw.vw, e]
        rw [z]
        obtain ⟨xs, h5, h6⟩ := h4; exact ⟨a, xs, h2, h5, h6⟩
      | obj C ns ds =>
        have z : Cw.vw c (.cell k) = .ins C ns ds := by simp [Cw.vw, e]
        rw [z]
        obtain ⟨dx, fs, h5, h6, h7⟩ := h4; exact ⟨a, dx, fs, h2, h5, h6, h7⟩
      | dct ks ds =>
        have z : Cw.vw c (.cell k) = .dct ks ds := by simp [Cw.vw, e]
        rw [z]
        obtain ⟨kvs, h5, h6, h7⟩ := h4; exact ⟨a, kvs, h2, .inl h5, h6, h7⟩
      | dcT ks ds =>
        have z : Cw.vw c (.cell k) = .dcT ks ds := by simp [Cw.vw, e]
        rw [z]
        obtain ⟨kvs, h5, h6, h7⟩ := h4; exact ⟨a, kvs, h2, h5, h6, h7⟩
  | _ => exact W.of h
end

/-! ### operators -/
abbrev F2 := D → D → List Cell → (D → List Cell → Prop) → Prop
abbrev F1 := D → List Cell → (D → List Cell → Prop) → Prop
abbrev Fs := List D → List Cell → (D → List Cell → Prop) → Prop
abbrev KQ (K : PySem.W.Frag) (H : Hp) (m : Ad) (Φ : D → List Cell → Prop) (Q : VK) : Prop :=
  ∀ d c' w H' m', Φ d c' → CR K H' m' c' → RR K H' m' d w → Le m H m' H' → Q w H'
/-- r does on values what f does on data -/
def L2f (K : PySem.W.Frag) (f : F2) (r : R2) : Prop := ∀ x y c Φ, f x y c Φ → ∀ H m u v, CR K H m c → W K H m x u → W K H m y v → ∀ Q, KQ K H m Φ Q → r u v H Q
def L1f (K : PySem.W.Frag) (f : F1) (r : V → Hp → VK → Prop) : Prop := ∀ x c Φ, f x c Φ → ∀ H m u, CR K H m c → W K H m x u → ∀ Q, KQ K H m Φ Q → r u H Q
def Lsf (K : PySem.W.Frag) (f : Fs) (r : List V → Hp → VK → Prop) : Prop := ∀ xs c Φ, f xs c Φ → ∀ H m us, CR K H m c → Paired (W K H m) xs us → ∀ Q, KQ K H m Φ Q → r us H Q
def dBin (f : F2) (ta tb : TD) : TD := fun ρ c Φ => ta ρ c fun x c1 => tb ρ c1 fun y c2 => f (vw c2 x) (vw c2 y) c2 Φ
def dUn (f : F1) (ta : TD) : TD := fun ρ c Φ => ta ρ c fun x c1 => f (vw c1 x) c1 Φ
def dCB (f : Fs) (ta : TDs) : TD := fun ρ c Φ => ta ρ c fun xs c1 => f (xs.map (vw c1)) c1 Φ
section
variable {K : PySem.W.Frag} {f : F2} {f1 : F1} {fs : Fs} {r : R2} {ta tb : TD} {tas : TDs} {σ : L2.St} {H : Hp} {Q : VK}
theorem lift_bin (l : L2f K f r) (h : lift K (dBin f ta tb) σ H Q) : tOp r (lift K ta) (lift K tb) σ H Q := by
  obtain ⟨m, ρ, c, Φ, S, h, q⟩ := h
  exact ⟨m, ρ, c, _, S, h, fun x c1 u H1 m1 hx C1 R1 L1 => ⟨m1, ρ, c1, _, S.step L1 C1, hx, fun y c2 v H2 m2 hy C2 R2 L2 =>
    l _ _ c2 Φ hy H2 m2 u v C2 (W.vw C2 (L2.r R1)) (W.vw C2 R2) Q fun d c' w H' m' hd C' R' L' => q d c' w H' m' hd C' R' (L1.trans (L2.trans L'))⟩⟩
theorem lift_un {r : V → Hp → VK → Prop} (l : L1f K f1 r) (h : lift K (dUn f1 ta) σ H Q) : tUn r (lift K ta) σ H Q := by
  obtain ⟨m, ρ, c, Φ, S, h, q⟩ := h
  exact ⟨m, ρ, c, _, S, h, fun x c1 u H1 m1 hx C1 R1 L1 => l _ c1 Φ hx H1 m1 u C1 (W.vw C1 R1) Q fun d c' w H' m' hd C' R' L' => q d c' w H' m' hd C' R' (L1.trans L')⟩
theorem paired_vw {m : Ad} {c : List Cell} (C : CR K H m c) : ∀ {ds : List D} {vs : List V}, RRL K H m ds vs → Paired (W K H m) (ds.map (vw c)) vs
  | [], _, h => by cases (show _ = [] from h); exact .nil
  | d :: ds, _, ⟨x, r, e1, h1, h2⟩ => by subst e1; exact .cons (W.vw C h1) (paired_vw C h2)
theorem lift_cb {r : List V → Hp → VK → Prop} (l : Lsf K fs r) (h : lift K (dCB fs tas) σ H Q) : tCB r (liftA K tas) σ H Q := by
  obtain ⟨m, ρ, c, Φ, S, h, q⟩ := h
  exact ⟨m, ρ, c, _, S, h, fun x c1 u H1 m1 hx C1 R1 L1 => l _ c1 Φ hx H1 m1 u C1 (paired_vw C1 R1) Q fun d c' w H' m' hd C' R' L' => q d c' w H' m' hd C' R' (L1.trans L')⟩
end

/-! ### names, constants -/
def dVar (i : Nat) : TD := fun ρ c Φ => match ρ[i]? with
  | some (some d) => Φ d c
  | _ => False
def dC (d : D) : TD := fun _ c Φ => Φ d c
section
variable {X : Cx} {e a b : Expr} {es : List Expr} {ta tb : TD} {tas : TDs} {pos : Pos}
theorem pd_pv {i : Nat} (h : PE X e (tVar i)) : PD X e (dVar i) := PE.imp h fun σ H Q ⟨m, ρ, c, Φ, S, h, q⟩ => by
  unfold dVar at h
  cases e1 : ρ[i]? with
  | none => rw [e1] at h; exact h.elim
  | some o =>
    cases o with
    | none => rw [e1] at h; exact h.elim
    | some d =>
      rw [e1] at h
      obtain ⟨v, h1, h2⟩ := S.sl i d e1
      exact ⟨v, h1, q d c v H m h S.cr h2 (Le.refl _ _)⟩
theorem pd_c {v : V} {d : D} (h : PE X e (tC v)) (r : ∀ m H, R X.K m H d v) : PD X e (dC d) := PE.imp h fun σ H Q ⟨m, ρ, c, Φ, S, h, q⟩ => q d c v H m h S.cr (r _ _) (Le.refl _ _)
theorem pd_v (i : Nat) {x : Str} (hN : X.N[i]? = some x := by rfl) (hv : Vis X.env.scope x := by first | exact Or.inl rfl | exact Or.inr (Or.inl rfl) | exact Or.inr (Or.inr rfl)) (hd : (x == ("__debug__" : Str)) = false := by decide)
    (hcd : (x == ("__classdict__" : Str)) = false := by decide) : PD X (.Name x pos) (dVar i) := pd_pv (pe_var hN hv hd hcd)
theorem pd_int {i j} : PD X (.Constant (.int i) j pos) (dC (.int i)) := pd_c pe_int fun _ _ => rfl
theorem pd_bl {b j} : PD X (.Constant (.bool b) j pos) (dC (.bl b)) := pd_c pe_bl fun _ _ => rfl
theorem pd_non {j} : PD X (.Constant .none j pos) (dC .non) := pd_c pe_non fun _ _ => rfl
theorem pd_str {x j} : PD X (.Constant (.str x) j pos) (dC (.str x)) := pd_c pe_str fun _ _ => rfl

/-! ### arguments, displays -/
def dNil : TDs := fun _ c Φ => Φ [] c
def dCons (ta : TD) (tr : TDs) : TDs := fun ρ c Φ => ta ρ c fun x c1 => tr ρ c1 fun xs c2 => Φ (x :: xs) c2
theorem pds_nil : PDs X [] dNil := PA.imp pa_nil fun σ H Q ⟨m, ρ, c, Φ, S, h, q⟩ => q [] c [] H m h S.cr rfl (Le.refl _ _)
theorem pds_cons (h1 : PD X e ta) (h2 : PDs X es tas) (hs : starEach (e :: es) X.env = (false, eval e X.env) :: starEach es X.env := by rfl) : PDs X (e :: es) (dCons ta tas) :=
  PA.imp (pa_cons h1 h2 hs) fun σ H Q ⟨m, ρ, c, Φ, S, h, q⟩ => ⟨m, ρ, c, _, S, h, fun x c1 u H1 m1 hx C1 R1 L1 => ⟨m1, ρ, c1, _, S.step L1 C1, hx, fun xs c2 us H2 m2 hy C2 R2 L2 =>
    q (x :: xs) c2 (u :: us) H2 m2 hy C2 ⟨u, us, rfl, L2.r R1, R2⟩ (L1.trans L2)⟩⟩
def dTup (t : TDs) : TD := fun ρ c Φ => t ρ c fun xs c1 => xs.length ≤ sizeLine ∧ Φ (.tup xs) c1
def dLst (t : TDs) : TD := fun ρ c Φ => t ρ c fun xs c1 => xs.length ≤ sizeLine ∧ Φ (.lst xs) c1
theorem RR.newT {m : Ad} {H : Hp} {c : List Cell} {p : Addr} {xs : List D} {us : List V} (C1 : CR X.K H m c) (hp : H p = none) (r : RRL X.K H m xs us) : RR X.K (upd H p (.tup us)) m (.tup xs) (.ref p) :=
  ⟨p, us, rfl, .inl (.inl (new_at hp C1)), (Le.new hp C1).rl r⟩
theorem RR.newL {m : Ad} {H : Hp} {c : List Cell} {p : Addr} {xs : List D} {us : List V} (C1 : CR X.K H m c) (hp : H p = none) (r : RRL X.K H m xs us) : RR X.K (upd H p (.lst us)) m (.lst xs) (.ref p) :=
  ⟨p, us, rfl, new_at hp C1, (Le.new hp C1).rl r⟩
theorem pd_tup {x1} (h : PDs X es tas) : PD X (.Tuple es x1 pos) (dTup tas) := PE.imp (pe_tup h) fun σ H Q ⟨m, ρ, c, Φ, S, h, q⟩ =>
  ⟨m, ρ, c, _, S, h, fun xs c1 us H1 m1 ⟨hl, hx⟩ C1 R1 L1 => ⟨by rw [← RL.length R1]; exact hl, fun p hp => q _ c1 _ _ m1 hx (C1.new hp) (RR.newT C1 hp R1) (L1.trans (Le.new hp C1))⟩⟩
theorem pd_lst (h : PDs X es tas) : PD X (.List es pos) (dLst tas) := PE.imp (pe_lst h) fun σ H Q ⟨m, ρ, c, Φ, S, h, q⟩ =>
  ⟨m, ρ, c, _, S, h, fun xs c1 us H1 m1 ⟨hl, hx⟩ C1 R1 L1 => ⟨by rw [← RL.length R1]; exact hl, fun p hp => q _ c1 _ _ m1 hx (C1.new hp) (RR.newL C1 hp R1) (L1.trans (Le.new hp C1))⟩⟩
/-- a list that will be changed: a new cell -/
def dLstM (t : TDs) : TD := fun ρ c Φ => t ρ c fun xs c1 => xs.length ≤ sizeLine ∧ Φ (.cell c1.length) (c1 ++ [.lst xs])
def Ad.push (m : Ad) (p : Addr) : Ad := ⟨m.ix ++ [p], m.hd⟩
theorem TabK.push {m : Ad} {H : Hp} {P p : Addr} {q : Str} {o : HO} (t : TabK m H P q) (hp : H p = some o) (ho : ∀ f, o ≠ .ext f) : TabK (m.push p) H P q := by
  obtain ⟨ps, h1, h2, h3⟩ := t
  refine ⟨ps, h1, h2, fun pos cv hc => ?_⟩
  obtain ⟨c, e1, e2⟩ := h3 pos cv hc
  refine ⟨c, e1, ?_⟩
  obtain ⟨⟨a, b⟩, e⟩ := hid_some e2
  rw [hid_of]
  · exact e
  · refine ⟨fun z => ?_, b⟩
    rcases List.mem_append.mp (show c ∈ m.ix ++ [p] from z) with z | z
    · exact a z
    · have : c = p := by simpa using z
      subst this
      rw [hp] at e
      exact ho _ (Option.some.inj e)
theorem push_pre {m : Ad} {p : Addr} (k : Nat) (a : Addr) (e : m.ix[k]? = some a) : (m.push p).ix[k]? = some a := by
  show (m.ix ++ [p])[k]? = some a
  rw [List.getElem?_append_left (List.getElem?_eq_some_iff.mp e).1]; exact e
theorem hid_app {m : Ad} {H : Hp} {p : Addr} {o : HO} (hp : H p = none) : hid (m.push p) (upd H p o) = hid m H := by
  funext b
  unfold hid upd Ad.push
  by_cases hb : b = p
  · subst hb; simp [hp]
  · simp [hb]
theorem cell_new {K : PySem.W.Frag} {m : Ad} {H : Hp} {c : List Cell} {p : Addr} {o : HO} {ce : Cell} (C1 : CR K H m c) (hp : H p = none)
    (hc : CellAt K (m.push p) (upd H p o) p ce) : CR K (upd H p o) (m.push p) (c ++ [ce]) ∧ Le m H (m.push p) (upd H p o) ∧ RR K (upd H p o) (m.push p) (.cell c.length) (.ref p) := by
  have hn := hid_new hp C1
  have l : Le m H (m.push p) (upd H p o) := ⟨push_pre, by rw [hid_app hp]; exact Ex.refl _, rfl, fun b hb => .inl (upd_ne fun e => hn.2 (by rw [← e]; exact hb)), fun a ha => (List.mem_append.mp (show a ∈ m.ix ++ [p] from ha)).elim .inl fun z => .inr (by
    have : a = p := by simpa using z
    subst this; exact hp), fun _ h => upd_none h⟩
  have last : (m.push p).ix[c.length]? = some p := by
    show (m.ix ++ [p])[c.length]? = some p
    rw [← C1.len]; simp
  refine ⟨⟨by simp [Ad.push, C1.len], ?_, fun k ce' e => ?_, fun b hb => ?_, fun a ha => ?_, C1.tk' l⟩, l, p, last, rfl⟩
  · show (m.ix ++ [p]).Nodup
    rw [List.nodup_append]
    refine ⟨C1.nd, by simp, fun a ha b hb e => ?_⟩
    have : b = p := by simpa using hb
    subst this; subst e
    exact hn.1 ha
  · by_cases hk : k < c.length
    · rw [List.getElem?_append_left hk] at e
      obtain ⟨a, h1, h2⟩ := C1.at_ k ce' e
      refine ⟨a, push_pre k a h1, h2.step l fun o' e' => ?_⟩
      rw [upd_ne (ne_of_none e' hp)]; exact e'
    · have hk' : k = c.length := by
        have := (List.getElem?_eq_some_iff.mp e).1
        simp at this; omega
      subst hk'
      simp at e; subst e
      exact ⟨p, last, hc⟩
  · obtain ⟨o', h3, h4⟩ := C1.hs b hb
    exact ⟨o', by rw [upd_ne (ne_of_none h3 hp)]; exact h3, h4⟩
  · rcases List.mem_append.mp (show a ∈ m.ix ++ [p] from ha) with z | z
    · exact C1.dj a z
    · have : a = p := by simpa using z
      subst this
      exact hn.2
theorem pd_lstM (h : PDs X es tas) : PD X (.List es pos) (dLstM tas) := PE.imp (pe_lst h) fun σ H Q ⟨m, ρ, c, Φ, S, h, q⟩ =>
  ⟨m, ρ, c, _, S, h, fun xs c1 us H1 m1 ⟨hl, hx⟩ C1 R1 L1 => ⟨by rw [← RL.length R1]; exact hl, fun p hp => by
    have z := cell_new (ce := .lst xs) (o := .lst us) C1 hp ⟨us, upd_same, by
      show RL _ _ (hid (m1.push p) _) _ _
      rw [hid_app hp]; exact RL.mono (Ex.refl _) push_pre _ _ R1⟩
    exact q _ _ _ _ _ hx z.1 z.2.2 (L1.trans z.2.1)⟩⟩
end
end Cw

namespace Cw
open PySem PySem.Spec PyProof.Rows L2

/-! ### data to the library's plain data -/
mutual
def D.py : D → Option PyData
  | .non => some .none
  | .bl b => some (.bool b)
  | .int i => some (.int i)
  | .str x => some (.str x)
  | .tup ds => (D.pys ds).map .tuple
  | .lst ds => (D.pys ds).map .list
  | .fl ds => (D.pys ds).map .list
  | .cell _ => none
  | .ins _ _ _ => none
  | .dct _ _ => none
  | .dcT _ _ => none
  | .exc _ _ _ _ _ => none
  | .raw _ => none
def D.pys : List D → Option (List PyData)
  | [] => some []
  | d :: ds => match D.py d, D.pys ds with
    | some p, some ps => some (p :: ps)
    | _, _ => none
end
section
variable {K : PySem.W.Frag} {m : List Addr} {H : Hp}
mutual
theorem R.dp : ∀ (d : D) (v : V) (p : PyData), R K m H d v → D.py d = some p → Dp K H v p
  | .non, _, _, h, e => by cases e; cases (show _ = V.non from h); exact .non
  | .bl b, _, _, h, e => by cases e; cases (show _ = V.bl b from h); exact .bl b
  | .int i, _, _, h, e => by cases e; cases (show _ = V.int i from h); exact .int i
  | .str x, _, _, h, e => by cases e; cases (show _ = V.str x from h); exact .str x
  | .tup ds, _, p, ⟨a, xs, e1, h1, h2⟩, e => by
    subst e1
    rw [show D.py (.tup ds) = (D.pys ds).map .tuple by rw [D.py]] at e
    cases e2 : D.pys ds with
    | none => rw [e2] at e; cases e
    | some ps => rw [e2] at e; cases e; exact .tup h1 (RL.dp ds xs ps h2 e2)
  | .lst ds, _, p, ⟨a, xs, e1, h1, h2⟩, e => by
    subst e1
    rw [show D.py (.lst ds) = (D.pys ds).map .list by rw [D.py]] at e
    cases e2 : D.pys ds with
    | none => rw [e2] at e; cases e
    | some ps => rw [e2] at e; cases e; exact .lst (SqL.of h1) (RL.dp ds xs ps h2 e2)
  | .fl ds, _, p, ⟨a, xs, e1, h1, h2⟩, e => by
    subst e1
    rw [show D.py (.fl ds) = (D.pys ds).map .list by rw [D.py]] at e
    cases e2 : D.pys ds with
    | none => rw [e2] at e; cases e
    | some ps => rw [e2] at e; cases e; exact .lst h1 (RL.dp ds xs ps h2 e2)
  | .cell _, _, _, _, e => by rw [D.py] at e; cases e
  | .ins _ _ _, _, _, _, e => by rw [D.py] at e; cases e
  | .dct _ _, _, _, _, e => by rw [D.py] at e; cases e
  | .dcT _ _, _, _, _, e => by rw [D.py] at e; cases e
  | .exc _ _ _ _ _, _, _, _, e => by rw [D.py] at e; cases e
  | .raw _, _, _, _, e => by rw [D.py] at e; cases e
theorem RL.dp : ∀ (ds : List D) (vs : List V) (ps : List PyData), RL K m H ds vs → D.pys ds = some ps → DpAll K H vs ps
  | [], _, _, h, e => by cases (show _ = [] from h); rw [D.pys] at e; cases e; exact .nil
  | d :: ds, _, ps, ⟨x, r, e1, h1, h2⟩, e => by
    subst e1
    rw [D.pys] at e
    cases e2 : D.py d with
    | none => rw [e2] at e; cases e
    | some p =>
      cases e3 : D.pys ds with
      | none => rw [e2, e3] at e; cases e
      | some qs => rw [e2, e3] at e; cases e; exact .cons (R.dp d x p h1 e2) (RL.dp ds r qs h2 e3)
end
theorem DpAll.mono' {H H' : Hp} (e : Ex H H') : ∀ {v : V} {d : PyData}, Dp K H v d → Dp K H' v d := by
  intro v d h
  refine Dp.rec (motive_1 := fun v d _ => Dp K H' v d) (motive_2 := fun vs ds _ => DpAll K H' vs ds) .non .bl .int .str (fun h1 _ i => .lst (ex_l e h1) i) (fun h1 _ i => .tup (ex_t e h1) i) .nil (fun _ _ i1 i2 => .cons i1 i2) h
theorem DpAll.mono2 {H H' : Hp} (e : Ex H H') : ∀ {vs : List V} {ds : List PyData}, DpAll K H vs ds → DpAll K H' vs ds
  | _, _, .nil => .nil
  | _, _, .cons h1 h2 => .cons (DpAll.mono' e h1) (DpAll.mono2 e h2)
end
section
variable {K : PySem.W.Frag} {m : Ad} {H : Hp}
theorem W.dp : ∀ {d : D} {v : V} {p : PyData}, W K H m d v → D.py d = some p → Dp K H v p
  | .non, _, _, h, e => DpAll.mono' (ex_hid m H) (R.dp (m := m.ix) .non _ _ h e)
  | .bl b, _, _, h, e => DpAll.mono' (ex_hid m H) (R.dp (m := m.ix) (.bl b) _ _ h e)
  | .int i, _, _, h, e => DpAll.mono' (ex_hid m H) (R.dp (m := m.ix) (.int i) _ _ h e)
  | .str x, _, _, h, e => DpAll.mono' (ex_hid m H) (R.dp (m := m.ix) (.str x) _ _ h e)
  | .tup ds, _, _, h, e => DpAll.mono' (ex_hid m H) (R.dp (m := m.ix) (.tup ds) _ _ h e)
  | .fl ds, _, _, h, e => DpAll.mono' (ex_hid m H) (R.dp (m := m.ix) (.fl ds) _ _ h e)
  | .lst ds, _, p, ⟨a, xs, e1, h1, h2⟩, e => by
    subst e1
    rw [show D.py (.lst ds) = (D.pys ds).map .list by rw [D.py]] at e
    cases e2 : D.pys ds with
    | none => rw [e2] at e; cases e
    | some ps => rw [e2] at e; cases e; exact .lst (SqL.of h1) (DpAll.mono2 (ex_hid m H) (RL.dp ds xs ps h2 e2))
  | .cell _, _, _, _, e => by rw [D.py] at e; cases e
  | .ins _ _ _, _, _, _, e => by rw [D.py] at e; cases e
  | .dct _ _, _, _, _, e => by rw [D.py] at e; cases e
  | .dcT _ _, _, _, _, e => by rw [D.py] at e; cases e
  | .exc _ _ _ _ _, _, _, _, e => by rw [D.py] at e; cases e
  | .raw _, _, _, _, e => by rw [D.py] at e; cases e
theorem W.list {ds : List D} {v : V} (h : W K H m (.lst ds) v ∨ W K H m (.fl ds) v) : ∃ a xs, v = .ref a ∧ SqL K H a xs ∧ RRL K H m ds xs := by
  rcases h with ⟨a, xs, e, h1, h2⟩ | ⟨a, xs, e, h1, h2⟩
  · exact ⟨a, xs, e, SqL.of h1, h2⟩
  · exact ⟨a, xs, e, ex_l (ex_hid m H) h1, h2⟩
end

/-- the same data, the same heap -/
theorem KQ.pure {K : PySem.W.Frag} {H : Hp} {m : Ad} {c : List Cell} {Φ : D → List Cell → Prop} {Q : VK} {d : D} {w : V} (k : KQ K H m Φ Q) (C : CR K H m c) (h : Φ d c) (r : RR K H m d w) : Q w H := k d c w H m h C r (Le.refl _ _)
theorem KQ.newT {X : Cx} {H : Hp} {m : Ad} {c : List Cell} {Φ : D → List Cell → Prop} {Q : VK} {ds : List D} {ws : List V} (k : KQ X.K H m Φ Q) (C : CR X.K H m c) (h : Φ (.tup ds) c) (r : RRL X.K H m ds ws) {p : Addr} (hp : H p = none) : Q (.ref p) (upd H p (.tup ws)) :=
  k _ c _ _ m h (C.new hp) (RR.newT (X := X) C hp r) (Le.new hp C)
theorem KQ.newL {X : Cx} {H : Hp} {m : Ad} {c : List Cell} {Φ : D → List Cell → Prop} {Q : VK} {ds : List D} {ws : List V} (k : KQ X.K H m Φ Q) (C : CR X.K H m c) (h : Φ (.lst ds) c) (r : RRL X.K H m ds ws) {p : Addr} (hp : H p = none) : Q (.ref p) (upd H p (.lst ws)) :=
  k _ c _ _ m h (C.new hp) (RR.newL (X := X) C hp r) (Le.new hp C)

/-! ### + - * // % -/
def fAdd : F2
  | .int i, .int j, c, Φ => Φ (.int (i + j)) c
  | .str x, .str y, c, Φ => x.length + y.length ≤ sizeLine ∧ Φ (.str (x ++ y)) c
  | .lst xs, .lst ys, c, Φ => xs.length + ys.length ≤ sizeLine ∧ Φ (.lst (xs ++ ys)) c
  | .tup xs, .tup ys, c, Φ => xs.length + ys.length ≤ sizeLine ∧ Φ (.tup (xs ++ ys)) c
  | _, _, _, _ => False
def fSub : F2
  | .int i, .int j, c, Φ => Φ (.int (i - j)) c
  | _, _, _, _ => False
def fMul : F2
  | .int i, .int j, c, Φ => ((-(2 ^ 64) < i ∧ i < 2 ^ 64) ∨ (-(2 ^ 64) < j ∧ j < 2 ^ 64)) ∧ Φ (.int (i * j)) c
  | _, _, _, _ => False
def fDiv : F2
  | .int i, .int j, c, Φ => (0 < j ∧ j < 1073741824) ∧ Φ (.int (i / j)) c
  | _, _, _, _ => False
def fMod : F2
  | .int i, .int j, c, Φ => 0 < j ∧ Φ (.int (i % j)) c
  | _, _, _, _ => False
def fPow : F2
  | .int i, .int j, c, Φ => (0 ≤ j ∧ j ≤ 1000000 ∧ i.natAbs < 2 ^ 64) ∧ Φ (.int (i ^ j.toNat)) c
  | _, _, _, _ => False
section
variable {X : Cx} {a b : Expr} {ta tb : TD} {pos : Pos}
/-- a rule over two ints -/
theorem int2 {K : PySem.W.Frag} {C : Int → Int → Prop} {g : Int → Int → Int} {f : F2} (h1 : ∀ i j c Φ, f (.int i) (.int j) c Φ → C i j ∧ Φ (.int (g i j)) c) (h2 : ∀ x y c Φ, f x y c Φ → ∃ i j, x = .int i ∧ y = .int j) : L2f K f (rI C fun i j => .int (g i j)) := by
  intro x y c Φ h H m u v Cc r1 r2 Q k
  obtain ⟨i, j, rfl, rfl⟩ := h2 x y c Φ h
  cases (show _ = V.int i from r1); cases (show _ = V.int j from r2)
  obtain ⟨hc, hq⟩ := h1 i j c Φ h
  exact ⟨i, j, rfl, rfl, hc, k.pure Cc hq rfl⟩
theorem pd_sub (ha : PD X a ta) (hb : PD X b tb) : PD X (.BinOp a .Sub b pos) (dBin fSub ta tb) := PE.imp (pe_op op_sub ha hb) fun σ H Q h => lift_bin (by
  intro x y c Φ h H m u v Cc r1 r2 Q k
  cases x <;> cases y <;> first | exact h.elim | skip
  cases r1; cases r2
  exact ⟨_, _, rfl, rfl, k.pure Cc h rfl⟩) h
theorem pd_mul (ha : PD X a ta) (hb : PD X b tb) : PD X (.BinOp a .Mult b pos) (dBin fMul ta tb) := PE.imp (pe_op op_mul ha hb) fun σ H Q h => lift_bin (by
  intro x y c Φ h H m u v Cc r1 r2 Q k
  cases x <;> cases y <;> first | exact h.elim | skip
  cases r1; cases r2
  exact ⟨_, _, rfl, rfl, h.1, k.pure Cc h.2 rfl⟩) h
theorem pd_div (ha : PD X a ta) (hb : PD X b tb) : PD X (.BinOp a .FloorDiv b pos) (dBin fDiv ta tb) := PE.imp (pe_op op_fdiv ha hb) fun σ H Q h => lift_bin (by
  intro x y c Φ h H m u v Cc r1 r2 Q k
  cases x <;> cases y <;> first | exact h.elim | skip
  cases r1; cases r2
  exact ⟨_, _, rfl, rfl, h.1, k.pure Cc h.2 rfl⟩) h
theorem pd_mod (ha : PD X a ta) (hb : PD X b tb) : PD X (.BinOp a .Mod b pos) (dBin fMod ta tb) := PE.imp (pe_op op_mod ha hb) fun σ H Q h => lift_bin (by
  intro x y c Φ h H m u v Cc r1 r2 Q k
  cases x <;> cases y <;> first | exact h.elim | skip
  cases r1; cases r2
  exact ⟨_, _, rfl, rfl, h.1, k.pure Cc h.2 rfl⟩) h
theorem pd_pow (ha : PD X a ta) (hb : PD X b tb) : PD X (.BinOp a .Pow b pos) (dBin fPow ta tb) := PE.imp (pe_op op_pow ha hb) fun σ H Q h => lift_bin (by
  intro x y c Φ h H m u v Cc r1 r2 Q k
  cases x <;> cases y <;> first | exact h.elim | skip
  cases r1; cases r2
  exact ⟨_, _, rfl, rfl, h.1, k.pure Cc h.2 rfl⟩) h
theorem rlen {K : PySem.W.Frag} {m : List Addr} {H : Hp} {ds : List D} {xs : List V} (h : RL K m H ds xs) : xs.length = ds.length := (RL.length h).symm
theorem pd_add (ha : PD X a ta) (hb : PD X b tb) : PD X (.BinOp a .Add b pos) (dBin fAdd ta tb) :=
  PE.imp (pe_op (op_add.or (op_add_str.or (op_cat.or op_catA))) ha hb) fun σ H Q h => lift_bin (by
  intro x y c Φ h H m u v Cc r1 r2 Q k
  cases x <;> cases y <;> first | exact h.elim | skip
  · cases r1; cases r2
    exact .inl ⟨_, _, rfl, rfl, k.pure Cc h rfl⟩
  · cases r1; cases r2
    exact .inr (.inl ⟨_, _, rfl, rfl, h.1, k.pure Cc h.2 rfl⟩)
  · rename_i xs ys
    obtain ⟨p, us, rfl, hp, ru⟩ := r1
    obtain ⟨q, ws, rfl, hq, rw'⟩ := r2
    refine .inr (.inr (.inr ⟨p, q, us, ws, rfl, rfl, ex_t (ex_hid m H) hp, ex_t (ex_hid m H) hq, by rw [rlen ru, rlen rw']; exact h.1, fun e => ?_, fun _ e => ?_, fun _ _ t ht => ?_⟩))
    · subst e
      have : xs = [] := by cases xs with | nil => rfl | cons d ds => obtain ⟨_, _, z, _⟩ := ru; cases z
      subst this
      exact k.pure Cc h.2 ⟨q, ws, rfl, hq, rw'⟩
    · subst e
      have : ys = [] := by cases ys with | nil => rfl | cons d ds => obtain ⟨_, _, z, _⟩ := rw'; cases z
      subst this
      have h3 := h.2
      rw [List.append_nil] at h3
      exact k.pure Cc h3 ⟨p, us, rfl, hp, ru⟩
    · exact KQ.newT (X := X) k Cc h.2 (RL.append ru rw') ht
  · obtain ⟨p, us, rfl, hp, ru⟩ := r1
    obtain ⟨q, ws, rfl, hq, rw'⟩ := r2
    exact .inr (.inr (.inl ⟨p, q, us, ws, rfl, rfl, hp, hq, by rw [rlen ru, rlen rw']; exact h.1, fun t ht => KQ.newL (X := X) k Cc h.2 (RL.append ru rw') ht⟩))) h
end
end Cw

namespace Cw
open PySem PySem.Spec PyProof.Rows L2

/-! ### == != < <= > >= in is -/
def fEq (neg : Bool) : F2
  | .int i, .int j, c, Φ => Φ (.bl (if neg then !decide (i = j) else decide (i = j))) c
  | .str x, .str y, c, Φ => Φ (.bl (if neg then !decide (x = y) else decide (x = y))) c
  | .bl x, .bl y, c, Φ => Φ (.bl (if neg then !decide (x = y) else decide (x = y))) c
  | x, y, c, Φ => ∃ p q, D.py x = some p ∧ D.py y = some q ∧ SeqAt.shaped p = true ∧ SeqAt.shaped q = true ∧ Φ (.bl (if neg then !PyData.eqv p q else PyData.eqv p q)) c
def fCmp (g : Int → Int → Bool) : F2
  | .int i, .int j, c, Φ => Φ (.bl (g i j)) c
  | _, _, _, _ => False
/-- one text in another -/
def inS (x y : Str) : Bool := match x.cps.toList with
  | [k] => decide (k ∈ y.cps.toList)
  | _ => !(Builtin.Str.occurrences y x 0 y.length 1).isEmpty
theorem inS_eq (x y : Str) : inS x y = !(Builtin.Str.occurrences y x 0 y.length 1).isEmpty := by
  unfold inS
  split
  · rename_i k e
    have hx : x = ⟨#[k]⟩ := by
      cases x with | mk cps => cases cps with | mk l => cases (show l = [k] from e); rfl
    subst hx
    exact (PySem.StrLaws.found_one y k).symm
  · rfl
def seqOf : D → Option (List D)
  | .lst ds => some ds
  | .fl ds => some ds
  | .tup ds => some ds
  | _ => none
def flatD : D → Bool
  | .non => true
  | .bl _ => true
  | .int _ => true
  | .str _ => true
  | _ => false
def flatV' : D → V
  | .bl b => .bl b
  | .int i => .int i
  | .str x => .str x
  | _ => .non
def inF (x : D) (ds : List D) : Bool := inV (flatV' x) (ds.map flatV')
def fIn (neg : Bool) : F2
  | .str x, .str y, c, Φ => Φ (.bl (if neg then !inS x y else inS x y)) c
  | x, y, c, Φ => (∃ ds, seqOf y = some ds ∧ flatD x = true ∧ ds.all flatD = true ∧ Φ (.bl (if neg then !inF x ds else inF x ds)) c) ∨ ∃ p ds ps, D.py x = some p ∧ seqOf y = some ds ∧ D.pys ds = some ps ∧ SeqAt.shaped p = true ∧ SeqAt.shaped (.list ps) = true ∧ Φ (.bl (if neg then !ps.any fun z => PyData.eqv z p else ps.any fun z => PyData.eqv z p)) c
def fIsN (neg : Bool) : F2
  | .non, .non, c, Φ => Φ (.bl (!neg)) c
  | .cell _, .non, c, Φ => Φ (.bl neg) c
  | .raw _, _, _, _ => False
  | _, .non, c, Φ => Φ (.bl neg) c
  | _, _, _, _ => False
def rInT (K : PySem.W.Frag) : R2 := fun x y H Q => ∃ d ds, Dp K H x d ∧ Dp K H y (.tuple ds) ∧ SeqAt.shaped d = true ∧ SeqAt.shaped (.list ds) = true ∧ Q (.bl (ds.any fun z => PyData.eqv z d)) H
def rNinT (K : PySem.W.Frag) : R2 := fun x y H Q => ∃ d ds, Dp K H x d ∧ Dp K H y (.tuple ds) ∧ SeqAt.shaped d = true ∧ SeqAt.shaped (.list ds) = true ∧ Q (.bl (!ds.any fun z => PyData.eqv z d)) H
theorem op_inT {X : Cx} (hu : X.A.units + 65 < cLine) : OpR X (compareOp .In) (rInT X.K) := by
  intro pins s σ H x y v u Q I rx ry ⟨d, ds, hd, he, sd, se, q⟩
  obtain ⟨as, w1⟩ := Dp.reads I d x v hd rx
  obtain ⟨bs, w2⟩ := Dp.reads I (.tuple ds) y u he ry
  exact SeqAt.in_tuple_reads w2 w1 (SeqAt.canLay_of_shaped se) (SeqAt.canLay_of_shaped sd) (room_in_shaped sd hu) ⟨.bl _, H, I, rfl, q⟩
theorem op_ninT {X : Cx} (hu : X.A.units + 65 < cLine) : OpR X (compareOp .NotIn) (rNinT X.K) := by
  intro pins s σ H x y v u Q I rx ry ⟨d, ds, hd, he, sd, se, q⟩
  obtain ⟨as, w1⟩ := Dp.reads I d x v hd rx
  obtain ⟨bs, w2⟩ := Dp.reads I (.tuple ds) y u he ry
  exact SeqAt.notIn_tuple_reads w2 w1 (SeqAt.canLay_of_shaped se) (SeqAt.canLay_of_shaped sd) (room_in_shaped sd hu) ⟨.bl _, H, I, rfl, q⟩

section
variable {X : Cx} {a b e : Expr} {ta tb tc : TD} {pos : Pos} {k : Nat}
theorem pyeq_lift {K : PySem.W.Frag} {neg : Bool} {x y : D} {c : List Cell} {Φ : D → List Cell → Prop} {H : Hp} {m : Ad} {u v : V} {Q : VK} (Cc : CR K H m c) (r1 : W K H m x u) (r2 : W K H m y v) (q : KQ K H m Φ Q)
    (h : ∃ p q, D.py x = some p ∧ D.py y = some q ∧ SeqAt.shaped p = true ∧ SeqAt.shaped q = true ∧ Φ (.bl (if neg then !PyData.eqv p q else PyData.eqv p q)) c) :
    ∃ d e, Dp K H u d ∧ Dp K H v e ∧ SeqAt.shaped d = true ∧ SeqAt.shaped e = true ∧ Q (.bl (if neg then !PyData.eqv d e else PyData.eqv d e)) H := by
  obtain ⟨p, q', e1, e2, s1, s2, h⟩ := h
  exact ⟨p, q', W.dp r1 e1, W.dp r2 e2, s1, s2, q.pure Cc h rfl⟩
theorem l2_eq {K : PySem.W.Frag} : L2f K (fEq false) (fun x y H Q => rEq x y H Q ∨ rEqD K x y H Q) := by
  intro x y c Φ h H m u v Cc r1 r2 Q q
  cases x <;> cases y <;> first
    | (cases r1; cases r2; exact .inl ⟨rfl, by simpa using q.pure Cc h rfl⟩)
    | exact .inr (pyeq_lift (neg := false) Cc r1 r2 q h)
theorem l2_ne {K : PySem.W.Frag} : L2f K (fEq true) (fun x y H Q => rNe x y H Q ∨ rNeD K x y H Q) := by
  intro x y c Φ h H m u v Cc r1 r2 Q q
  cases x <;> cases y <;> first
    | (cases r1; cases r2; exact .inl ⟨rfl, by simpa using q.pure Cc h rfl⟩)
    | exact .inr (pyeq_lift (neg := true) Cc r1 r2 q h)
theorem pd_eq (hr : Room k X.A) (ha : PD X a ta) (hb : PD X b tb) : PD X (.Compare a [.Eq] [b] pos) (dBin (fEq false) ta tb) := PE.imp (pe_cmpR (op_eq.or (op_eqD hr.units)) ha hb (nomark _)) fun σ H Q h => lift_bin l2_eq h
theorem pd_ne (hr : Room k X.A) (ha : PD X a ta) (hb : PD X b tb) : PD X (.Compare a [.NotEq] [b] pos) (dBin (fEq true) ta tb) := PE.imp (pe_cmpR (op_ne.or (op_neD hr.units)) ha hb (nomark _)) fun σ H Q h => lift_bin l2_ne h
theorem l2_cmp {K : PySem.W.Frag} {g : Int → Int → Bool} : L2f K (fCmp g) (rI0 fun i j => .bl (g i j)) := by
  intro x y c Φ h H m u v Cc r1 r2 Q q
  cases x <;> cases y <;> first | exact h.elim | skip
  cases r1; cases r2
  exact ⟨_, _, rfl, rfl, q.pure Cc h rfl⟩
abbrev fLt := fCmp fun i j => decide (i < j)
abbrev fLe := fCmp fun i j => decide (i ≤ j)
abbrev fGt := fCmp fun i j => decide (j < i)
abbrev fGe := fCmp fun i j => decide (j ≤ i)
theorem pd_lt (ha : PD X a ta) (hb : PD X b tb) : PD X (.Compare a [.Lt] [b] pos) (dBin fLt ta tb) := PE.imp (pe_cmpR op_lt ha hb (nomark _)) fun σ H Q h => lift_bin l2_cmp h
theorem pd_le (ha : PD X a ta) (hb : PD X b tb) : PD X (.Compare a [.LtE] [b] pos) (dBin fLe ta tb) := PE.imp (pe_cmpR op_le ha hb (nomark _)) fun σ H Q h => lift_bin l2_cmp h
theorem pd_gt (ha : PD X a ta) (hb : PD X b tb) : PD X (.Compare a [.Gt] [b] pos) (dBin fGt ta tb) := PE.imp (pe_cmpR op_gt ha hb (nomark _)) fun σ H Q h => lift_bin l2_cmp h
theorem pd_ge (ha : PD X a ta) (hb : PD X b tb) : PD X (.Compare a [.GtE] [b] pos) (dBin fGe ta tb) := PE.imp (pe_cmpR op_ge ha hb (nomark _)) fun σ H Q h => lift_bin l2_cmp h
theorem seq_dp {K : PySem.W.Frag} {H : Hp} {m : Ad} {y : D} {v : V} {ds : List D} {ps : List PyData} (r : W K H m y v) (e1 : seqOf y = some ds) (e2 : D.pys ds = some ps) : Dp K H v (.list ps) ∨ Dp K H v (.tuple ps) := by
  cases y <;> first | (cases e1; done) | skip
  · cases e1; exact .inr (W.dp r (by rw [D.py, e2]; rfl))
  · cases e1; exact .inl (W.dp r (by rw [D.py, e2]; rfl))
  · cases e1; exact .inl (W.dp r (by rw [D.py, e2]; rfl))
theorem seq_in {K : PySem.W.Frag} {m : Ad} {H : Hp} {x : D} {u : V} {ds : List D} (r : W K H m x u) (e : seqOf x = some ds) : ∃ p xs, u = .ref p ∧ (SqL K H p xs ∨ SqT K H p xs) ∧ RRL K H m ds xs := by
  cases x <;> first | (cases e; done) | skip
  · cases e; obtain ⟨p, xs, e1, h1, h2⟩ := r; exact ⟨p, xs, e1, .inr (ex_t (ex_hid m H) h1), h2⟩
  · cases e; obtain ⟨p, xs, e1, h1, h2⟩ := r; exact ⟨p, xs, e1, .inl (SqL.of h1), h2⟩
  · cases e; obtain ⟨p, xs, e1, h1, h2⟩ := r; exact ⟨p, xs, e1, .inl (ex_l (ex_hid m H) h1), h2⟩
theorem flat_v {K : PySem.W.Frag} {m : Ad} {H : Hp} {x : D} {u : V} (r : W K H m x u) (f : flatD x = true) : u = flatV' x ∧ flatV u = true := by
  cases x <;> first | (cases f; done) | (cases (show u = _ from r); exact ⟨rfl, rfl⟩)
theorem flat_vs {K : PySem.W.Frag} {m : List Addr} {H : Hp} : ∀ {ds : List D} {xs : List V}, RL K m H ds xs → ds.all flatD = true → xs = ds.map flatV' ∧ xs.all flatV = true
  | [], _, h, _ => by cases (show _ = [] from h); exact ⟨rfl, rfl⟩
  | d :: ds, _, ⟨x, r, e1, h1, h2⟩, f => by
    subst e1
    rw [List.all_cons, Bool.and_eq_true] at f
    obtain ⟨e2, f2⟩ := flat_vs h2 f.2
    have e3 : x = flatV' d ∧ flatV x = true := by
      cases d <;> first | (cases f.1; done) | (cases (show x = _ from h1); exact ⟨rfl, rfl⟩)
    exact ⟨by rw [e2, e3.1]; rfl, by rw [List.all_cons, e3.2, f2]; rfl⟩
def rInA (K : PySem.W.Frag) : R2 := fun x y H Q => (∃ i j, x = .str i ∧ y = .str j ∧ Q (.bl (!(Builtin.Str.occurrences j i 0 j.length 1).isEmpty)) H) ∨ (rIn K false x y H Q ∨ (rInD K x y H Q ∨ rInT K x y H Q))
def rNinA (K : PySem.W.Frag) : R2 := fun x y H Q => (∃ i j, x = .str i ∧ y = .str j ∧ Q (.bl (!(!(Builtin.Str.occurrences j i 0 j.length 1).isEmpty))) H) ∨ (rIn K true x y H Q ∨ (rNotInD K x y H Q ∨ rNinT K x y H Q))
theorem l2_in {K : PySem.W.Frag} : L2f K (fIn false) (rInA K) := by
  intro x y c Φ h H m u v Cc r1 r2 Q q
  have gen : (∃ ds, seqOf y = some ds ∧ flatD x = true ∧ ds.all flatD = true ∧ Φ (.bl (if false then !inF x ds else inF x ds)) c) ∨ (∃ p ds ps, D.py x = some p ∧ seqOf y = some ds ∧ D.pys ds = some ps ∧ SeqAt.shaped p = true ∧ SeqAt.shaped (.list ps) = true ∧ Φ (.bl (if false then !ps.any fun z => PyData.eqv z p else ps.any fun z => PyData.eqv z p)) c) → rInA K u v H Q := by
    rintro (⟨ds, e2, f1, f2, h⟩ | ⟨p, ds, ps, e1, e2, e3, s1, s2, h⟩)
    · obtain ⟨a, xs, rfl, sq, rl⟩ := seq_in r2 e2
      obtain ⟨ex, fx⟩ := flat_v r1 f1
      obtain ⟨exs, fxs⟩ := flat_vs rl f2
      refine .inr (.inl ⟨a, xs, rfl, sq, fx, fxs, ?_⟩)
      rw [ex, exs]
      exact q.pure Cc h rfl
    rcases seq_dp r2 e2 e3 with d | d
    · exact .inr (.inr (.inl ⟨p, ps, W.dp r1 e1, d, s1, s2, q.pure Cc h rfl⟩))
    · exact .inr (.inr (.inr ⟨p, ps, W.dp r1 e1, d, s1, s2, q.pure Cc h rfl⟩))
  cases x <;> cases y <;> first
    | exact gen h
    | (cases r1; cases r2; exact .inl ⟨_, _, rfl, rfl, by rw [← inS_eq]; exact q.pure Cc h rfl⟩)
theorem l2_nin {K : PySem.W.Frag} : L2f K (fIn true) (rNinA K) := by
  intro x y c Φ h H m u v Cc r1 r2 Q q
  have gen : (∃ ds, seqOf y = some ds ∧ flatD x = true ∧ ds.all flatD = true ∧ Φ (.bl (if true then !inF x ds else inF x ds)) c) ∨ (∃ p ds ps, D.py x = some p ∧ seqOf y = some ds ∧ D.pys ds = some ps ∧ SeqAt.shaped p = true ∧ SeqAt.shaped (.list ps) = true ∧ Φ (.bl (if true then !ps.any fun z => PyData.eqv z p else ps.any fun z => PyData.eqv z p)) c) → rNinA K u v H Q := by
    rintro (⟨ds, e2, f1, f2, h⟩ | ⟨p, ds, ps, e1, e2, e3, s1, s2, h⟩)
    · obtain ⟨a, xs, rfl, sq, rl⟩ := seq_in r2 e2
      obtain ⟨ex, fx⟩ := flat_v r1 f1
      obtain ⟨exs, fxs⟩ := flat_vs rl f2
      refine .inr (.inl ⟨a, xs, rfl, sq, fx, fxs, ?_⟩)
      rw [ex, exs]
      exact q.pure Cc h rfl
    rcases seq_dp r2 e2 e3 with d | d
    · exact .inr (.inr (.inl ⟨p, ps, W.dp r1 e1, d, s1, s2, q.pure Cc h rfl⟩))
    · exact .inr (.inr (.inr ⟨p, ps, W.dp r1 e1, d, s1, s2, q.pure Cc h rfl⟩))
  cases x <;> cases y <;> first
    | exact gen h
    | (cases r1; cases r2; exact .inl ⟨_, _, rfl, rfl, by rw [← inS_eq]; exact q.pure Cc h rfl⟩)
theorem pd_in (hr : Room k X.A) (ha : PD X a ta) (hb : PD X b tb) (hm : behindInMarks .In b = false := by rfl) : PD X (.Compare a [.In] [b] pos) (dBin (fIn false) ta tb) :=
  PE.imp (pe_cmpR (op_in_str.or (op_in_seq.or ((op_inD (by have := hr.un; omega)).or (op_inT (by have := hr.un; omega))))) ha hb hm) fun σ H Q h => lift_bin l2_in h
theorem pd_nin (hr : Room k X.A) (ha : PD X a ta) (hb : PD X b tb) (hm : behindInMarks .NotIn b = false := by rfl) : PD X (.Compare a [.NotIn] [b] pos) (dBin (fIn true) ta tb) :=
  PE.imp (pe_cmpR (op_notin_str.or (op_notIn_seq.or ((op_notInD (by have := hr.un; omega)).or (op_ninT (by have := hr.un; omega))))) ha hb hm) fun σ H Q h => lift_bin l2_nin h
theorem l2_isn {K : PySem.W.Frag} : L2f K (fIsN false) (fun x y H Q => y = .non ∧ Q (.bl (decide (x = .non))) H) := by
  intro x y c Φ h H m u v Cc r1 r2 Q q
  have key : y = .non → ∀ b, decide (u = V.non) = b → Φ (.bl b) c → v = .non ∧ Q (.bl (decide (u = .non))) H := fun e b e2 h' => by
    subst e
    exact ⟨r2, by rw [e2]; exact q.pure Cc h' rfl⟩
  cases y <;> first | (cases x <;> exact h.elim) | skip
  refine key rfl _ ?_ (show Φ (.bl (match x with | .non => true | _ => false)) c by cases x <;> first | exact h | exact h.elim)
  cases x <;> first
    | (cases (show u = _ from r1); rfl)
    | (obtain ⟨_, _, rfl, _⟩ := r1; rfl)
    | (obtain ⟨_, _, rfl⟩ := r1; rfl)
    | (obtain ⟨_, _, _, rfl, _⟩ := r1; rfl)
    | (obtain ⟨_, rfl, _⟩ := r1; rfl)
    | exact h.elim
theorem l2_isnn {K : PySem.W.Frag} : L2f K (fIsN true) (fun x y H Q => y = .non ∧ Q (.bl (!decide (x = .non))) H) := by
  intro x y c Φ h H m u v Cc r1 r2 Q q
  have key : y = .non → ∀ b, (!decide (u = V.non)) = b → Φ (.bl b) c → v = .non ∧ Q (.bl (!decide (u = .non))) H := fun e b e2 h' => by
    subst e
    exact ⟨r2, by rw [e2]; exact q.pure Cc h' rfl⟩
  cases y <;> first | (cases x <;> exact h.elim) | skip
  refine key rfl _ ?_ (show Φ (.bl (match x with | .non => false | _ => true)) c by cases x <;> first | exact h | exact h.elim)
  cases x <;> first
    | (cases (show u = _ from r1); rfl)
    | (obtain ⟨_, _, rfl, _⟩ := r1; rfl)
    | (obtain ⟨_, _, rfl⟩ := r1; rfl)
    | (obtain ⟨_, _, _, rfl, _⟩ := r1; rfl)
    | (obtain ⟨_, rfl, _⟩ := r1; rfl)
    | exact h.elim
theorem pd_isn (ha : PD X a ta) (hb : PD X b tb) : PD X (.Compare a [.Is] [b] pos) (dBin (fIsN false) ta tb) := PE.imp (pe_cmpR op_isN ha hb (nomark _)) fun σ H Q h => lift_bin l2_isn h
theorem pd_isnn (ha : PD X a ta) (hb : PD X b tb) : PD X (.Compare a [.IsNot] [b] pos) (dBin (fIsN true) ta tb) := PE.imp (pe_cmpR op_notN ha hb (nomark _)) fun σ H Q h => lift_bin l2_isnn h
/-- a <= b <= c and its like -/
def dChain (f g : F2) (ta tb tc : TD) : TD := fun ρ c Φ => ta ρ c fun x c1 => tb ρ c1 fun y c2 => f (vw c2 x) (vw c2 y) c2 fun z c3 => match z with
  | .bl true => tc ρ c3 fun w c4 => g (vw c4 y) (vw c4 w) c4 Φ
  | .bl false => Φ (.bl false) c3
  | _ => False
theorem lift_chain {K : PySem.W.Frag} {f g : F2} {r r' : R2} {σ : L2.St} {H : Hp} {Q : VK} (lf : L2f K f r) (lg : L2f K g r') (h : lift K (dChain f g ta tb tc) σ H Q) : tChain r r' (lift K ta) (lift K tb) (lift K tc) σ H Q := by
  obtain ⟨m, ρ, c, Φ, S, h, q⟩ := h
  refine ⟨m, ρ, c, _, S, h, fun x c1 u H1 m1 hx C1 R1 L1 => ⟨m1, ρ, c1, _, S.step L1 C1, hx, fun y c2 v H2 m2 hy C2 R2 L2 => ?_⟩⟩
  refine lf _ _ c2 _ hy H2 m2 u v C2 (W.vw C2 (L2.r R1)) (W.vw C2 R2) _ fun d c3 w H3 m3 hd C3 R3 L3 => ?_
  cases d with
  | bl bo =>
    cases bo with
    | true =>
      refine ⟨true, R3, ?_⟩
      rw [if_pos rfl]
      exact ⟨m3, ρ, c3, _, S.step (L1.trans (L2.trans L3)) C3, hd, fun z c4 w4 H4 m4 hz C4 R4 L4 =>
        lg _ _ c4 Φ hz H4 m4 v w4 C4 (W.vw C4 ((L3.trans L4).r R2)) (W.vw C4 R4) Q fun d' c' w' H' m' h' C' R' L' => q d' c' w' H' m' h' C' R' (L1.trans (L2.trans (L3.trans (L4.trans L'))))⟩
    | false =>
      refine ⟨false, R3, ?_⟩
      rw [if_neg (by decide)]
      exact q (.bl false) c3 (.bl false) H3 m3 hd C3 rfl (L1.trans (L2.trans L3))
  | _ => exact hd.elim
variable {cE : Expr}
theorem pd_lele (ha : PD X a ta) (hb : PD X b tb) (hc : PD X cE tc) (hm : lastMarks [.LtE, .LtE] [b, cE] = false := by with_unfolding_all rfl) : PD X (.Compare a [.LtE, .LtE] [b, cE] pos) (dChain fLe fLe ta tb tc) :=
  PE.imp (pe_chain op_le op_le ha hb hc hm) fun σ H Q h => lift_chain l2_cmp l2_cmp h

/-! ### tests -/
def asB (Φ : Bool → List Cell → Prop) : D → List Cell → Prop
  | .bl b, c => Φ b c
  | _, _ => False
def dT (t : TD) : TDt := fun ρ c Φ => t ρ c (asB Φ)
theorem lift_T {K : PySem.W.Frag} {t : TD} {σ : L2.St} {H : Hp} {Q : Bool → Hp → Prop} (h : liftT K (dT t) σ H Q) : lift K t σ H fun x H' => ∃ k, x = .bl k ∧ Q k H' := by
  obtain ⟨m, ρ, c, Φ, S, h, q⟩ := h
  refine ⟨m, ρ, c, asB Φ, S, h, fun d c' v H' m' hd C R L => ?_⟩
  cases d with
  | bl b => cases (show v = .bl b from R); exact ⟨b, rfl, q b c' H' m' hd C L⟩
  | _ => exact hd.elim
/-- an expression that gives a truth value, as a test -/
theorem pdt_val (h : PD X e ta) (he : ∀ whole, isTrue e X.env whole = (do let v ← whole; standAt e.pos; holding [v] (truthy v)) := by intro _; rfl) : PDt X e (dT ta) :=
  PT.imp (pt_val h he) fun σ H Q h => lift_T h
theorem pdt_cmp {op : CmpOp} {f : F2} {r : R2} (ho : OpR X (compareOp op) r) (l : L2f X.K f r) (ha : PD X a ta) (hb : PD X b tb) (hm : behindInMarks op b = false) : PDt X (.Compare a [op] [b] pos) (dT (dBin f ta tb)) :=
  PT.imp (pt_cmpR ho ha hb hm) fun σ H Q h => lift_bin l (lift_T h)
theorem pdt_eq (hr : Room k X.A) (ha : PD X a ta) (hb : PD X b tb) : PDt X (.Compare a [.Eq] [b] pos) (dT (dBin (fEq false) ta tb)) := pdt_cmp (op_eq.or (op_eqD hr.units)) l2_eq ha hb (nomark _)
theorem pdt_ne (hr : Room k X.A) (ha : PD X a ta) (hb : PD X b tb) : PDt X (.Compare a [.NotEq] [b] pos) (dT (dBin (fEq true) ta tb)) := pdt_cmp (op_ne.or (op_neD hr.units)) l2_ne ha hb (nomark _)
theorem pdt_lt (ha : PD X a ta) (hb : PD X b tb) : PDt X (.Compare a [.Lt] [b] pos) (dT (dBin fLt ta tb)) := pdt_cmp op_lt l2_cmp ha hb (nomark _)
theorem pdt_le (ha : PD X a ta) (hb : PD X b tb) : PDt X (.Compare a [.LtE] [b] pos) (dT (dBin fLe ta tb)) := pdt_cmp op_le l2_cmp ha hb (nomark _)
theorem pdt_gt (ha : PD X a ta) (hb : PD X b tb) : PDt X (.Compare a [.Gt] [b] pos) (dT (dBin fGt ta tb)) := pdt_cmp op_gt l2_cmp ha hb (nomark _)
theorem pdt_ge (ha : PD X a ta) (hb : PD X b tb) : PDt X (.Compare a [.GtE] [b] pos) (dT (dBin fGe ta tb)) := pdt_cmp op_ge l2_cmp ha hb (nomark _)
theorem pdt_isn (ha : PD X a ta) (hb : PD X b tb) : PDt X (.Compare a [.Is] [b] pos) (dT (dBin (fIsN false) ta tb)) := pdt_cmp op_isN l2_isn ha hb (nomark _)
theorem pdt_isnn (ha : PD X a ta) (hb : PD X b tb) : PDt X (.Compare a [.IsNot] [b] pos) (dT (dBin (fIsN true) ta tb)) := pdt_cmp op_notN l2_isnn ha hb (nomark _)
theorem pdt_in (hr : Room k X.A) (ha : PD X a ta) (hb : PD X b tb) (hm : behindInMarks .In b = false := by rfl) : PDt X (.Compare a [.In] [b] pos) (dT (dBin (fIn false) ta tb)) :=
  pdt_cmp (op_in_str.or (op_in_seq.or ((op_inD (by have := hr.un; omega)).or (op_inT (by have := hr.un; omega))))) l2_in ha hb hm
theorem pdt_nin (hr : Room k X.A) (ha : PD X a ta) (hb : PD X b tb) (hm : behindInMarks .NotIn b = false := by rfl) : PDt X (.Compare a [.NotIn] [b] pos) (dT (dBin (fIn true) ta tb)) :=
  pdt_cmp (op_notin_str.or (op_notIn_seq.or ((op_notInD (by have := hr.un; omega)).or (op_ninT (by have := hr.un; omega))))) l2_nin ha hb hm
theorem pdt_lele (ha : PD X a ta) (hb : PD X b tb) (hc : PD X cE tc) (hm : lastMarks [.LtE, .LtE] [b, cE] = false := by with_unfolding_all rfl) : PDt X (.Compare a [.LtE, .LtE] [b, cE] pos) (dT (dChain fLe fLe ta tb tc)) :=
  PT.imp (pt_chain op_le op_le ha hb hc hm) fun σ H Q h => lift_chain l2_cmp l2_cmp (lift_T h)
/- and, or, not, as tests -/
variable {tA tB : TDt} {rest : List Expr}
def dOr (t u : TDt) : TDt := fun ρ c Φ => t ρ c fun b c1 => match b with | true => Φ true c1 | false => u ρ c1 Φ
def dAnd (t u : TDt) : TDt := fun ρ c Φ => t ρ c fun b c1 => match b with | true => u ρ c1 Φ | false => Φ false c1
def dNot (t : TDt) : TDt := fun ρ c Φ => t ρ c fun b c1 => Φ (!b) c1
abbrev PDw (X : Cx) (e : Expr) (t : TDt) : Prop := PW X e (liftT X.K t)
theorem PDw.pt (h : PDw X e tA) : PDt X e tA := PW.pt h
theorem pdw_or1 (ha : PDt X a tA) : PDw X (.BoolOp .Or [a] pos) tA := pw_or1 ha
theorem pdw_and1 (ha : PDt X a tA) : PDw X (.BoolOp .And [a] pos) tA := pw_and1 ha
theorem pdw_or (ha : PDt X a tA) (hb : PDw X (.BoolOp .Or (b :: rest) pos) tB) : PDw X (.BoolOp .Or (a :: b :: rest) pos) (dOr tA tB) := PW.imp (pw_or ha hb) fun σ H Q ⟨m, ρ, c, Φ, S, h, q⟩ =>
  ⟨m, ρ, c, _, S, h, fun b c1 H1 m1 hx C1 L1 => by
    cases b with
    | true => exact q true c1 H1 m1 hx C1 L1
    | false => exact ⟨m1, ρ, c1, Φ, S.step L1 C1, hx, fun b' c' H' m' h' C' L' => q b' c' H' m' h' C' (L1.trans L')⟩⟩
theorem pdw_and (ha : PDt X a tA) (hb : PDw X (.BoolOp .And (b :: rest) pos) tB) : PDw X (.BoolOp .And (a :: b :: rest) pos) (dAnd tA tB) := PW.imp (pw_and ha hb) fun σ H Q ⟨m, ρ, c, Φ, S, h, q⟩ =>
  ⟨m, ρ, c, _, S, h, fun b c1 H1 m1 hx C1 L1 => by
    cases b with
    | false => exact q false c1 H1 m1 hx C1 L1
    | true => exact ⟨m1, ρ, c1, Φ, S.step L1 C1, hx, fun b' c' H' m' h' C' L' => q b' c' H' m' h' C' (L1.trans L')⟩⟩
theorem pdt_not (ha : PDt X a tA) : PDt X (.UnaryOp .Not a pos) (dNot tA) := PT.imp (pt_not ha) fun σ H Q ⟨m, ρ, c, Φ, S, h, q⟩ =>
  ⟨m, ρ, c, _, S, h, fun b c1 H1 m1 hx C1 L1 => q (!b) c1 H1 m1 hx C1 L1⟩
/-- .. as values -/
def dAndV (t u : TD) : TD := fun ρ c Φ => t ρ c fun d c1 => match d with | .bl true => u ρ c1 Φ | .bl false => Φ (.bl false) c1 | _ => False
def dOrV (t u : TD) : TD := fun ρ c Φ => t ρ c fun d c1 => match d with | .bl true => Φ (.bl true) c1 | .bl false => u ρ c1 Φ | _ => False
def dNotV (t : TD) : TD := fun ρ c Φ => t ρ c fun d c1 => match d with | .bl b => Φ (.bl (!b)) c1 | _ => False
theorem pd_one {op} (h : PD X a ta) : PD X (.BoolOp op [a] pos) ta := pe_one h
theorem pd_and (ha : PD X a ta) (hb : PD X (.BoolOp .And (b :: rest) pos) tb) : PD X (.BoolOp .And (a :: b :: rest) pos) (dAndV ta tb) := PE.imp (pe_and ha hb) fun σ H Q ⟨m, ρ, c, Φ, S, h, q⟩ =>
  ⟨m, ρ, c, _, S, h, fun d c1 v H1 m1 hx C1 R1 L1 => by
    cases d with
    | bl bo =>
      refine ⟨bo, R1, ?_⟩
      cases bo with
      | true => rw [if_pos rfl]; exact ⟨m1, ρ, c1, Φ, S.step L1 C1, hx, fun d' c' v' H' m' h' C' R' L' => q d' c' v' H' m' h' C' R' (L1.trans L')⟩
      | false => rw [if_neg (by decide)]; exact q _ c1 _ H1 m1 hx C1 rfl L1
    | _ => exact hx.elim⟩
theorem pd_or (ha : PD X a ta) (hb : PD X (.BoolOp .Or (b :: rest) pos) tb) : PD X (.BoolOp .Or (a :: b :: rest) pos) (dOrV ta tb) := PE.imp (pe_or ha hb) fun σ H Q ⟨m, ρ, c, Φ, S, h, q⟩ =>
  ⟨m, ρ, c, _, S, h, fun d c1 v H1 m1 hx C1 R1 L1 => by
    cases d with
    | bl bo =>
      refine ⟨bo, R1, ?_⟩
      cases bo with
      | true => rw [if_pos rfl]; exact q _ c1 _ H1 m1 hx C1 rfl L1
      | false => rw [if_neg (by decide)]; exact ⟨m1, ρ, c1, Φ, S.step L1 C1, hx, fun d' c' v' H' m' h' C' R' L' => q d' c' v' H' m' h' C' R' (L1.trans L')⟩
    | _ => exact hx.elim⟩
theorem pd_not (ha : PD X a ta) : PD X (.UnaryOp .Not a pos) (dNotV ta) := PE.imp (pe_not ha) fun σ H Q ⟨m, ρ, c, Φ, S, h, q⟩ =>
  ⟨m, ρ, c, _, S, h, fun d c1 v H1 m1 hx C1 R1 L1 => by
    cases d with
    | bl bo => exact ⟨bo, R1, q _ c1 _ H1 m1 hx C1 rfl L1⟩
    | _ => exact hx.elim⟩
def dNeg (t : TD) : TD := fun ρ c Φ => t ρ c fun d c1 => match d with | .int i => Φ (.int (-i)) c1 | _ => False
theorem pd_neg (ha : PD X a ta) : PD X (.UnaryOp .USub a pos) (dNeg ta) := PE.imp (pe_un un_neg ha) fun σ H Q ⟨m, ρ, c, Φ, S, h, q⟩ =>
  ⟨m, ρ, c, _, S, h, fun d c1 v H1 m1 hx C1 R1 L1 => by
    cases d with
    | int i => exact ⟨i, R1, q _ c1 _ H1 m1 hx C1 rfl L1⟩
    | _ => exact hx.elim⟩
/-- a if t else b -/
def dIf (t : TDt) (ta tb : TD) : TD := fun ρ c Φ => t ρ c fun b c1 => match b with | true => ta ρ c1 Φ | false => tb ρ c1 Φ
theorem pd_if {cE : Expr} (hc : PDt X cE tA) (ha : PD X a ta) (hb : PD X b tb) : PD X (.IfExp cE a b pos) (dIf tA ta tb) := PE.imp (pe_ifExp hc ha hb) fun σ H Q ⟨m, ρ, c, Φ, S, h, q⟩ =>
  ⟨m, ρ, c, _, S, h, fun b c1 H1 m1 hx C1 L1 => by
    cases b with
    | true => rw [if_pos rfl]; exact ⟨m1, ρ, c1, Φ, S.step L1 C1, hx, fun d' c' v' H' m' h' C' R' L' => q d' c' v' H' m' h' C' R' (L1.trans L')⟩
    | false => rw [if_neg (by decide)]; exact ⟨m1, ρ, c1, Φ, S.step L1 C1, hx, fun d' c' v' H' m' h' C' R' L' => q d' c' v' H' m' h' C' R' (L1.trans L')⟩⟩
end
end Cw

namespace Cw
open PySem PySem.Spec PyProof.Rows L2

/-! ### a[i], a[i:j] -/
def fIx : F2
  | .str z, .int i, c, Φ => z.length ≤ sizeLine ∧ match atI z.cps.toList i with
    | some k => Φ (.str ⟨#[k]⟩) c
    | none => False
  | x, .int i, c, Φ => match seqOf x with
    | some ds => (match atI ds i with
      | some d => Φ d c
      | none => False)
    | none => False
  | _, _, _, _ => False
def cutD {α : Type} (xs : List α) (lo hi : Option Int) : List α := (xs.drop (HT.sIx xs.length 0 lo)).take (HT.sIx xs.length xs.length hi - HT.sIx xs.length 0 lo)
def fSl (x : D) (lo hi : Option Int) (c : List Cell) (Φ : D → List Cell → Prop) : Prop := match x with
  | .str z => z.length ≤ sizeLine ∧ Φ (.str (cutS z lo hi)) c
  | .tup ds => Φ (.tup (cutD ds lo hi)) c
  | .lst ds => Φ (.lst (cutD ds lo hi)) c
  | .fl ds => Φ (.lst (cutD ds lo hi)) c
  | _ => False
abbrev TDo := Env → List Cell → (Option Int → List Cell → Prop) → Prop
def liftO (K : PySem.W.Frag) (t : TDo) : TO := fun σ H Q => ∃ (m : Ad) (ρ : Env) (c : List Cell) (Φ : Option Int → List Cell → Prop), SR K σ H m ρ c ∧ t ρ c Φ ∧
  ∀ b c' H' m', Φ b c' → CR K H' m' c' → Le m H m' H' → Q b H'
def dNoPart : TDo := fun _ c Φ => Φ none c
def dPart (t : TD) : TDo := fun ρ c Φ => t ρ c fun d c1 => match d with | .int i => Φ (some i) c1 | _ => False
def dSl (ta : TD) (tl th : TDo) : TD := fun ρ c Φ => ta ρ c fun x c1 => tl ρ c1 fun l c2 => th ρ c2 fun u c3 => fSl (vw c3 x) l u c3 Φ
section
variable {X : Cx} {a b e : Expr} {es : List Expr} {ta tb : TD} {tas : TDs} {pos p2 : Pos} {k : Nat} {lo hi : Option Expr} {tl th : TDo}
theorem RL.atI {K : PySem.W.Frag} {m : List Addr} {H : Hp} {ds : List D} {xs : List V} {i : Int} {d : D} (h : RL K m H ds xs) (e : L2.atI ds i = some d) : ∃ x, L2.atI xs i = some x ∧ R K m H d x := by
  unfold L2.atI at e ⊢
  rw [rlen h]
  cases hi : ixN ds.length i with
  | none => rw [hi] at e; cases e
  | some j =>
    rw [hi] at e
    obtain ⟨x, h1, h2⟩ := RL.get (i := j) h e
    exact ⟨x, h1, h2⟩
theorem seq_view {K : PySem.W.Frag} {m : Ad} {H : Hp} {x : D} {u : V} {ds : List D} (r : W K H m x u) (e : seqOf x = some ds) : ∃ p xs, u = .ref p ∧ (SqL K H p xs ∨ SqT K H p xs) ∧ RRL K H m ds xs := by
  cases x <;> first | (cases e; done) | skip
  · cases e; obtain ⟨p, xs, e1, h1, h2⟩ := r; exact ⟨p, xs, e1, .inr (ex_t (ex_hid m H) h1), h2⟩
  · cases e; obtain ⟨p, xs, e1, h1, h2⟩ := r; exact ⟨p, xs, e1, .inl (SqL.of h1), h2⟩
  · cases e; obtain ⟨p, xs, e1, h1, h2⟩ := r; exact ⟨p, xs, e1, .inl (ex_l (ex_hid m H) h1), h2⟩
theorem l2_ix {K : PySem.W.Frag} : L2f K fIx (rIx K) := by
  intro x y c Φ h H m u v Cc r1 r2 Q q
  have gen : ∀ i : Int, y = .int i → (match seqOf x with
    | some ds => (match atI ds i with
      | some d => Φ d c
      | none => False)
    | none => False) → rIx K u v H Q := by
    rintro i rfl h
    cases e1 : seqOf x with
    | none => rw [e1] at h; exact h.elim
    | some ds =>
      rw [e1] at h
      cases e2 : atI ds i with
      | none => simp only [e2] at h
      | some d =>
        simp only [e2] at h
        obtain ⟨p, xs, rfl, sq, rl⟩ := seq_view r1 e1
        obtain ⟨w, h3, h4⟩ := RL.atI rl e2
        rcases sq with sq | sq
        · exact .inl ⟨p, xs, i, w, rfl, r2, sq, h3, q.pure Cc h h4⟩
        · exact .inr (.inl ⟨p, xs, i, w, rfl, r2, sq, h3, q.pure Cc h h4⟩)
  cases y <;> first | (cases x <;> exact h.elim) | skip
  rename_i i
  cases x <;> first
    | exact gen i rfl h
    | (rename_i z
       cases (show u = V.str z from r1)
       obtain ⟨hz, h⟩ := h
       cases e : atI z.cps.toList i with
       | none => simp only [e] at h
       | some kk => simp only [e] at h; exact .inr (.inr ⟨z, i, kk, rfl, r2, hz, e, q.pure Cc h rfl⟩))
theorem pd_ix (ha : PD X a ta) (hb : PD X b tb) (hs : PlainIx b := by exact fun _ _ => rfl) : PD X (.Subscript a b pos) (dBin fIx ta tb) := PE.imp (pe_ix ix_seq ha hb hs) fun σ H Q h => lift_bin l2_ix h
theorem po_no : PO X none (liftO X.K dNoPart) := ⟨fun pins s σ H Q I h => po_none.run pins s σ H Q I (by obtain ⟨m, ρ, c, Φ, S, h, q⟩ := h; exact q none c H m h S.cr (Le.refl _ _))⟩
theorem po_so (h : PD X e ta) : PO X (some e) (liftO X.K (dPart ta)) := ⟨fun pins s σ H Q I h' => (po_some h).run pins s σ H Q I (by
  obtain ⟨m, ρ, c, Φ, S, h, q⟩ := h'
  exact ⟨m, ρ, c, _, S, h, fun d c1 v H1 m1 hx C1 R1 L1 => by
    cases d with
    | int i => exact ⟨i, R1, q _ c1 H1 m1 hx C1 L1⟩
    | _ => exact hx.elim⟩)⟩
theorem RL.cut {K : PySem.W.Frag} {m : List Addr} {H : Hp} {ds : List D} {xs : List V} {lo hi : Option Int} (h : RL K m H ds xs) : RL K m H (cutD ds lo hi) (cutV xs lo hi) := by
  unfold cutD cutV
  rw [rlen h]
  exact RL.take _ (RL.drop _ h)
theorem pd_sl (ha : PD X a ta) (hl : PO X lo (liftO X.K tl)) (hh : PO X hi (liftO X.K th)) : PD X (.Subscript a (.Slice lo hi none p2) pos) (dSl ta tl th) :=
  PE.imp (pe_slice (sl_list.or (sl_str.or sl_tupA)) ha hl hh) fun σ H Q ⟨m, ρ, c, Φ, S, h, q⟩ =>
  ⟨m, ρ, c, _, S, h, fun x c1 u H1 m1 hx C1 R1 L1 => ⟨m1, ρ, c1, _, S.step L1 C1, hx, fun l c2 H2 m2 hl C2 L2 => ⟨m2, ρ, c2, _, S.step (L1.trans L2) C2, hl, fun r c3 H3 m3 hr C3 L3 => by
    have w := W.vw C3 ((L2.trans L3).r R1)
    have L := L1.trans (L2.trans L3)
    have q' : KQ X.K H3 m3 Φ Q := fun d c' w H' m' hd C' R' L' => q d c' w H' m' hd C' R' (L.trans L')
    revert hr w
    generalize vw c3 x = x'
    intro hr w
    cases x' <;> first | exact hr.elim | skip
    · cases (show u = _ from w); exact .inr (.inl ⟨_, rfl, hr.1, q'.pure C3 hr.2 rfl⟩)
    · obtain ⟨p, xs, rfl, h1, h2⟩ := w
      refine .inr (.inr ⟨p, xs, rfl, ex_t (ex_hid m3 H3) h1, fun e => ?_, fun _ t ht => KQ.newT (X := X) q' C3 hr (RL.cut h2) ht⟩)
      have z : cutV xs l r = xs := by
        unfold cutV
        rw [e.1, e.2]
        simp
      have z2 := RL.cut (lo := l) (hi := r) h2
      rw [z] at z2
      exact q'.pure C3 hr ⟨p, xs, rfl, h1, z2⟩
    · obtain ⟨p, xs, rfl, h1, h2⟩ := w
      exact .inl ⟨p, xs, rfl, SqL.of h1, fun t ht => KQ.newL (X := X) q' C3 hr (RL.cut h2) ht⟩
    · obtain ⟨p, xs, rfl, h1, h2⟩ := w
      exact .inl ⟨p, xs, rfl, ex_l (ex_hid m3 H3) h1, fun t ht => KQ.newL (X := X) q' C3 hr (RL.cut h2) ht⟩⟩⟩⟩

end
end Cw

namespace Cw
open PySem PySem.Spec PyProof.Rows L2

/-! ### built-in functions -/
def un1 (f : F1) : Fs
  | [x], c, Φ => f x c Φ
  | _, _, _ => False
def un2 (f : F2) : Fs
  | [x, y], c, Φ => f x y c Φ
  | _, _, _ => False
theorem p1 {α β : Type} {F : α → β → Prop} {x : α} {us : List β} (h : Paired F [x] us) : ∃ u, us = [u] ∧ F x u := by
  cases h with | cons r t => cases t; exact ⟨_, rfl, r⟩
theorem p2' {α β : Type} {F : α → β → Prop} {x y : α} {us : List β} (h : Paired F [x, y] us) : ∃ u v, us = [u, v] ∧ F x u ∧ F y v := by
  cases h with | cons r t => cases t with | cons r2 t2 => cases t2; exact ⟨_, _, rfl, r, r2⟩
theorem lsf1 {K : PySem.W.Frag} {f : F1} {r : List V → Hp → VK → Prop} (h : L1f K f (fun u H Q => r [u] H Q)) : Lsf K (un1 f) r := by
  intro xs c Φ hx H m us C p Q q
  cases xs with
  | nil => exact hx.elim
  | cons x t =>
    cases t with
    | cons _ _ => exact hx.elim
    | nil => obtain ⟨u, rfl, r1⟩ := p1 p; exact h x c Φ hx H m u C r1 Q q
theorem lsf2 {K : PySem.W.Frag} {f : F2} {r : List V → Hp → VK → Prop} (h : L2f K f (fun u v H Q => r [u, v] H Q)) : Lsf K (un2 f) r := by
  intro xs c Φ hx H m us C p Q q
  cases xs with
  | nil => exact hx.elim
  | cons x t =>
    cases t with
    | nil => exact hx.elim
    | cons y t =>
      cases t with
      | cons _ _ => exact hx.elim
      | nil => obtain ⟨u, v, rfl, r1, r2⟩ := p2' p; exact h x y c Φ hx H m u v C r1 r2 Q q
theorem CallR.or {X : Cx} {f : Value} {r r' : List V → Hp → VK → Prop} (h : CallR X f r) (h' : CallR X f r') : CallR X f (fun xs H Q => r xs H Q ∨ r' xs H Q) := by
  intro pins s σ H xs us Q I rs q
  rcases q with q | q
  · exact h pins s σ H xs us Q I rs q
  · exact h' pins s σ H xs us Q I rs q
def fLen : F1
  | .str x, c, Φ => x.length ≤ sizeLine ∧ Φ (.int x.length) c
  | .tup ds, c, Φ => Φ (.int ds.length) c
  | .lst ds, c, Φ => Φ (.int ds.length) c
  | .fl ds, c, Φ => Φ (.int ds.length) c
  | _, _, _ => False
def fInt : F1
  | .int i, c, Φ => Φ (.int i) c
  | .str x, c, Φ => x.length ≤ 640 ∧ ∃ n, PySem.intText? x = some n ∧ Φ (.int n) c
  | _, _, _ => False
def fStr : F1
  | .int i, c, Φ => i.natAbs.log2 < 1920 ∧ Φ (.str (toString i)) c
  | .str x, c, Φ => Φ (.str x) c
  | _, _, _ => False
def fAbs : F1
  | .int i, c, Φ => Φ (.int (if i < 0 then -i else i)) c
  | _, _, _ => False
def fTuple : F1
  | .tup ds, c, Φ => Φ (.tup ds) c
  | .lst ds, c, Φ => Φ (.tup ds) c
  | .fl ds, c, Φ => Φ (.tup ds) c
  | _, _, _ => False
def fList : F1
  | .tup ds, c, Φ => Φ (.lst ds) c
  | .lst ds, c, Φ => Φ (.lst ds) c
  | .fl ds, c, Φ => Φ (.lst ds) c
  | _, _, _ => False
def fMax : F2
  | .int i, .int j, c, Φ => Φ (.int (if j > i then j else i)) c
  | _, _, _, _ => False
def fMin : F2
  | .int i, .int j, c, Φ => Φ (.int (if j < i then j else i)) c
  | _, _, _, _ => False
def fDivmod : F2
  | .int i, .int j, c, Φ => (0 < j ∧ j < 1073741824) ∧ Φ (.tup [.int (i / j), .int (i % j)]) c
  | _, _, _, _ => False
def bls : List D → Option (List Bool)
  | [] => some []
  | .bl b :: r => (bls r).map (b :: ·)
  | _ => none
def fAll : F1
  | .lst ds, c, Φ => ∃ bs, bls ds = some bs ∧ Φ (.bl (bs.all id)) c
  | _, _, _ => False
def fAny : F1
  | .lst ds, c, Φ => ∃ bs, bls ds = some bs ∧ Φ (.bl (bs.any id)) c
  | _, _, _ => False
theorem bls_map {K : PySem.W.Frag} {m : List Addr} {H : Hp} : ∀ (ds : List D) (xs : List V) (bs : List Bool), RL K m H ds xs → bls ds = some bs → xs = bs.map V.bl
  | [], _, _, h, e => by cases e; exact h
  | d :: ds, _, bs, ⟨x, r, e1, h1, h2⟩, e => by
    subst e1
    cases d with
    | bl b =>
      change (bls ds).map (b :: ·) = some bs at e
      cases e2 : bls ds with
      | none => rw [e2] at e; cases e
      | some cs => rw [e2] at e; cases e; cases (show x = V.bl b from h1); rw [bls_map ds r cs h2 e2]; rfl
    | _ => cases e
section
variable {X : Cx} {e e2 : Expr} {ta tb : TD} {pos pp : Pos}
theorem l1_len {K : PySem.W.Frag} : L1f K fLen (fun u H Q => ∃ x n, [u] = [x] ∧ LenV K x H n ∧ Q (.int n) H) := by
  intro x c Φ h H m u C r Q q
  cases x <;> first | exact h.elim | skip
  · cases (show u = _ from r); exact ⟨_, _, rfl, ⟨h.1, rfl⟩, q.pure C h.2 rfl⟩
  · obtain ⟨p, xs, rfl, h1, h2⟩ := r
    exact ⟨.ref p, xs.length, rfl, .inr ⟨xs, ex_t (ex_hid m H) h1, rfl⟩, by rw [rlen h2]; exact q.pure C h rfl⟩
  · obtain ⟨p, xs, rfl, h1, h2⟩ := r
    exact ⟨.ref p, xs.length, rfl, .inl ⟨xs, SqL.of h1, rfl⟩, by rw [rlen h2]; exact q.pure C h rfl⟩
  · obtain ⟨p, xs, rfl, h1, h2⟩ := r
    exact ⟨.ref p, xs.length, rfl, .inl ⟨xs, ex_l (ex_hid m H) h1, rfl⟩, by rw [rlen h2]; exact q.pure C h rfl⟩
theorem pd_B1 {name id : String} {f : F1} {r : List V → Hp → VK → Prop} (cr : CallR X (.builtin id) r) (l : L1f X.K f (fun u H Q => r [u] H Q)) (hv : bootBuiltins (Str.ofString name) = some (.builtin id)) (hn : Str.ofString name ≠ "__name__") (hd : (Str.ofString name == ("__debug__" : Str)) = false)
    (ha : PD X e ta) (hg : Gl X (Str.ofString name)) (hm : X.mg (Str.ofString name) = none) (he : starEach [e] X.env = (false, eval e X.env) :: starEach [] X.env) (hpl : (backTo pos (starEach [] X.env)).any (·.1) = false) :
    PD X (.Call (.Name (Str.ofString name) pp) [e] [] pos) (dCB (un1 f) (dCons ta dNil)) := PE.imp (pe_callB cr hg hm hv (pds_cons ha pds_nil he) hn hd he hpl) fun σ H Q h => lift_cb (lsf1 l) h
theorem pd_T1 {name id : String} {f : F1} {r : List V → Hp → VK → Prop} (cr : CallR X (.type id) r) (l : L1f X.K f (fun u H Q => r [u] H Q)) (hv : bootBuiltins (Str.ofString name) = some (.type id)) (hn : Str.ofString name ≠ "__name__") (hd : (Str.ofString name == ("__debug__" : Str)) = false)
    (ha : PD X e ta) (hg : Gl X (Str.ofString name)) (hm : X.mg (Str.ofString name) = none) (he : starEach [e] X.env = (false, eval e X.env) :: starEach [] X.env) (hpl : (backTo pos (starEach [] X.env)).any (·.1) = false) :
    PD X (.Call (.Name (Str.ofString name) pp) [e] [] pos) (dCB (un1 f) (dCons ta dNil)) := PE.imp (pe_callTy cr hg hm hv (pds_cons ha pds_nil he) hn hd he hpl) fun σ H Q h => lift_cb (lsf1 l) h
theorem pd_B2 {name id : String} {f : F2} {r : List V → Hp → VK → Prop} (cr : CallR X (.builtin id) r) (l : L2f X.K f (fun u v H Q => r [u, v] H Q)) (hv : bootBuiltins (Str.ofString name) = some (.builtin id)) (hn : Str.ofString name ≠ "__name__") (hd : (Str.ofString name == ("__debug__" : Str)) = false)
    (ha : PD X e ta) (hb : PD X e2 tb) (hg : Gl X (Str.ofString name)) (hm : X.mg (Str.ofString name) = none) (he : starEach [e, e2] X.env = (false, eval e X.env) :: starEach [e2] X.env) (he2 : starEach [e2] X.env = (false, eval e2 X.env) :: starEach [] X.env) (hpl : (backTo pos (starEach [e2] X.env)).any (·.1) = false) :
    PD X (.Call (.Name (Str.ofString name) pp) [e, e2] [] pos) (dCB (un2 f) (dCons ta (dCons tb dNil))) := PE.imp (pe_callB cr hg hm hv (pds_cons ha (pds_cons hb pds_nil he2) he) hn hd he hpl) fun σ H Q h => lift_cb (lsf2 l) h
theorem l1_int {K : PySem.W.Frag} : L1f K fInt (fun u H Q => ((∃ i, [u] = [.int i] ∧ Q (.int i) H) ∨ ∃ k, [u] = [.bl k] ∧ Q (.int (if k then 1 else 0)) H) ∨ (∃ a n, [u] = [.str a] ∧ PySem.intText? a = some n ∧ a.length ≤ 640 ∧ Q (.int n) H)) := by
  intro x c Φ h H m u C r Q q
  cases x <;> first | exact h.elim | skip
  · cases (show u = _ from r); exact .inl (.inl ⟨_, rfl, q.pure C h rfl⟩)
  · cases (show u = _ from r)
    obtain ⟨hz, n, e, h⟩ := h
    exact .inr ⟨_, n, rfl, e, hz, q.pure C h rfl⟩
theorem l1_str {K : PySem.W.Frag} : L1f K fStr (fun u H Q => (∃ i, [u] = [.int i] ∧ i.natAbs.log2 < 1920 ∧ Q (.str (toString i)) H) ∨ (∃ a, [u] = [.str a] ∧ Q (.str a) H)) := by
  intro x c Φ h H m u C r Q q
  cases x <;> first | exact h.elim | skip
  · cases (show u = _ from r); exact .inl ⟨_, rfl, h.1, q.pure C h.2 rfl⟩
  · cases (show u = _ from r); exact .inr ⟨_, rfl, q.pure C h rfl⟩
theorem l1_abs {K : PySem.W.Frag} : L1f K fAbs (fun u H Q => ∃ i, [u] = [.int i] ∧ Q (.int (if i < 0 then -i else i)) H) := by
  intro x c Φ h H m u C r Q q
  cases x <;> first | exact h.elim | skip
  cases (show u = _ from r); exact ⟨_, rfl, q.pure C h rfl⟩
theorem l2_max {K : PySem.W.Frag} : L2f K fMax (fun u v H Q => ∃ i j, [u, v] = [.int i, .int j] ∧ Q (.int (if j > i then j else i)) H) := by
  intro x y c Φ h H m u v C r1 r2 Q q
  cases x <;> cases y <;> first | exact h.elim | skip
  cases (show u = _ from r1); cases (show v = _ from r2); exact ⟨_, _, rfl, q.pure C h rfl⟩
theorem l2_min {K : PySem.W.Frag} : L2f K fMin (fun u v H Q => ∃ i j, [u, v] = [.int i, .int j] ∧ Q (.int (if j < i then j else i)) H) := by
  intro x y c Φ h H m u v C r1 r2 Q q
  cases x <;> cases y <;> first | exact h.elim | skip
  cases (show u = _ from r1); cases (show v = _ from r2); exact ⟨_, _, rfl, q.pure C h rfl⟩
theorem l2_divmod {X : Cx} : L2f X.K fDivmod (fun u v H Q => ∃ i j, [u, v] = [.int i, .int j] ∧ CDiv i j ∧ ∀ p, H p = none → Q (.ref p) (upd H p (.tup [.int (i / j), .int (i % j)]))) := by
  intro x y c Φ h H m u v C r1 r2 Q q
  cases x <;> cases y <;> first | exact h.elim | skip
  cases (show u = _ from r1); cases (show v = _ from r2)
  exact ⟨_, _, rfl, h.1, fun t ht => KQ.newT (X := X) q C h.2 ⟨_, _, rfl, rfl, _, _, rfl, rfl, rfl⟩ ht⟩
theorem l1_tuple {X : Cx} : L1f X.K fTuple (fun u H Q => ∃ p ys, [u] = [.ref p] ∧ ((SqL X.K H p ys ∧ ∀ l, H l = none → Q (.ref l) (upd H l (.tup ys))) ∨ (SqT X.K H p ys ∧ Q (.ref p) H))) := by
  intro x c Φ h H m u C r Q q
  cases x <;> first | exact h.elim | skip
  · obtain ⟨p, xs, rfl, h1, h2⟩ := r
    exact ⟨p, xs, rfl, .inr ⟨ex_t (ex_hid m H) h1, q.pure C h ⟨p, xs, rfl, h1, h2⟩⟩⟩
  · obtain ⟨p, xs, rfl, h1, h2⟩ := r
    exact ⟨p, xs, rfl, .inl ⟨SqL.of h1, fun t ht => KQ.newT (X := X) q C h h2 ht⟩⟩
  · obtain ⟨p, xs, rfl, h1, h2⟩ := r
    exact ⟨p, xs, rfl, .inl ⟨ex_l (ex_hid m H) h1, fun t ht => KQ.newT (X := X) q C h h2 ht⟩⟩
theorem l1_list {X : Cx} : L1f X.K fList (fun u H Q => ∃ p ys, [u] = [.ref p] ∧ (SqL X.K H p ys ∨ SqT X.K H p ys) ∧ ∀ l, H l = none → Q (.ref l) (upd H l (.lst ys))) := by
  intro x c Φ h H m u C r Q q
  cases x <;> first | exact h.elim | skip
  · obtain ⟨p, xs, rfl, h1, h2⟩ := r
    exact ⟨p, xs, rfl, .inr (ex_t (ex_hid m H) h1), fun t ht => KQ.newL (X := X) q C h h2 ht⟩
  · obtain ⟨p, xs, rfl, h1, h2⟩ := r
    exact ⟨p, xs, rfl, .inl (SqL.of h1), fun t ht => KQ.newL (X := X) q C h h2 ht⟩
  · obtain ⟨p, xs, rfl, h1, h2⟩ := r
    exact ⟨p, xs, rfl, .inl (ex_l (ex_hid m H) h1), fun t ht => KQ.newL (X := X) q C h h2 ht⟩
theorem l1_all {K : PySem.W.Frag} : L1f K fAll (fun u H Q => rAll K [u] H Q) := by
  intro x c Φ h H m u C r Q q
  cases x <;> first | exact h.elim | skip
  obtain ⟨p, xs, rfl, h1, h2⟩ := r
  obtain ⟨bs, e, h⟩ := h
  exact ⟨p, bs, rfl, SqL.of (by rw [h1, bls_map _ _ _ h2 e]), q.pure C h rfl⟩
theorem l1_any {K : PySem.W.Frag} : L1f K fAny (fun u H Q => rAny K [u] H Q) := by
  intro x c Φ h H m u C r Q q
  cases x <;> first | exact h.elim | skip
  obtain ⟨p, xs, rfl, h1, h2⟩ := r
  obtain ⟨bs, e, h⟩ := h
  exact ⟨p, bs, rfl, SqL.of (by rw [h1, bls_map _ _ _ h2 e]), q.pure C h rfl⟩
end
end Cw

namespace Cw
open PySem PySem.Spec PyProof.Rows L2
section
variable {X : Cx} {e e2 o : Expr} {ta tb : TD} {pos pp apos : Pos}
theorem pd_len (ha : PD X e ta) (hm : X.mg "len" = none) (hg : Gl X "len" := by rfl) (he : starEach [e] X.env = (false, eval e X.env) :: starEach [] X.env := by rfl) (hpl : (backTo pos (starEach [] X.env)).any (·.1) = false := by rfl) :
    PD X (.Call (.Name "len" pp) [e] [] pos) (dCB (un1 fLen) (dCons ta dNil)) := pd_B1 call_len l1_len boot_len (by decide) (by decide) ha hg hm he hpl
theorem pd_intc (ha : PD X e ta) (hm : X.mg "int" = none) (hg : Gl X "int" := by rfl) (he : starEach [e] X.env = (false, eval e X.env) :: starEach [] X.env := by rfl) (hpl : (backTo pos (starEach [] X.env)).any (·.1) = false := by rfl) :
    PD X (.Call (.Name "int" pp) [e] [] pos) (dCB (un1 fInt) (dCons ta dNil)) := pd_T1 (CallR.or call_int1 call_int_str) l1_int boot_int (by decide) (by decide) ha hg hm he hpl
theorem pd_strc (ha : PD X e ta) (hm : X.mg "str" = none) (hg : Gl X "str" := by rfl) (he : starEach [e] X.env = (false, eval e X.env) :: starEach [] X.env := by rfl) (hpl : (backTo pos (starEach [] X.env)).any (·.1) = false := by rfl) :
    PD X (.Call (.Name "str" pp) [e] [] pos) (dCB (un1 fStr) (dCons ta dNil)) := pd_T1 (CallR.or call_str_int SkE.call_str_str) l1_str boot_str (by decide) (by decide) ha hg hm he hpl
theorem pd_abs (ha : PD X e ta) (hm : X.mg "abs" = none) (hg : Gl X "abs" := by rfl) (he : starEach [e] X.env = (false, eval e X.env) :: starEach [] X.env := by rfl) (hpl : (backTo pos (starEach [] X.env)).any (·.1) = false := by rfl) :
    PD X (.Call (.Name "abs" pp) [e] [] pos) (dCB (un1 fAbs) (dCons ta dNil)) := pd_B1 call_abs l1_abs boot_abs (by decide) (by decide) ha hg hm he hpl
theorem pd_max (hc : X.calm = true) (ha : PD X e ta) (hb : PD X e2 tb) (hm : X.mg "max" = none) (hg : Gl X "max" := by rfl) (he : starEach [e, e2] X.env = (false, eval e X.env) :: starEach [e2] X.env := by rfl) (he2 : starEach [e2] X.env = (false, eval e2 X.env) :: starEach [] X.env := by rfl) (hpl : (backTo pos (starEach [e2] X.env)).any (·.1) = false := by rfl) :
    PD X (.Call (.Name "max" pp) [e, e2] [] pos) (dCB (un2 fMax) (dCons ta (dCons tb dNil))) := pd_B2 (call_max2 hc) l2_max boot_max (by decide) (by decide) ha hb hg hm he he2 hpl
theorem pd_min (hc : X.calm = true) (ha : PD X e ta) (hb : PD X e2 tb) (hm : X.mg "min" = none) (hg : Gl X "min" := by rfl) (he : starEach [e, e2] X.env = (false, eval e X.env) :: starEach [e2] X.env := by rfl) (he2 : starEach [e2] X.env = (false, eval e2 X.env) :: starEach [] X.env := by rfl) (hpl : (backTo pos (starEach [e2] X.env)).any (·.1) = false := by rfl) :
    PD X (.Call (.Name "min" pp) [e, e2] [] pos) (dCB (un2 fMin) (dCons ta (dCons tb dNil))) := pd_B2 (call_min2 hc) l2_min boot_min (by decide) (by decide) ha hb hg hm he he2 hpl
theorem pd_divmod (ha : PD X e ta) (hb : PD X e2 tb) (hm : X.mg "divmod" = none) (hg : Gl X "divmod" := by rfl) (he : starEach [e, e2] X.env = (false, eval e X.env) :: starEach [e2] X.env := by rfl) (he2 : starEach [e2] X.env = (false, eval e2 X.env) :: starEach [] X.env := by rfl) (hpl : (backTo pos (starEach [e2] X.env)).any (·.1) = false := by rfl) :
    PD X (.Call (.Name "divmod" pp) [e, e2] [] pos) (dCB (un2 fDivmod) (dCons ta (dCons tb dNil))) := pd_B2 call_divmod l2_divmod boot_divmod (by decide) (by decide) ha hb hg hm he he2 hpl
theorem pd_tuplec (ha : PD X e ta) (hm : X.mg "tuple" = none) (hg : Gl X "tuple" := by rfl) (he : starEach [e] X.env = (false, eval e X.env) :: starEach [] X.env := by rfl) (hpl : (backTo pos (starEach [] X.env)).any (·.1) = false := by rfl) :
    PD X (.Call (.Name "tuple" pp) [e] [] pos) (dCB (un1 fTuple) (dCons ta dNil)) := pd_T1 call_tuple_of l1_tuple boot_tuple (by decide) (by decide) ha hg hm he hpl
theorem pd_listc (ha : PD X e ta) (hm : X.mg "list" = none) (hg : Gl X "list" := by rfl) (he : starEach [e] X.env = (false, eval e X.env) :: starEach [] X.env := by rfl) (hpl : (backTo pos (starEach [] X.env)).any (·.1) = false := by rfl) :
    PD X (.Call (.Name "list" pp) [e] [] pos) (dCB (un1 fList) (dCons ta dNil)) := pd_T1 call_list_of l1_list boot_list (by decide) (by decide) ha hg hm he hpl
theorem pd_all (hc : X.calm = true) (ha : PD X e ta) (hm : X.mg "all" = none) (hg : Gl X "all" := by rfl) (he : starEach [e] X.env = (false, eval e X.env) :: starEach [] X.env := by rfl) (hpl : (backTo pos (starEach [] X.env)).any (·.1) = false := by rfl) :
    PD X (.Call (.Name "all" pp) [e] [] pos) (dCB (un1 fAll) (dCons ta dNil)) := pd_B1 (cr_all hc) l1_all boot_all (by decide) (by decide) ha hg hm he hpl

/-! ### methods of texts -/
def fSplit : F2
  | .str a, .str b, c, Φ => (b.length == 0) = false ∧ a.length + 2 ≤ sizeLine ∧ Φ (.lst ((Txt.split a b).map .str)) c
  | _, _, _, _ => False
def txts : List D → Option (List Str)
  | [] => some []
  | .str x :: r => (txts r).map (x :: ·)
  | _ => none
def fJoin : F2
  | .str a, .lst ds, c, Φ => ∃ ys, txts ds = some ys ∧ (ys.map (·.length)).sum + ys.length * a.length ≤ 16777216 ∧ Φ (.str (Txt.join a ys)) c
  | .str a, .tup ds, c, Φ => ∃ ys, txts ds = some ys ∧ (ys.map (·.length)).sum + ys.length * a.length ≤ 16777216 ∧ Φ (.str (Txt.join a ys)) c
  | _, _, _, _ => False
def fStarts : F2
  | .str a, .str b, c, Φ => Φ (.bl (Txt.startswith a b)) c
  | _, _, _, _ => False
theorem txts_map {K : PySem.W.Frag} {m : List Addr} {H : Hp} : ∀ (ds : List D) (xs : List V) (bs : List Str), RL K m H ds xs → txts ds = some bs → xs = bs.map V.str
  | [], _, _, h, e => by cases e; exact h
  | d :: ds, _, bs, ⟨x, r, e1, h1, h2⟩, e => by
    subst e1
    cases d with
    | str b =>
      change (txts ds).map (b :: ·) = some bs at e
      cases e2 : txts ds with
      | none => rw [e2] at e; cases e
      | some cs => rw [e2] at e; cases e; cases (show x = V.str b from h1); rw [txts_map ds r cs h2 e2]; rfl
    | _ => cases e
theorem rl_txts {K : PySem.W.Frag} {m : List Addr} {H : Hp} : ∀ (ys : List Str), RL K m H (ys.map D.str) (ys.map V.str)
  | [] => rfl
  | y :: ys => ⟨_, _, rfl, rfl, rl_txts ys⟩
theorem txts_of : ∀ (ys : List Str), txts (ys.map D.str) = some ys
  | [] => rfl
  | y :: ys => by show (txts (ys.map D.str)).map (y :: ·) = _; rw [txts_of ys]; rfl
def isS : D → Bool
  | .str _ => true
  | _ => false
/-- o.m(e), o a text -/
def dM1 (f : F2) (to te : TD) : TD := fun ρ c Φ => to ρ c fun x c1 => ∃ z, x = .str z ∧ te ρ c1 fun y c2 => f (.str z) (vw c2 y) c2 Φ
theorem lift_m1 {K : PySem.W.Frag} {f : F2} {r : V → List V → Hp → VK → Prop} {σ : L2.St} {H : Hp} {Q : VK} (l : L2f K f (fun u v H Q => r u [v] H Q)) (h : lift K (dM1 f ta tb) σ H Q) : tM1 r (lift K ta) (lift K tb) σ H Q := by
  obtain ⟨m, ρ, c, Φ, S, h, q⟩ := h
  refine ⟨m, ρ, c, _, S, h, fun x c1 u H1 m1 hx C1 R1 L1 => ?_⟩
  obtain ⟨z, rfl, hx⟩ := hx
  refine ⟨⟨z, R1⟩, m1, ρ, c1, _, S.step L1 C1, hx, fun y c2 v H2 m2 hy C2 R2 L2 => ?_⟩
  exact l _ _ c2 Φ hy H2 m2 u v C2 R1 (W.vw C2 R2) Q fun d c' w H' m' hd C' R' L' => q d c' w H' m' hd C' R' (L1.trans (L2.trans L'))
theorem pd_split (ho : PD X o ta) (he : PD X e tb) (hs : starEach [e] X.env = [(false, eval e X.env)] := by rfl) (hbase : attributeBase o "split" X.env (eval o X.env) = eval o X.env := by rfl) (hline : (apos.endLine == pos.line) = true := by rfl) :
    PD X (.Call (.Attribute o "split" apos) [e] [] pos) (dM1 fSplit ta tb) := PE.imp (pe_split ho he hs hbase hline) fun σ H Q h => lift_m1 (by
      intro x y c Φ h H m u v C r1 r2 Q q
      cases x <;> cases y <;> first | exact h.elim | skip
      cases (show u = _ from r1); cases (show v = _ from r2)
      exact ⟨_, _, rfl, rfl, h.1, h.2.1, fun p hp => KQ.newL (X := X) q C h.2.2 (rl_txts _) hp⟩) h
theorem pd_join (ho : PD X o ta) (he : PD X e tb) (hs : starEach [e] X.env = [(false, eval e X.env)] := by rfl) (hbase : attributeBase o "join" X.env (eval o X.env) = eval o X.env := by rfl) (hline : (apos.endLine == pos.line) = true := by rfl) :
    PD X (.Call (.Attribute o "join" apos) [e] [] pos) (dM1 fJoin ta tb) := PE.imp (pe_join ho he hs hbase hline) fun σ H Q h => lift_m1 (by
      intro x y c Φ h H m u v C r1 r2 Q q
      cases x <;> cases y <;> first | exact h.elim | skip
      · cases (show u = _ from r1)
        obtain ⟨p, xs, rfl, h1, h2⟩ := r2
        obtain ⟨ys, e1, e2, h⟩ := h
        exact ⟨_, p, ys, rfl, rfl, .inr (by rw [← txts_map _ _ _ h2 e1]; exact ex_t (ex_hid m H) h1), e2, q.pure C h rfl⟩
      · cases (show u = _ from r1)
        obtain ⟨p, xs, rfl, h1, h2⟩ := r2
        obtain ⟨ys, e1, e2, h⟩ := h
        exact ⟨_, p, ys, rfl, rfl, .inl (by rw [← txts_map _ _ _ h2 e1]; exact SqL.of h1), e2, q.pure C h rfl⟩) h
theorem pd_starts (ho : PD X o ta) (he : PD X e tb) (hs : starEach [e] X.env = [(false, eval e X.env)] := by rfl) (hbase : attributeBase o "startswith" X.env (eval o X.env) = eval o X.env := by rfl) (hline : (apos.endLine == pos.line) = true := by rfl) :
    PD X (.Call (.Attribute o "startswith" apos) [e] [] pos) (dM1 fStarts ta tb) := PE.imp (pe_m1 F.slot_str_startswith F.type_str_startswith mt_startswith ho he hs hbase hline) fun σ H Q h => lift_m1 (by
      intro x y c Φ h H m u v C r1 r2 Q q
      cases x <;> cases y <;> first | exact h.elim | skip
      cases (show u = _ from r1); cases (show v = _ from r2)
      exact ⟨_, _, rfl, rfl, q.pure C h rfl⟩) h

/-! ### xs.append(e), xs a cell -/
def dAppend (to te : TD) : TD := fun ρ c Φ => to ρ c fun x c1 => ∃ k, x = .cell k ∧ (∃ ds, c1[k]? = some (.lst ds)) ∧ te ρ c1 fun y c2 => ∃ ds, c2[k]? = some (.lst ds) ∧ ds.length < sizeLine ∧ Φ .non (c2.set k (.lst (ds ++ [y])))
theorem cell_put {K : PySem.W.Frag} {m : Ad} {H : Hp} {c : List Cell} {k : Nat} {a : Addr} {o : HO} {ce : Cell} (C : CR K H m c) (hk : m.ix[k]? = some a) (hc : CellAt K m (upd H a o) a ce) : CR K (upd H a o) m (c.set k ce) ∧ Le m H m (upd H a o) := by
  have ha : a ∈ m.ix := List.mem_of_getElem? hk
  have l : Le m H m (upd H a o) := ⟨fun _ _ e => e, by rw [hid_mut ha]; exact Ex.refl _, rfl, fun b hb => .inl (upd_ne fun e => C.dj a ha (by rw [← e]; exact hb)), fun _ h => .inl h, fun _ h => upd_none h⟩
  refine ⟨⟨by rw [List.length_set]; exact C.len, C.nd, fun j ce' e => ?_, fun b hb => ?_, C.dj, C.tk' l⟩, l⟩
  · by_cases hj : k = j
    · subst hj
      have hl : k < c.length := by rw [← C.len]; exact (List.getElem?_eq_some_iff.mp hk).1
      rw [List.getElem?_set_self hl] at e
      cases e
      exact ⟨a, hk, hc⟩
    · rw [List.getElem?_set_ne hj] at e
      obtain ⟨b, h1, h2⟩ := C.at_ j ce' e
      have ne : b ≠ a := fun z => by
        subst z
        have h3 := (List.getElem?_eq_some_iff.mp hk)
        have h4 := (List.getElem?_eq_some_iff.mp h1)
        exact hj ((List.getElem_inj C.nd).mp (h3.2.trans h4.2.symm))
      exact ⟨b, h1, h2.step l fun o' e' => by rw [upd_ne ne]; exact e'⟩
  · obtain ⟨o', h3, h4⟩ := C.hs b hb
    exact ⟨o', by rw [upd_ne fun e => C.dj a ha (by rw [← e]; exact hb)]; exact h3, h4⟩
theorem pd_append (ho : PD X o ta) (he : PD X e tb)
    (hbase : attributeBase o "append" X.env (eval o X.env) = eval o X.env := by rfl)
    (hfew : ((backTo pos (starEach [e] X.env)).all (fun x => !x.1) && (backToKw pos (keywordEach [] X.env)).all (fun x => x.1.isSome) && decide ([e].length + ([] : List Keyword).length + (if ([] : List Keyword).isEmpty then 0 else 1) < 30)) = true := by rfl)
    (hline : (apos.endLine == pos.line) = true := by rfl) (hs : starEach [e] X.env = (false, eval e X.env) :: starEach [] X.env := by rfl) (hplain : (backTo pos (starEach [] X.env)).any (·.1) = false := by rfl) :
    PD X (.Call (.Attribute o "append" apos) [e] [] pos) (dAppend ta tb) :=
  PE.imp (pe_bm PySem.F.plainAttrs_list PySem.F.slot_list_append PySem.F.type_list_append mt_append ho (pds_cons he pds_nil hs) hbase hfew hline hs hplain) fun σ H Q ⟨m, ρ, c, Φ, S, h, q⟩ =>
  ⟨m, ρ, c, _, S, h, fun x c1 u H1 m1 hx C1 R1 L1 => by
    obtain ⟨k, rfl, ⟨ds, hk⟩, hx⟩ := hx
    obtain ⟨a, ha, rfl⟩ := R1
    obtain ⟨b, hb, xs, h1, h2⟩ := C1.at_ k _ hk
    rw [ha] at hb; cases hb
    refine ⟨.inl ⟨rfl, xs, SqL.of h1⟩, m1, ρ, c1, _, S.step L1 C1, (show dCons tb dNil ρ c1 (fun ys c2 => ∃ y, ys = [y] ∧ ∃ ds, c2[k]? = some (.lst ds) ∧ ds.length < sizeLine ∧ Φ .non (c2.set k (.lst (ds ++ [y])))) from ?_), fun ys c2 vs H2 m2 hy C2 R2 L2 => ?_⟩
    · show tb ρ c1 _
      have e : (fun x c1 => dNil ρ c1 fun xs c2 => ∃ y, x :: xs = [y] ∧ ∃ ds, c2[k]? = some (.lst ds) ∧ ds.length < sizeLine ∧ Φ .non (c2.set k (.lst (ds ++ [y])))) = fun y c2 => ∃ ds, c2[k]? = some (.lst ds) ∧ ds.length < sizeLine ∧ Φ .non (c2.set k (.lst (ds ++ [y]))) := by
        funext y c2
        apply propext
        constructor
        · rintro ⟨z, hz, r⟩; cases hz; exact r
        · intro r; exact ⟨y, rfl, r⟩
      rw [e]; exact hx
    · obtain ⟨y, rfl, es, hk2, hl, hq⟩ := hy
      obtain ⟨v, r, rfl, rv, rr⟩ := R2
      cases (show r = [] from rr)
      obtain ⟨b, hb, xs2, h3, h4⟩ := C2.at_ k _ hk2
      rw [L2.pre k a ha] at hb; cases hb
      refine ⟨a, xs2, v, rfl, rfl, h3, by rw [rlen h4]; exact hl, ?_⟩
      have hm : a ∈ m2.ix := List.mem_of_getElem? (L2.pre k a ha)
      have z := cell_put (o := .lst (xs2 ++ [v])) (ce := .lst (es ++ [y])) C2 (L2.pre k a ha) ⟨_, upd_same, by show RL _ _ (hid m2 _) _ _; rw [hid_mut hm]; exact RL.append h4 ⟨v, [], rfl, rv, rfl⟩⟩
      exact q .non _ .non _ m2 hq z.1 rfl (L1.trans (L2.trans z.2))⟩
end
end Cw

namespace Cw
open PySem PySem.Spec PyProof.Rows L2

/-! ### statements -/
structure DEnds where
  nx : Env → List Cell → Prop
  rt : D → List Cell → Prop
  bk : Env → List Cell → Prop := fun _ _ => False
  ct : Env → List Cell → Prop := fun _ _ => False
abbrev TSD := DEnds → Env → List Cell → Prop
abbrev KN (K : PySem.W.Frag) (H : Hp) (m : Ad) (Φ : Env → List Cell → Prop) (Q : L2.St → Hp → Prop) : Prop := ∀ σ' H' m' ρ' c', Φ ρ' c' → SR K σ' H' m' ρ' c' → Le m H m' H' → Q σ' H'
def liftS (K : PySem.W.Frag) (t : TSD) : TS := fun Dn σ H => ∃ (m : Ad) (ρ : Env) (c : List Cell) (De : DEnds), SR K σ H m ρ c ∧ t De ρ c ∧
  KN K H m De.nx Dn.nx ∧ KQ K H m De.rt Dn.rt ∧ KN K H m De.bk Dn.bk ∧ KN K H m De.ct Dn.ct
abbrev PSD (X : Cx) (s : Stmt) (t : TSD) : Prop := PS X s (liftS X.K t)
abbrev PSDs (X : Cx) (s : List Stmt) (t : TSD) : Prop := PSs X s (liftS X.K t)
theorem KN.le {K : PySem.W.Frag} {H H1 : Hp} {m m1 : Ad} {Φ : Env → List Cell → Prop} {Q : L2.St → Hp → Prop} (k : KN K H m Φ Q) (l : Le m H m1 H1) : KN K H1 m1 Φ Q := fun σ' H' m' ρ' c' h s l' => k σ' H' m' ρ' c' h s (l.trans l')
theorem KQ.le {K : PySem.W.Frag} {H H1 : Hp} {m m1 : Ad} {Φ : D → List Cell → Prop} {Q : VK} (k : KQ K H m Φ Q) (l : Le m H m1 H1) : KQ K H1 m1 Φ Q := fun d c' w H' m' h C R l' => k d c' w H' m' h C R (l.trans l')
def dNext : TSD := fun D ρ c => D.nx ρ c
def dSeq (t u : TSD) : TSD := fun D ρ c => t { D with nx := u D } ρ c
section
variable {X : Cx} {st : Stmt} {rest : List Stmt} {t u : TSD} {e e2 o : Expr} {ta tb : TD} {pos pos' pp apos : Pos} {tA : TDt}
theorem psd_nil : PSDs X [] dNext := PSs.imp pss_nil fun Dn σ H ⟨m, ρ, c, De, S, h, n, r, b, k⟩ => n σ H m ρ c h S (Le.refl _ _)
theorem psd_cons (h1 : PSD X st t) (h2 : PSDs X rest u) : PSDs X (st :: rest) (dSeq t u) := PSs.imp (pss_cons h1 h2) fun Dn σ H ⟨m, ρ, c, De, S, h, n, r, b, k⟩ =>
  ⟨m, ρ, c, { De with nx := u De }, S, h, fun σ' H' m' ρ' c' h' S' l => ⟨m', ρ', c', De, S', h', n.le l, r.le l, b.le l, k.le l⟩, r, b, k⟩
theorem psd_one (h1 : PSD X st t) : PSDs X [st] t := pss_one h1
def dRet (ta : TD) : TSD := fun D ρ c => ta ρ c D.rt
theorem psd_ret (h : PD X e ta) : PSD X (.Return (some e) pos) (dRet ta) := PS.imp (ps_ret h) fun Dn σ H ⟨m, ρ, c, De, S, h, n, r, b, k⟩ => ⟨m, ρ, c, De.rt, S, h, r⟩
def dDrop (ta : TD) : TSD := fun D ρ c => ta ρ c fun _ c1 => D.nx ρ c1
theorem psd_expr (h : PD X e ta) (hs : swapsWith e none pos.line X.env = pure false := by rfl) : PSD X (.Expr e pos) (dDrop ta) := PS.imp (ps_expr h hs) fun Dn σ H ⟨m, ρ, c, De, S, h, n, r, b, k⟩ =>
  ⟨m, ρ, c, _, S, h, fun d c' w H' m' hd C R L => n σ H' m' ρ c' hd (S.step L C) L⟩
def dIfS (tc : TDt) (t u : TSD) : TSD := fun D ρ c => tc ρ c fun b c1 => match b with | true => t D ρ c1 | false => u D ρ c1
theorem psd_if {cE : Expr} {a b : List Stmt} (hc : PDt X cE tA) (ha : PSDs X a t) (hb : PSDs X b u) : PSD X (.If cE a b pos) (dIfS tA t u) := PS.imp (ps_if hc ha hb) fun Dn σ H ⟨m, ρ, c, De, S, h, n, r, b, k⟩ =>
  ⟨m, ρ, c, _, S, h, fun bo c1 H1 m1 hx C1 L1 => by
    cases bo with
    | true => rw [if_pos rfl]; exact ⟨m1, ρ, c1, De, S.step L1 C1, hx, n.le L1, r.le L1, b.le L1, k.le L1⟩
    | false => rw [if_neg (by decide)]; exact ⟨m1, ρ, c1, De, S.step L1 C1, hx, n.le L1, r.le L1, b.le L1, k.le L1⟩⟩
def dNever : TSD := fun _ _ _ => False
theorem psd_never : PSD X st dNever := PS.imp ps_never fun Dn σ H ⟨m, ρ, c, De, S, h, _⟩ => h
theorem psds_never : PSDs X rest dNever := PSs.imp pss_never fun Dn σ H ⟨m, ρ, c, De, S, h, _⟩ => h
theorem psd_pass : PSD X (.Pass pos) dNext := PS.imp ps_pass fun Dn σ H ⟨m, ρ, c, De, S, h, n, _⟩ => n σ H m ρ c h S (Le.refl _ _)
theorem psd_continue : PSD X (.Continue pos) (fun D ρ c => D.ct ρ c) := PS.imp ps_continue fun Dn σ H ⟨m, ρ, c, De, S, h, n, r, b, k⟩ => k σ H m ρ c h S (Le.refl _ _)
theorem psd_break : PSD X (.Break pos) (fun D ρ c => D.bk ρ c) := PS.imp ps_break fun Dn σ H ⟨m, ρ, c, De, S, h, n, r, b, k⟩ => b σ H m ρ c h S (Le.refl _ _)

/-! ### targets -/
theorem SR.set {K : PySem.W.Frag} {σ : L2.St} {H : Hp} {m : Ad} {ρ : Env} {c : List Cell} {i : Nat} {d : D} {v : V} (S : SR K σ H m ρ c) (r : RR K H m d v) : SR K (σ.set i (some v)) H m (ρ.set i (some d)) c := by
  refine ⟨S.cr, by rw [List.length_set, List.length_set]; exact S.len, fun j d' e => ?_⟩
  by_cases hj : i = j
  · subst hj
    have hl := (List.getElem?_eq_some_iff.mp e).1
    rw [List.length_set] at hl
    rw [List.getElem?_set_self hl] at e
    cases e
    exact ⟨v, by rw [List.getElem?_set_self (by rw [← S.len]; exact hl)], r⟩
  · rw [List.getElem?_set_ne hj] at e
    obtain ⟨w, h1, h2⟩ := S.sl j d' e
    exact ⟨w, by rw [List.getElem?_set_ne hj]; exact h1, h2⟩
def dSet (i : Nat) (ta : TD) : TSD := fun D ρ c => ta ρ c fun d c1 => D.nx (ρ.set i (some d)) c1
theorem psd_set {i : Nat} {x : Str} (hN : X.N.Nodup) (h : PD X e ta) (hi : X.N[i]? = some x := by rfl) (hx : Loc X.env.scope x := by first | exact Or.inl rfl | exact Or.inr rfl) (hs : swapsWith e (some (.Name x pos')) pos.line X.env = pure false := by rfl)
    (hf : X.fn x = true ∨ X.env.scope.names.lookup x = some .local := by first | exact .inl rfl | exact .inr rfl) : PSD X (.Assign [.Name x pos'] e pos) (dSet i ta) :=
  PS.imp (ps_set hN hi hx h hs hf) fun Dn σ H ⟨m, ρ, c, De, S, h, n, r, b, k⟩ => ⟨m, ρ, c, _, S, h, fun d c' w H' m' hd C R L => n _ H' m' _ c' hd ((S.step L C).set R) L⟩
abbrev TGD := D → Env → List Cell → (Env → List Cell → Prop) → Prop
abbrev TGDs := List D → Env → List Cell → (Env → List Cell → Prop) → Prop
def liftG (K : PySem.W.Frag) (t : TGD) : TG := fun v σ H Q => ∃ (m : Ad) (ρ : Env) (c : List Cell) (d : D) (Φ : Env → List Cell → Prop), SR K σ H m ρ c ∧ RR K H m d v ∧ t d ρ c Φ ∧ KN K H m Φ Q
def liftGs (K : PySem.W.Frag) (t : TGDs) : TGs := fun vs σ H Q => ∃ (m : Ad) (ρ : Env) (c : List Cell) (ds : List D) (Φ : Env → List Cell → Prop), SR K σ H m ρ c ∧ RRL K H m ds vs ∧ t ds ρ c Φ ∧ KN K H m Φ Q
abbrev PGD (X : Cx) (e : Expr) (t : TGD) : Prop := PG X e (liftG X.K t)
abbrev PGDs (X : Cx) (es : List Expr) (t : TGDs) : Prop := PGs X es (liftGs X.K t)
theorem PG.imp {t t' : TG} (h : PG X e t) (i : ∀ v σ H Q, t' v σ H Q → t v σ H Q) : PG X e t' := ⟨fun pins s σ H v u Q I r w => h.run pins s σ H v u Q I r (i v σ H Q w)⟩
theorem PGs.imp {es : List Expr} {t t' : TGs} (h : PGs X es t) (i : ∀ v σ H Q, t' v σ H Q → t v σ H Q) : PGs X es t' := ⟨fun pins s σ H v u Q I r w => h.run pins s σ H v u Q I r (i v σ H Q w)⟩
def gNm (i : Nat) : TGD := fun d ρ c Φ => Φ (ρ.set i (some d)) c
theorem pgd_name {i : Nat} {x : Str} (hN : X.N.Nodup) (hi : X.N[i]? = some x := by rfl) (hx : Loc X.env.scope x := by first | exact Or.inl rfl | exact Or.inr rfl) (hf : X.fn x = true ∨ X.env.scope.names.lookup x = some .local := by first | exact .inl rfl | exact .inr rfl) : PGD X (.Name x pos) (gNm i) :=
  PG.imp (pg_name hN hi hx hf) fun v σ H Q ⟨m, ρ, c, d, Φ, S, r, h, n⟩ => n _ H m _ c h (S.set r) (Le.refl _ _)
def gNl : TGDs := fun ds ρ c Φ => ds = [] ∧ Φ ρ c
def gCn (t : TGD) (u : TGDs) : TGDs := fun ds ρ c Φ => match ds with
  | d :: r => t d ρ c fun ρ1 c1 => u r ρ1 c1 Φ
  | [] => False
theorem pgds_nil : PGDs X [] gNl := PGs.imp pgs_nil fun vs σ H Q ⟨m, ρ, c, ds, Φ, S, r, h, n⟩ => by
  obtain ⟨rfl, h⟩ := h
  exact ⟨r, n σ H m ρ c h S (Le.refl _ _)⟩
theorem pgds_cons {es : List Expr} {t : TGD} {u : TGDs} (h1 : PGD X e t) (h2 : PGDs X es u) (hs : (assignEach (e :: es) X.env).map (·.2) = assign e X.env :: (assignEach es X.env).map (·.2) := by rfl) : PGDs X (e :: es) (gCn t u) :=
  PGs.imp (pgs_cons h1 h2 hs) fun vs σ H Q ⟨m, ρ, c, ds, Φ, S, r, h, n⟩ => by
    cases ds with
    | nil => exact h.elim
    | cons d ds =>
      obtain ⟨v, vr, rfl, r1, r2⟩ := r
      exact ⟨v, vr, rfl, m, ρ, c, d, _, S, r1, h, fun σ' H' m' ρ' c' h' S' l => ⟨m', ρ', c', ds, Φ, S', l.rl r2, h', n.le l⟩⟩
def gTp (k : Nat) (t : TGDs) : TGD := fun d ρ c Φ => match d with
  | .tup ds => ds.length = k ∧ t ds ρ c Φ
  | _ => False
theorem pgd_tup {es : List Expr} {k : Nat} {t : TGDs} {n : Nat} (hc : X.calm = true) (h : PGDs X es t) (hn : (assignEach es X.env).length = n := by rfl) (hst : (assignEach es X.env).findIdx? (·.1) = none := by rfl) : PGD X (.Tuple es k pos) (gTp n t) :=
  PG.imp (pg_tup hc h hn hst) fun v σ H Q ⟨m, ρ, c, d, Φ, S, r, h, nn⟩ => by
    cases d <;> first | exact h.elim | skip
    obtain ⟨a, xs, rfl, h1, h2⟩ := r
    exact ⟨a, xs, rfl, ex_t (ex_hid m H) h1, by rw [rlen h2]; exact h.1, m, ρ, c, _, Φ, S, h2, h.2, nn⟩
/-- xs[i] = .., xs a cell -/
def gSb (to ti : TD) : TGD := fun d ρ c Φ => to ρ c fun x c1 => ∃ k, x = .cell k ∧ ti ρ c1 fun y c2 => ∃ i ds j, y = .int i ∧ c2[k]? = some (.lst ds) ∧ ixN ds.length i = some j ∧ Φ ρ (c2.set k (.lst (ds.set j d)))
theorem pgd_sub {i : Expr} (ho : PD X o ta) (hi : PD X i tb)
    (ha : ∀ v, assign (.Subscript o i pos) X.env v = (do
      let ov ← holding [v] (eval o X.env)
      let iv ← holding [v, ov] (eval i X.env)
      standAt pos
      holding [v, ov, iv] (setItem ov iv v)
      release [v, ov, iv] []) := by intro _; rfl) : PGD X (.Subscript o i pos) (gSb ta tb) :=
  PG.imp (pg_sub ho hi set_list ha) fun v σ H Q ⟨m, ρ, c, d, Φ, S, r, h, n⟩ =>
  ⟨m, ρ, c, _, S, h, fun x c1 u H1 m1 hx C1 R1 L1 => by
    obtain ⟨k, rfl, hx⟩ := hx
    obtain ⟨a, ha, rfl⟩ := R1
    refine ⟨m1, ρ, c1, _, S.step L1 C1, hx, fun y c2 w H2 m2 hy C2 R2 L2 => ?_⟩
    obtain ⟨i', ds, j, rfl, hk, hj, hq⟩ := hy
    obtain ⟨b, hb, xs, h1, h2⟩ := C2.at_ k _ hk
    rw [L2.pre k a ha] at hb; cases hb
    refine ⟨a, xs, i', j, rfl, R2, h1, by rw [rlen h2]; exact hj, ?_⟩
    have hm : a ∈ m2.ix := List.mem_of_getElem? (L2.pre k a ha)
    have z := cell_put (o := .lst (xs.set j v)) (ce := .lst (ds.set j d)) C2 (L2.pre k a ha) ⟨_, upd_same, by show RL _ _ (hid m2 _) _ _; rw [hid_mut hm]; exact RL.set ((L1.trans L2).r r) j h2⟩
    exact n σ _ m2 ρ _ hq ((S.step (L1.trans L2) C2).step z.2 z.1) ((L1.trans L2).trans z.2)⟩
def dAsg (te : TD) (g : TGD) : TSD := fun D ρ c => te ρ c fun d c1 => g d ρ c1 D.nx
theorem psd_asg {tg : Expr} {g : TGD} (he : PD X e ta) (hg : PGD X tg g) (hs : swapsWithSole [tg] e pos.line X.env = pure false := by rfl) (hw : swappedStores [tg] e X.env = pure none := by rfl) (h1 : (assignEach [tg] X.env).map (·.2) = [assign tg X.env] := by rfl) :
    PSD X (.Assign [tg] e pos) (dAsg ta g) := PS.imp (ps_asg he hg hs hw h1) fun Dn σ H ⟨m, ρ, c, De, S, h, n, r, b, k⟩ =>
  ⟨m, ρ, c, _, S, h, fun d c' w H' m' hd C R L => ⟨m', ρ, c', d, _, S.step L C, R, hd, n.le L⟩⟩
/-- a, b = x, y -/
def dPar (i j : Nat) (ta tb : TD) : TSD := fun D ρ c => ta ρ c fun x c1 => tb ρ c1 fun y c2 => D.nx ((ρ.set i (some x)).set j (some y)) c2
theorem psd_par {i j : Nat} {x y : Str} {a b : Expr} {px py pt : Pos} {kt k2 pt2} (hc : X.calm = true) (hN : X.N.Nodup) (ha : PD X a ta) (hb : PD X b tb) (hi : X.N[i]? = some x := by rfl) (hj : X.N[j]? = some y := by rfl) (hij : i ≠ j := by decide)
    (hx : X.env.scope.names.lookup x = some .local := by rfl) (hy : X.env.scope.names.lookup y = some .local := by rfl)
    (hs2 : starEach (a :: [b]) X.env = (false, eval a X.env) :: starEach [b] X.env := by rfl) (hs1 : starEach (b :: []) X.env = (false, eval b X.env) :: starEach [] X.env := by rfl)
    (hw : swappedStores [.Tuple [.Name x px, .Name y py] kt pt] (.Tuple [a, b] k2 pt2) X.env = pure (some [x, y]) := by rfl)
    (hs : swapsWithSole [.Tuple [.Name x px, .Name y py] kt pt] (.Tuple [a, b] k2 pt2) pos.line X.env = pure false := by rfl) :
    PSD X (.Assign [.Tuple [.Name x px, .Name y py] kt pt] (.Tuple [a, b] k2 pt2) pos) (dPar i j ta tb) :=
  PS.imp (ps_par hc hN hi hj hij hx hy (pds_cons ha (pds_cons hb pds_nil hs1) hs2) hw hs) fun Dn σ H ⟨m, ρ, c, De, S, h, n, r, b, k⟩ =>
  ⟨m, ρ, c, (fun ds c2 => ∃ x y, ds = [x, y] ∧ De.nx ((ρ.set i (some x)).set j (some y)) c2), S, (show ta ρ c fun x c1 => tb ρ c1 fun y c2 => ∃ x' y', [x, y] = [x', y'] ∧ De.nx ((ρ.set i (some x')).set j (some y')) c2 by
    have e : (fun x c1 => tb ρ c1 fun y c2 => ∃ x' y', [x, y] = [x', y'] ∧ De.nx ((ρ.set i (some x')).set j (some y')) c2) = fun x c1 => tb ρ c1 fun y c2 => De.nx ((ρ.set i (some x)).set j (some y)) c2 := by
      funext x c1
      congr 1
      funext y c2
      apply propext
      constructor
      · rintro ⟨x', y', e, h⟩; cases e; exact h
      · intro h; exact ⟨x, y, rfl, h⟩
    rw [e]; exact h), fun ds c' vs H' m' hd C R L => by
      obtain ⟨x, y, rfl, hd⟩ := hd
      obtain ⟨v, r', rfl, rv, w, r'', rfl, rw', rr⟩ := R
      cases (show r'' = [] from rr)
      exact ⟨v, w, rfl, n _ H' m' _ c' hd (((S.step L C).set rv).set rw') L⟩⟩
end
end Cw

namespace Cw
open PySem PySem.Spec PyProof.Rows L2

/-! ### what is walked -/
structure Walks (K : PySem.W.Frag) (J : It) (m : Ad) (H : Hp) (ds : List D) : Prop where
  go : ∀ (i : Nat) m' H' c', Le m H m' H' → CR K H' m' c' → i < ds.length → J.go i H'
  stop : ∀ (i : Nat) m' H' c', Le m H m' H' → CR K H' m' c' → ds.length ≤ i → J.stop i H'
  yld : ∀ (i : Nat) m' H' c' x H2, Le m H m' H' → CR K H' m' c' → i < ds.length → J.yld i H' x H2 → ∃ d, ds[i]? = some d ∧ CR K H2 m' c' ∧ Le m' H' m' H2 ∧ RR K H2 m' d x
def liftI (K : PySem.W.Frag) (t : TDs) : TI := fun σ H R => ∃ (m : Ad) (ρ : Env) (c : List Cell) (Φ : List D → List Cell → Prop), SR K σ H m ρ c ∧ t ρ c Φ ∧
  ∀ ds c' J H' m', Φ ds c' → CR K H' m' c' → Walks K J m' H' ds → Le m H m' H' → R J H'
abbrev PID (X : Cx) (tg iter : Expr) (t : TDs) : Prop := PI X tg iter (liftI X.K t)
theorem PI.imp {X : Cx} {tg iter : Expr} {t t' : TI} (h : PI X tg iter t) (i : ∀ σ H R, t' σ H R → t σ H R) : PI X tg iter t' := ⟨fun pins s σ H R I w => h.run pins s σ H R I (i σ H R w)⟩
theorem PI.or {X : Cx} {tg iter : Expr} {t t' : TI} (h : PI X tg iter t) (h' : PI X tg iter t') : PI X tg iter (fun σ H R => t σ H R ∨ t' σ H R) := ⟨fun pins s σ H R I w => w.elim (h.run pins s σ H R I) (h'.run pins s σ H R I)⟩
theorem RL.at {K : PySem.W.Frag} {m : List Addr} {H : Hp} {ds : List D} {xs : List V} {i : Nat} (h : RL K m H ds xs) (hi : i < ds.length) : ∃ d x, ds[i]? = some d ∧ xs[i]? = some x ∧ R K m H d x := by
  obtain ⟨x, h1, h2⟩ := RL.get (i := i) (d := ds[i]) h (List.getElem?_eq_getElem hi)
  exact ⟨_, x, List.getElem?_eq_getElem hi, h1, h2⟩
theorem sq_inj {K : PySem.W.Frag} {H : Hp} {a : Addr} {xs ys : List V} : True := trivial
/-- the items of a list, of a tuple -/
theorem walks_list {K : PySem.W.Frag} {m : Ad} {H : Hp} {a : Addr} {ds : List D} {xs : List V} (h : SqL K (hid m H) a xs) (r : RRL K H m ds xs) : Walks K (Itl K a) m H ds where
  go := fun i m' H' c' l C hi => by
    obtain ⟨d, x, _, h2, _⟩ := RL.at r hi
    exact ⟨xs, x, ex_l (l.ex.trans (ex_hid m' H')) h, h2⟩
  stop := fun i m' H' c' l C hi => ⟨xs, ex_l (l.ex.trans (ex_hid m' H')) h, by rw [rlen r]; exact hi⟩
  yld := fun i m' H' c' x H2 l C hi ⟨e, y⟩ => by
    subst e
    obtain ⟨d, z, h1, h2, h3⟩ := RL.at r hi
    have := y xs (ex_l (l.ex.trans (ex_hid m' _)) h)
    rw [h2] at this; cases this
    exact ⟨d, h1, C, Le.refl _ _, l.r h3⟩
theorem walks_tup {K : PySem.W.Frag} {m : Ad} {H : Hp} {a : Addr} {ds : List D} {xs : List V} (h : SqT K (hid m H) a xs) (r : RRL K H m ds xs) : Walks K (Itt K a) m H ds where
  go := fun i m' H' c' l C hi => by
    obtain ⟨d, x, _, h2, _⟩ := RL.at r hi
    exact ⟨xs, x, ex_t (l.ex.trans (ex_hid m' H')) h, h2⟩
  stop := fun i m' H' c' l C hi => ⟨xs, ex_t (l.ex.trans (ex_hid m' H')) h, by rw [rlen r]; exact hi⟩
  yld := fun i m' H' c' x H2 l C hi ⟨e, y⟩ => by
    subst e
    obtain ⟨d, z, h1, h2, h3⟩ := RL.at r hi
    have := y xs (ex_t (l.ex.trans (ex_hid m' _)) h)
    rw [h2] at this; cases this
    exact ⟨d, h1, C, Le.refl _ _, l.r h3⟩
def chars (z : Str) : List D := z.cps.toList.map fun k => .str ⟨#[k]⟩
theorem walks_str {K : PySem.W.Frag} {m : Ad} {H : Hp} {z : Str} : Walks K (Its z) m H (chars z) where
  go := fun i m' H' c' l C hi => by
    show i < z.cps.size
    simpa [chars] using hi
  stop := fun i m' H' c' l C hi => by
    show z.cps.size ≤ i
    simpa [chars] using hi
  yld := fun i m' H' c' x H2 l C hi ⟨e, k, hk, hx⟩ => by
    subst e; subst hx
    refine ⟨.str ⟨#[k]⟩, ?_, C, Le.refl _ _, rfl⟩
    unfold chars
    rw [List.getElem?_map, Array.getElem?_toList, hk]
    rfl
def rng (lo : Int) (n : Nat) : List D := (List.range n).map fun i => .int (lo + (i : Nat))
theorem rng_len (lo : Int) (n : Nat) : (rng lo n).length = n := by simp [rng]
theorem walks_rng {K : PySem.W.Frag} {m : Ad} {H : Hp} {lo : Int} {n : Nat} : Walks K (Itr lo n) m H (rng lo n) where
  go := fun i m' H' c' l C hi => by rw [rng_len] at hi; exact hi
  stop := fun i m' H' c' l C hi => by rw [rng_len] at hi; exact hi
  yld := fun i m' H' c' x H2 l C hi ⟨e, hx⟩ => by
    subst e; subst hx
    rw [rng_len] at hi
    exact ⟨.int (lo + i), by unfold rng; rw [List.getElem?_map, List.getElem?_range hi]; rfl, C, Le.refl _ _, rfl⟩
section
variable {X : Cx} {tg iter e e2 o a b : Expr} {ta tb : TD} {tA : TDt} {pos pp : Pos} {ti : TDs}
def dIterL (ta : TD) : TDs := fun ρ c Φ => ta ρ c fun x c1 => match x with
  | .lst ds => Φ ds c1
  | .fl ds => Φ ds c1
  | _ => False
def dIterT (ta : TD) : TDs := fun ρ c Φ => ta ρ c fun x c1 => match x with
  | .tup ds => Φ ds c1
  | _ => False
def dIterS (ta : TD) : TDs := fun ρ c Φ => ta ρ c fun x c1 => match x with
  | .str z => Φ (chars z) c1
  | _ => False
theorem pid_list (h : PD X iter ta) : PID X tg iter (dIterL ta) := PI.imp (pi_list h) fun σ H R ⟨m, ρ, c, Φ, S, h, q⟩ =>
  ⟨m, ρ, c, _, S, h, fun d c1 v H1 m1 hx C1 R1 L1 => by
    cases d <;> first | exact hx.elim | skip
    · obtain ⟨a, xs, rfl, h1, h2⟩ := R1
      exact ⟨a, rfl, ⟨xs, SqL.of (ex_hid m1 H1 a _ h1)⟩, q _ c1 _ H1 m1 hx C1 (walks_list (SqL.of h1) h2) L1⟩
    · obtain ⟨a, xs, rfl, h1, h2⟩ := R1
      exact ⟨a, rfl, ⟨xs, ex_l (ex_hid m1 H1) h1⟩, q _ c1 _ H1 m1 hx C1 (walks_list h1 h2) L1⟩⟩
theorem pid_tup (h : PD X iter ta) : PID X tg iter (dIterT ta) := PI.imp (pi_tup h) fun σ H R ⟨m, ρ, c, Φ, S, h, q⟩ =>
  ⟨m, ρ, c, _, S, h, fun d c1 v H1 m1 hx C1 R1 L1 => by
    cases d <;> first | exact hx.elim | skip
    obtain ⟨a, xs, rfl, h1, h2⟩ := R1
    exact ⟨a, rfl, ⟨xs, ex_t (ex_hid m1 H1) h1⟩, q _ c1 _ H1 m1 hx C1 (walks_tup h1 h2) L1⟩⟩
theorem pid_str (h : PD X iter ta) : PID X tg iter (dIterS ta) := PI.imp (pi_str h) fun σ H R ⟨m, ρ, c, Φ, S, h, q⟩ =>
  ⟨m, ρ, c, _, S, h, fun d c1 v H1 m1 hx C1 R1 L1 => by
    cases d <;> first | exact hx.elim | skip
    exact ⟨_, R1, q _ c1 _ H1 m1 hx C1 walks_str L1⟩⟩
def dRng1 (ta : TD) : TDs := fun ρ c Φ => ta ρ c fun x c1 => match x with
  | .int j => (-(2 ^ 62) ≤ j ∧ j < 2 ^ 62) ∧ Φ (rng 0 j.toNat) c1
  | _ => False
theorem pid_range1 (h : PD X e ta) (hm : X.mg "range" = none) (hg : Gl X "range" := by rfl) (hs : starEach [e] X.env = [(false, eval e X.env)] := by rfl) : PID X tg (.Call (.Name "range" pp) [e] [] pos) (dRng1 ta) :=
  PI.imp (pi_range1 hg hm (pds_cons h pds_nil hs) hs) fun σ H R ⟨m, ρ, c, Φ, S, h, q⟩ =>
  ⟨m, ρ, c, (fun ds c1 => ∃ j, ds = [.int j] ∧ (-(2 ^ 62) ≤ j ∧ j < 2 ^ 62) ∧ Φ (rng 0 j.toNat) c1), S, (show ta ρ c fun x c1 => ∃ j, [x] = [.int j] ∧ (-(2 ^ 62) ≤ j ∧ j < 2 ^ 62) ∧ Φ (rng 0 j.toNat) c1 by
    have e : (fun x c1 => ∃ j, [x] = [D.int j] ∧ (-(2 ^ 62) ≤ j ∧ j < 2 ^ 62) ∧ Φ (rng 0 j.toNat) c1) = fun x c1 => match x with
      | .int j => (-(2 ^ 62) ≤ j ∧ j < 2 ^ 62) ∧ Φ (rng 0 j.toNat) c1
      | _ => False := by
      funext x c1
      apply propext
      constructor
      · rintro ⟨j, e, h⟩; cases e; exact h
      · intro h; cases x <;> first | exact h.elim | exact ⟨_, rfl, h⟩
    rw [e]; exact h), fun ds c' vs H' m' hd C R' L => by
      obtain ⟨j, rfl, ⟨h1, h2⟩, hd⟩ := hd
      obtain ⟨v, r', rfl, rv, rr⟩ := R'
      cases (show r' = [] from rr)
      cases (show v = V.int j from rv)
      exact ⟨j, rfl, h1, h2, q _ c' _ H' m' hd C walks_rng L⟩⟩
def dRng2 (ta tb : TD) : TDs := fun ρ c Φ => ta ρ c fun x c1 => tb ρ c1 fun y c2 => match x, y with
  | .int i, .int j => (-(2 ^ 62) ≤ i ∧ i < 2 ^ 62 ∧ -(2 ^ 62) ≤ j ∧ j < 2 ^ 62) ∧ Φ (rng i (j - i).toNat) c2
  | _, _ => False
theorem pid_range2 (h : PD X e ta) (h' : PD X e2 tb) (hm : X.mg "range" = none) (hg : Gl X "range" := by rfl) (hs : starEach [e, e2] X.env = [(false, eval e X.env), (false, eval e2 X.env)] := by rfl) (hs2 : starEach [e2] X.env = [(false, eval e2 X.env)] := by rfl) : PID X tg (.Call (.Name "range" pp) [e, e2] [] pos) (dRng2 ta tb) :=
  PI.imp (pi_range2 hg hm (pds_cons h (pds_cons h' pds_nil hs2) (by rw [hs, hs2])) hs hs2) fun σ H R ⟨m, ρ, c, Φ, S, h, q⟩ =>
  ⟨m, ρ, c, (fun ds c1 => ∃ i j, ds = [.int i, .int j] ∧ (-(2 ^ 62) ≤ i ∧ i < 2 ^ 62 ∧ -(2 ^ 62) ≤ j ∧ j < 2 ^ 62) ∧ Φ (rng i (j - i).toNat) c1), S, (show ta ρ c fun x c1 => tb ρ c1 fun y c2 => ∃ i j, [x, y] = [.int i, .int j] ∧ (-(2 ^ 62) ≤ i ∧ i < 2 ^ 62 ∧ -(2 ^ 62) ≤ j ∧ j < 2 ^ 62) ∧ Φ (rng i (j - i).toNat) c2 by
    have e : (fun x c1 => tb ρ c1 fun y c2 => ∃ i j, [x, y] = [D.int i, D.int j] ∧ (-(2 ^ 62) ≤ i ∧ i < 2 ^ 62 ∧ -(2 ^ 62) ≤ j ∧ j < 2 ^ 62) ∧ Φ (rng i (j - i).toNat) c2) = fun x c1 => tb ρ c1 fun y c2 => match x, y with
      | .int i, .int j => (-(2 ^ 62) ≤ i ∧ i < 2 ^ 62 ∧ -(2 ^ 62) ≤ j ∧ j < 2 ^ 62) ∧ Φ (rng i (j - i).toNat) c2
      | _, _ => False := by
      funext x c1
      congr 1
      funext y c2
      apply propext
      constructor
      · rintro ⟨i, j, e, h⟩; cases e; exact h
      · intro h; cases x <;> cases y <;> first | exact h.elim | exact ⟨_, _, rfl, h⟩
    rw [e]; exact h), fun ds c' vs H' m' hd C R' L => by
      obtain ⟨i, j, rfl, hb, hd⟩ := hd
      obtain ⟨v, r', rfl, rv, w, r'', rfl, rw', rr⟩ := R'
      cases (show r'' = [] from rr)
      cases (show v = V.int i from rv)
      cases (show w = V.int j from rw')
      exact ⟨i, j, rfl, hb, q _ c' _ H' m' hd C walks_rng L⟩⟩

/-! ### for -/
def forD (g : TGD) (tb : TSD) (De : DEnds) : List D → Env → List Cell → Prop
  | [], ρ, c => De.nx ρ c
  | d :: ds, ρ, c => g d ρ c fun ρ1 c1 => tb ⟨forD g tb De ds, De.rt, De.nx, forD g tb De ds⟩ ρ1 c1
def dFor (ti : TDs) (g : TGD) (tb : TSD) : TSD := fun De ρ c => ti ρ c fun ds c1 => forD g tb De ds ρ c1
theorem psd_for {body : List Stmt} {g : TGD} {tb : TSD} (hp : PassesOwn (model X.prog X.w) X.A X.env X.xe) (hc : X.calm = true) (hi : PID X tg iter ti) (hg : PGD X tg g) (hb : PSDs X body tb) (hs : ∀ x, foldedSetIterable iter X.env x = pure x := by intro _; rfl) :
    PSD X (.For tg iter body [] pos) (dFor ti g tb) := PS.imp (ps_for hp hc hi hg hb hs) fun Dn σ H ⟨m, ρ, c, De, S, h, n, r, b, k⟩ =>
  ⟨m, ρ, c, _, S, h, fun ds c1 J H1 m1 hx C1 wk L1 =>
    ⟨fun i mm σ' H' => mm = ds.length - i ∧ i ≤ ds.length ∧ ∃ m' ρ' c', Le m1 H1 m' H' ∧ SR X.K σ' H' m' ρ' c' ∧ forD g tb De (ds.drop i) ρ' c',
     ⟨ds.length, by simp, Nat.zero_le _, m1, ρ, c1, Le.refl _ _, S.step L1 C1, by simpa using hx⟩, by
      rintro i mm σ' H' ⟨rfl, hi, m', ρ', c', l, S', hf⟩
      by_cases hlt : i < ds.length
      · refine .inr ⟨wk.go i m' H' c' l S'.cr hlt, fun σ2 H2 => ∃ m2 ρ2 c2, Le m1 H1 m2 H2 ∧ SR X.K σ2 H2 m2 ρ2 c2 ∧ forD g tb De (ds.drop (i + 1)) ρ2 c2, fun σ2 H2 ⟨m2, ρ2, c2, l2, S2, h2⟩ => ⟨ds.length - (i + 1), by omega, rfl, hlt, m2, ρ2, c2, l2, S2, h2⟩, fun x H2 y => ?_⟩
        obtain ⟨d, hd, C2, l2, rx⟩ := wk.yld i m' H' c' x H2 l S'.cr hlt y
        have e : ds.drop i = d :: ds.drop (i + 1) := by
          rw [List.drop_eq_getElem_cons hlt]
          congr 1
          have := List.getElem?_eq_getElem hlt
          rw [hd] at this
          exact (Option.some.inj this).symm
        rw [e] at hf
        have L2 := L1.trans (l.trans l2)
        refine ⟨m', ρ', c', d, _, S'.step l2 C2, rx, hf, fun σ3 H3 m3 ρ3 c3 h3 S3 l3 => ?_⟩
        have L3 := L2.trans l3
        refine ⟨m3, ρ3, c3, _, S3, h3, fun σ4 H4 m4 ρ4 c4 h4 S4 l4 => ?_, r.le L3, fun σ4 H4 m4 ρ4 c4 h4 S4 l4 => n σ4 H4 m4 ρ4 c4 h4 S4 (L3.trans l4), fun σ4 H4 m4 ρ4 c4 h4 S4 l4 => ?_⟩
        · exact ⟨m4, ρ4, c4, (l.trans l2).trans (l3.trans l4), S4, h4⟩
        · exact ⟨m4, ρ4, c4, (l.trans l2).trans (l3.trans l4), S4, h4⟩
      · have ei : i = ds.length := by omega
        subst ei
        refine .inl ⟨wk.stop _ m' H' c' l S'.cr (Nat.le_refl _), ?_⟩
        rw [List.drop_length] at hf
        exact n σ' H' m' ρ' c' hf S' (L1.trans l)⟩⟩
end
end Cw

namespace Cw
open PySem PySem.Spec PyProof.Rows L2

/-! ### data that names cells below n alone -/
mutual
def okD (n : Nat) : D → Bool
  | .cell k => Nat.blt k n
  | .tup ds => okDs n ds
  | .lst ds => okDs n ds
  | .fl ds => okDs n ds
  | .ins _ _ ds => okDs n ds
  | .dct _ ds => okDs n ds
  | .dcT _ ds => okDs n ds
  | .exc _ _ _ _ ds => okDs n ds
  | _ => true
def okDs (n : Nat) : List D → Bool
  | [] => true
  | d :: ds => okD n d && okDs n ds
end
def okC (n : Nat) : Cell → Bool
  | .lst ds => okDs n ds
  | .obj _ _ ds => okDs n ds
  | .dct _ ds => okDs n ds
  | .dcT _ ds => okDs n ds
def okCs (n : Nat) : List Cell → Bool
  | [] => true
  | c :: cs => okC n c && okCs n cs
section
variable {K : PySem.W.Frag} {ix ix' : List Addr} {H H' : Hp} {n : Nat}
mutual
theorem R.low (e : Ex H H') (p : ∀ (k : Nat) a, k < n → ix[k]? = some a → ix'[k]? = some a) : ∀ (d : D) (v : V), okD n d = true → R K ix H d v → R K ix' H' d v
  | .non, _, _, h => h
  | .bl _, _, _, h => h
  | .int _, _, _, h => h
  | .str _, _, _, h => h
  | .tup ds, _, k, ⟨a, xs, e1, h1, h2⟩ => ⟨a, xs, e1, ex_t e h1, RL.low e p ds xs (by simpa [okD] using k) h2⟩
  | .lst ds, _, k, ⟨a, xs, e1, h1, h2⟩ => ⟨a, xs, e1, e a _ h1, RL.low e p ds xs (by simpa [okD] using k) h2⟩
  | .fl ds, _, k, ⟨a, xs, e1, h1, h2⟩ => ⟨a, xs, e1, ex_l e h1, RL.low e p ds xs (by simpa [okD] using k) h2⟩
  | .cell j, _, k, ⟨a, h1, h2⟩ => ⟨a, p j a (by simpa [okD] using k) h1, h2⟩
  | .ins _ _ ds, _, k, ⟨a, dx, fs, e1, h1, h2, h3⟩ => ⟨a, dx, fs, e1, e a _ h1, h2, RL.low e p ds _ (by simpa [okD] using k) h3⟩
  | .dct _ ds, _, k, ⟨a, kvs, e1, h1, h2, h3⟩ => ⟨a, kvs, e1, ex_rd e h1, h2, RL.low e p ds _ (by simpa [okD] using k) h3⟩
  | .dcT _ ds, _, k, ⟨a, kvs, e1, h1, h2, h3⟩ => ⟨a, kvs, e1, e a _ h1, h2, RL.low e p ds _ (by simpa [okD] using k) h3⟩
  | .exc _ dd _ _ ds, _, k, ⟨fs, e1, h1, h5, h6⟩ => ⟨fs, e1, e dd _ h1, h5, RL.low e p ds _ (by simpa [okD] using k) h6⟩
  | .raw _, _, _, h => h
theorem RL.low (e : Ex H H') (p : ∀ (k : Nat) a, k < n → ix[k]? = some a → ix'[k]? = some a) : ∀ (ds : List D) (xs : List V), okDs n ds = true → RL K ix H ds xs → RL K ix' H' ds xs
  | [], _, _, h => h
  | d :: ds, _, k, ⟨x, r, e1, h1, h2⟩ => by
    have k' : okD n d = true ∧ okDs n ds = true := by simpa [okDs] using k
    exact ⟨x, r, e1, R.low e p d x k'.1 h1, RL.low e p ds r k'.2 h2⟩
end
theorem okCs_at : ∀ {c : List Cell} {k : Nat} {ce : Cell}, okCs n c = true → c[k]? = some ce → okC n ce = true
  | [], _, _, _, e => by simp at e
  | x :: c, 0, _, h, e => by
    have h' : okC n x = true ∧ okCs n c = true := by simpa [okCs] using h
    simp at e; subst e; exact h'.1
  | x :: c, k + 1, _, h, e => by
    have h' : okC n x = true ∧ okCs n c = true := by simpa [okCs] using h
    exact okCs_at h'.2 (by simpa using e)
theorem okDs_append {n : Nat} : ∀ {as bs : List D}, okDs n (as ++ bs) = (okDs n as && okDs n bs)
  | [], _ => by simp [okDs]
  | a :: as, bs => by simp [okDs, okDs_append (as := as), Bool.and_assoc]
theorem okDs_map {α : Type} {n : Nat} {f : α → D} (h : ∀ x, okD n (f x) = true) : ∀ xs : List α, okDs n (xs.map f) = true
  | [] => rfl
  | x :: xs => by simp [okDs, h x, okDs_map h xs]
theorem okDs_of {n : Nat} : ∀ {ds : List D}, (∀ d ∈ ds, okD n d = true) → okDs n ds = true
  | [], _ => rfl
  | d :: ds, h => by
    show (okD n d && okDs n ds) = true
    rw [h d List.mem_cons_self, okDs_of fun x hx => h x (List.mem_cons_of_mem _ hx)]; rfl
end
/-- the last cell is no longer mutable -/
theorem CR.pop {K : PySem.W.Frag} {H : Hp} {m : Ad} {p : Addr} {c : List Cell} {ce : Cell} (C : CR K H (m.push p) (c ++ [ce])) (hk : okCs c.length c = true) : CR K H m c ∧ H p ≠ none ∧ CellAt K (m.push p) H p ce ∧ p ∉ m.ix ∧ p ∉ m.hd := by
  have hl : m.ix.length = c.length := by have := C.len; simp [Ad.push] at this; exact this
  have nd : (m.ix ++ [p]).Nodup := C.nd
  have hp : p ∉ m.ix := fun z => by
    rw [List.nodup_append] at nd
    exact nd.2.2 p z p (by simp) rfl
  have last : (m.push p).ix[c.length]? = some p := by
    show (m.ix ++ [p])[c.length]? = some p
    rw [← hl]; simp
  obtain ⟨a, h1, h2⟩ := C.at_ c.length ce (by simp)
  rw [last] at h1; cases h1
  have hex : Ex (hid (m.push p) H) (hid m H) := fun b o e => by
    obtain ⟨⟨h3, h4⟩, h5⟩ := hid_some e
    rw [hid_of ⟨fun z => h3 (List.mem_append_left _ z), h4⟩]; exact h5
  refine ⟨⟨hl, (List.nodup_append.mp nd).1, fun k ce' e => ?_, fun b hb => C.hs b hb, fun a ha => C.dj a (List.mem_append_left _ ha), fun q hq => ⟨(C.tk q hq).1, (C.tk q hq).2.keep rfl hex⟩⟩, fun z => ?_, h2, hp, fun z => C.dj p (List.mem_append_right _ (by simp)) z⟩
  · have hk' := (List.getElem?_eq_some_iff.mp e).1
    obtain ⟨a, h3, h4⟩ := C.at_ k ce' (by rw [List.getElem?_append_left hk']; exact e)
    have h5 : m.ix[k]? = some a := by
      have z : (m.ix ++ [p])[k]? = some a := h3
      rw [List.getElem?_append_left (by rw [hl]; exact hk')] at z; exact z
    refine ⟨a, h5, ?_⟩
    have low : ∀ (j : Nat) a, j < c.length → (m.push p).ix[j]? = some a → m.ix[j]? = some a := fun j a hj z => by
      have z : (m.ix ++ [p])[j]? = some a := z
      rw [List.getElem?_append_left (by rw [hl]; exact hj)] at z; exact z
    have ok := okCs_at hk e
    cases ce' with
    | lst ds => obtain ⟨xs, h6, h7⟩ := h4; exact ⟨xs, h6, RL.low hex low ds xs ok h7⟩
    | obj C' ns ds => obtain ⟨dx, fs, h6, h7, h8⟩ := h4; exact ⟨dx, fs, h6, h7, RL.low hex low ds _ ok h8⟩
    | dct ks ds => obtain ⟨kvs, h6, h7, h8⟩ := h4; exact ⟨kvs, h6, h7, RL.low hex low ds _ ok h8⟩
    | dcT ks ds => obtain ⟨kvs, h6, h7, h8⟩ := h4; exact ⟨kvs, h6, h7, RL.low hex low ds _ ok h8⟩
  · obtain ⟨o, h6⟩ := h2.obj
    rw [z] at h6; cases h6
theorem low_push {m : Ad} {p : Addr} {c : List Cell} (hl : m.ix.length = c.length) (j : Nat) (a : Addr) (hj : j < c.length) (z : (m.push p).ix[j]? = some a) : m.ix[j]? = some a := by
  have z : (m.ix ++ [p])[j]? = some a := z
  rw [List.getElem?_append_left (by rw [hl]; exact hj)] at z; exact z
theorem ex_pop {m : Ad} {p : Addr} {H : Hp} : Ex (hid (m.push p) H) (hid m H) := fun b o e => by
  obtain ⟨⟨h3, h4⟩, h5⟩ := hid_some e
  rw [hid_of ⟨fun z => h3 (List.mem_append_left _ z), h4⟩]; exact h5

theorem Ad.ext' {m m' : Ad} (h1 : m.ix = m'.ix) (h2 : m.hd = m'.hd) : m = m' := by cases m; cases m'; simp only at h1 h2; subst h1; subst h2; rfl
theorem ix_same {m m' : Ad} (p : ∀ (k : Nat) a, m.ix[k]? = some a → m'.ix[k]? = some a) (h : m'.ix.length = m.ix.length) : m'.ix = m.ix := by
  apply List.ext_getElem?
  intro k
  by_cases hk : k < m.ix.length
  · have := List.getElem?_eq_getElem hk
    rw [this, p k _ this]
  · rw [List.getElem?_eq_none (by omega), List.getElem?_eq_none (by omega)]
theorem ex_cut {m m' : Ad} {H : Hp} (p : ∀ (k : Nat) a, m.ix[k]? = some a → m'.ix[k]? = some a) (h : m'.hd = m.hd) : Ex (hid m' H) (hid m H) := fun b o e => by
  obtain ⟨⟨h1, h2⟩, h3⟩ := hid_some e
  rw [hid_of ⟨fun z => ?_, by rw [← h]; exact h2⟩]
  · exact h3
  · obtain ⟨k, hk⟩ := List.mem_iff_getElem?.mp z
    exact h1 (List.mem_of_getElem? (p k b hk))
theorem low_cut {m m' : Ad} {n : Nat} (p : ∀ (k : Nat) a, m.ix[k]? = some a → m'.ix[k]? = some a) (hn : m.ix.length = n) (j : Nat) (a : Addr) (hj : j < n) (z : m'.ix[j]? = some a) : m.ix[j]? = some a := by
  have := List.getElem?_eq_getElem (l := m.ix) (i := j) (by omega)
  rw [this]
  rw [p j _ this] at z
  exact z
theorem CR.cut {K : PySem.W.Frag} {H : Hp} {m m' : Ad} {c : List Cell} {n : Nat} (C : CR K H m' c) (p : ∀ (k : Nat) a, m.ix[k]? = some a → m'.ix[k]? = some a) (hd : m'.hd = m.hd) (hn : m.ix.length = n) (hk : okCs n (c.take n) = true) : CR K H m (c.take n) := by
  have hlen : n ≤ m'.ix.length := by
    by_cases h0 : n = 0
    · omega
    · have h1 := List.getElem?_eq_getElem (l := m.ix) (i := n - 1) (by omega)
      have := (List.getElem?_eq_some_iff.mp (p _ _ h1)).1
      omega
  have hlc : n ≤ c.length := by rw [← C.len]; exact hlen
  have pre : m.ix = m'.ix.take n := by
    apply List.ext_getElem?
    intro k
    by_cases hk : k < n
    · have := List.getElem?_eq_getElem (l := m.ix) (i := k) (by omega)
      rw [List.getElem?_take_of_lt hk, this, p k _ this]
    · rw [List.getElem?_eq_none (by omega), List.getElem?_eq_none (by rw [List.length_take]; omega)]
  refine ⟨by rw [List.length_take]; omega, by rw [pre]; exact C.nd.sublist (List.take_sublist _ _), fun k ce e => ?_, fun b hb => C.hs b (by rw [hd]; exact hb), fun a ha hb => C.dj a (by rw [pre] at ha; exact List.mem_of_mem_take ha) (by rw [hd]; exact hb), fun q hq => ⟨by rw [← hd]; exact (C.tk q hq).1, (C.tk q hq).2.keep rfl (ex_cut p hd)⟩⟩
  have hkn : k < n := by
    have := (List.getElem?_eq_some_iff.mp e).1
    rw [List.length_take] at this; omega
  have ok := okCs_at hk e
  rw [List.getElem?_take_of_lt hkn] at e
  obtain ⟨a, h1, h2⟩ := C.at_ k ce e
  refine ⟨a, low_cut p hn k a hkn h1, ?_⟩
  cases ce with
  | lst ds => obtain ⟨xs, h3, h4⟩ := h2; exact ⟨xs, h3, RL.low (ex_cut p hd) (low_cut p hn) ds xs ok h4⟩
  | obj C' ns ds => obtain ⟨dx, fs, h3, h4, h5⟩ := h2; exact ⟨dx, fs, h3, h4, RL.low (ex_cut p hd) (low_cut p hn) ds _ ok h5⟩
  | dct ks ds => obtain ⟨kvs, h3, h4, h5⟩ := h2; exact ⟨kvs, h3, h4, RL.low (ex_cut p hd) (low_cut p hn) ds _ ok h5⟩
  | dcT ks ds => obtain ⟨kvs, h3, h4, h5⟩ := h2; exact ⟨kvs, h3, h4, RL.low (ex_cut p hd) (low_cut p hn) ds _ ok h5⟩
theorem beq_t {a b : Nat} (h : Nat.beq a b = true) : a = b := Nat.eq_of_beq_eq_true h
theorem CR.same {K : PySem.W.Frag} {H H4 : Hp} {m m4 : Ad} {c3 : List Cell} (h : c3.length = m.ix.length) (C4 : CR K H4 m4 c3) (l4 : Le m H m4 H4) : m4 = m :=
  Ad.ext' (ix_same l4.pre (by rw [C4.len, h])) l4.hd
/-- cells beyond the n-th are let go -/
theorem CR.letgo {K : PySem.W.Frag} {H H4 : Hp} {m m4 : Ad} {c3 : List Cell} {n : Nat} {y : D} {v : V} (hn : m.ix.length = n) (C4 : CR K H4 m4 c3) (r : RR K H4 m4 y v) (l4 : Le m H m4 H4) (hk : okCs n (c3.take n) = true) (hy : okD n y = true) :
    CR K H4 m (c3.take n) ∧ RR K H4 m y v ∧ Le m H m H4 :=
  ⟨C4.cut l4.pre l4.hd hn hk, R.low (ex_cut l4.pre l4.hd) (low_cut l4.pre hn) y v hy r, ⟨fun _ _ e => e, l4.ex.trans (ex_cut l4.pre l4.hd), rfl, l4.hk' (ex_cut l4.pre l4.hd), fun _ h => .inl h, l4.al⟩⟩
/-- the cells behind a turn's part: as many as ahead, the new list the last -/
def inner (n : Nat) (acc : List D) (y : D) (c : List Cell) (Q : List Cell → Prop) : Prop := c[n]? = some (.lst acc) ∧ match Nat.beq c.length (n + 1) with
  | true => Q (c.take n)
  | false => okCs (n + 1) (c.take (n + 1)) = true ∧ okD (n + 1) y = true ∧ Q (c.take n)
/-- what inner says, over the heap -/
theorem inner_ok {K : PySem.W.Frag} {H H4 : Hp} {m m4 : Ad} {c3 : List Cell} {n : Nat} {acc : List D} {y : D} {v : V} {Q : List Cell → Prop} (hn : m.ix.length = n + 1) (h : inner n acc y c3 Q) (C4 : CR K H4 m4 c3) (r : RR K H4 m4 y v) (l4 : Le m H m4 H4) :
    CR K H4 m (c3.take n ++ [.lst acc]) ∧ RR K H4 m y v ∧ Le m H m H4 ∧ Q (c3.take n) ∧ (c3.take n).length = n := by
  obtain ⟨h1, h2⟩ := h
  have hlt := (List.getElem?_eq_some_iff.mp h1).1
  have ht : c3.take (n + 1) = c3.take n ++ [.lst acc] := by
    rw [List.take_add_one, h1]; rfl
  cases e : Nat.beq c3.length (n + 1) with
  | true =>
    rw [e] at h2
    have e1 := beq_t e
    have em := CR.same (by rw [hn]; exact e1) C4 l4
    subst em
    have : c3 = c3.take n ++ [.lst acc] := by rw [← ht, List.take_of_length_le (by omega)]
    rw [← this]
    exact ⟨C4, r, l4, h2, by rw [List.length_take]; omega⟩
  | false =>
    rw [e] at h2
    obtain ⟨a, b, c⟩ := CR.letgo hn C4 r l4 h2.1 h2.2.1
    rw [ht] at a
    exact ⟨a, b, c, h2.2.2, by rw [List.length_take]; omega⟩

/-! ### [e for x in ..] -/
def lcD (i : Nat) (tt : TDt) (te : TD) : List D → List D → Env → List Cell → (List D → List Cell → Prop) → Prop
  | [], acc, _, c, Φ => okCs c.length c = true ∧ okDs c.length acc = true ∧ Φ acc c
  | d :: ds, acc, ρ, c, Φ => tt (ρ.set i (some d)) (c ++ [.lst acc]) fun b c2 => match b with
    | true => te (ρ.set i (some d)) c2 fun y c3 => acc.length < sizeLine ∧ inner c.length acc y c3 fun c4 => lcD i tt te ds (acc ++ [y]) ρ c4 Φ
    | false => inner c.length acc .non c2 fun c4 => lcD i tt te ds acc ρ c4 Φ
def dLc (ti : TDs) (i : Nat) (tt : TDt) (te : TD) : TD := fun ρ c Φ => ti ρ c fun ds c1 => lcD i tt te ds [] ρ c1 fun xs c2 => Φ (.lst xs) c2
theorem wipe1 {σ : L2.St} {i : Nat} : wipe σ [i] = σ.set i none := rfl
theorem SR.blk {K : PySem.W.Frag} {σ : L2.St} {H : Hp} {m : Ad} {ρ : Env} {c : List Cell} {i : Nat} {d : D} {v : V} (S : SR K σ H m ρ c) (r : RR K H m d v) : SR K ((wipe σ [i]).set i (some v)) H m (ρ.set i (some d)) c := by
  have e : (wipe σ [i]).set i (some v) = σ.set i (some v) := by rw [wipe1, List.set_set]
  rw [e]; exact S.set r
/-- the loop of a comprehension -/
theorem lc_walk {K : PySem.W.Frag} {J : It} {m : Ad} {H1 : Hp} {ds : List D} {σ : L2.St} {ρ : Env} {c : List Cell} {i : Nat} {tt : TDt} {te : TD} {Φ : List D → List Cell → Prop} {Qd : Addr → Hp → Prop} (wk : Walks K J m H1 ds) (S : SR K σ H1 m ρ c) (h : lcD i tt te ds [] ρ c Φ)
    (q : ∀ p xs c' H', Φ xs c' → CR K H' m c' → RR K H' m (.lst xs) (.ref p) → Le m H1 m H' → Qd p H') : ∀ p, H1 p = none → ∃ W : Nat → Nat → Hp → Prop, (∃ mm, W 0 mm (upd H1 p (.lst []))) ∧ ∀ j mm H, W j mm H →
      (J.stop j H ∧ Qd p H) ∨ (J.go j H ∧ ∃ Nx : Hp → Prop, (∀ H', Nx H' → ∃ m', m' < mm ∧ W (j + 1) m' H') ∧ ∀ x H', J.yld j H x H' → gName i x (wipe σ [i]) H' fun σ2 H2 => wipe σ2 [i] = wipe σ [i] ∧ liftT K tt σ2 H2 fun b H3 =>
        if b = true then lift K te σ2 H3 fun y H4 => ∃ acc, H4 p = some (.lst acc) ∧ acc.length < sizeLine ∧ Nx (upd H4 p (.lst (acc ++ [y]))) else Nx H3) := by
  intro p hp
  have z0 := cell_new (ce := .lst []) (o := .lst []) S.cr hp ⟨[], upd_same, rfl⟩
  -- the state behind a number of turns
  refine ⟨fun j mm H => mm = ds.length - j ∧ j ≤ ds.length ∧ ∃ c' acc, c'.length = c.length ∧ CR K H (m.push p) (c' ++ [.lst acc]) ∧ Le m H1 (m.push p) H ∧ lcD i tt te (ds.drop j) acc ρ c' Φ,
    ⟨ds.length, by simp, Nat.zero_le _, c, [], rfl, z0.1, z0.2.1, by simpa using h⟩, ?_⟩
  rintro j mm H ⟨rfl, hj, c', acc, hl, C, l, hf⟩
  by_cases hlt : j < ds.length
  · have wk' := wk
    refine .inr ⟨wk.go j (m.push p) H _ l C hlt, fun H' => ∃ c' acc, c'.length = c.length ∧ CR K H' (m.push p) (c' ++ [.lst acc]) ∧ Le m H1 (m.push p) H' ∧ lcD i tt te (ds.drop (j + 1)) acc ρ c' Φ, fun H' w => ⟨ds.length - (j + 1), by omega, rfl, hlt, w⟩, fun x H2 y => ?_⟩
    obtain ⟨d, hd, C2, l2, rx⟩ := wk.yld j (m.push p) H _ x H2 l C hlt y
    have e : ds.drop j = d :: ds.drop (j + 1) := by
      rw [List.drop_eq_getElem_cons hlt]
      congr 1
      have := List.getElem?_eq_getElem hlt
      rw [hd] at this
      exact (Option.some.inj this).symm
    rw [e] at hf
    have L2 := l.trans l2
    have S2 : SR K ((wipe σ [i]).set i (some x)) H2 (m.push p) (ρ.set i (some d)) (c' ++ [.lst acc]) := (S.step L2 C2).blk rx
    refine ⟨by rw [wipe1, wipe1, List.set_set, List.set_set], m.push p, _, _, _, S2, hf, fun b c2 H3 m3 hb C3 l3 => ?_⟩
    have hmn : (m.push p).ix.length = c'.length + 1 := by
      have := C2.len
      simp at this
      exact this
    cases b with
    | false =>
      dsimp only
      rw [if_neg (by decide)]
      obtain ⟨z1, _, z2, z3, z4⟩ := inner_ok (v := .non) hmn hb C3 rfl l3
      exact ⟨c2.take c'.length, acc, by rw [z4, hl], z1, L2.trans z2, z3⟩
    | true =>
      dsimp only
      rw [if_pos rfl]
      refine ⟨m3, _, c2, _, S2.step l3 C3, hb, fun y c3 v H4 m4 hy C4 R4 l4 => ?_⟩
      obtain ⟨hsz, hin⟩ := hy
      obtain ⟨z1, z5, z2, z3, z4⟩ := inner_ok hmn hin C4 R4 (l3.trans l4)
      obtain ⟨a, h5, xs, h6, h7⟩ := z1.at_ c'.length (.lst acc) (by rw [List.getElem?_append_right (by omega), z4]; simp)
      have last : (m.push p).ix[c'.length]? = some p := by
        show (m.ix ++ [p])[c'.length]? = some p
        rw [hl, ← S.cr.len]; simp
      rw [last] at h5; cases h5
      refine ⟨xs, h6, by rw [rlen h7]; exact hsz, ?_⟩
      have hm : p ∈ (m.push p).ix := List.mem_of_getElem? last
      have z := cell_put (o := .lst (xs ++ [v])) (ce := .lst (acc ++ [y])) z1 last ⟨_, upd_same, by show RL _ _ (hid (m.push p) _) _ _; rw [hid_mut hm]; exact RL.append h7 ⟨v, [], rfl, z5, rfl⟩⟩
      have ec : (c3.take c'.length ++ [Cell.lst acc]).set c'.length (.lst (acc ++ [y])) = c3.take c'.length ++ [.lst (acc ++ [y])] := by
        rw [List.set_append_right _ _ (by omega), z4]; simp
      rw [ec] at z
      exact ⟨c3.take c'.length, acc ++ [y], by rw [z4, hl], z.1, (L2.trans z2).trans z.2, z3⟩
  · have ej : j = ds.length := by omega
    subst ej
    rw [List.drop_length] at hf
    obtain ⟨h1, h2, h3⟩ := hf
    obtain ⟨C', _, ⟨xs, h4, h5⟩, hp1, hp2⟩ := C.pop h1
    refine .inl ⟨wk.stop _ (m.push p) H _ l C (Nat.le_refl _), q p acc c' H h3 C' ⟨p, xs, rfl, by rw [hid_of ⟨hp1, hp2⟩]; exact h4, RL.low ex_pop (low_push C'.len) acc xs h2 h5⟩ ⟨fun _ _ e => e, l.ex.trans ex_pop, rfl, l.hk' ex_pop, fun _ h => .inl h, l.al⟩⟩
section
variable {X : Cx} {tg iter e elt : Expr} {ta te : TD} {tt : TDt} {pos pp tp : Pos} {ti : TDs} {ifs : List Expr} {scope : Scope} {x y : Str} {i j : Nat}
abbrev PTD (X : Cx) (ifs : List Expr) (t : TDt) : Prop := PTs X ifs (liftT X.K t)
def dYes : TDt := fun _ c Φ => Φ true c
theorem ptd_nil : PTD X [] dYes := ⟨fun pins s σ H Q I ⟨m, ρ, c, Φ, S, h, q⟩ => pts_nil.run pins s σ H Q I (q true c H m h S.cr (Le.refl _ _))⟩
theorem ptd_one (h : PDt X e tt) : PTD X [e] tt := pts_one h
theorem pd_lc (hc : X.calm = true) (hN : X.N.Nodup) (hi : PID X (.Name x tp) iter ti) (ok : blkC X.N X.env.scope scope [(x, i)] = true)
    (hg : ∀ (s : Shared) (H : Hp) (C : Addr) (cl : List (Str × Addr)) (fp : List Addr), PG (X.blk s H scope (compEnvC scope cl C X.env) fp) (.Name x tp) (gName i))
    (ht : ∀ (s : Shared) (H : Hp) (C : Addr) (cl : List (Str × Addr)) (fp : List Addr), PTD (X.blk s H scope (compEnvC scope cl C X.env) fp) ifs tt)
    (he : ∀ (s : Shared) (H : Hp) (C : Addr) (cl : List (Str × Addr)) (fp : List Addr), PD (X.blk s H scope (compEnvC scope cl C X.env) fp) elt te) (hs : ∀ x, foldedSetIterable iter X.env x = pure x := by intro _; rfl) :
    PD X (.ListComp elt [⟨.Name x tp, iter, ifs, 0⟩] scope pos) (dLc ti i tt te) :=
  PE.imp (pe_lc (own := [(x, i)]) hc hN hi (blkOk_by ok) hg ht he hs) fun σ H Q ⟨m, ρ, c, Φ, S, h, q⟩ =>
    ⟨m, ρ, c, _, S, h, fun ds c1 J H1 m1 hx C1 wk L1 => lc_walk wk (S.step L1 C1) hx fun p xs c' H' h' C' R' l' => q _ c' _ H' m1 h' C' R' (L1.trans l')⟩
/-- y = [e for x in ..] -/
theorem psd_setLc {spos py : Pos} (hc : X.calm = true) (hN : X.N.Nodup) (hy : X.N[j]? = some y) (hyl : X.env.scope.names.lookup y = some .local)
    (hsw : swapsWith (.ListComp elt [⟨.Name x tp, iter, ifs, 0⟩] scope pos) (some (.Name y py)) spos.line X.env = pure true)
    (hi : PID X (.Name x tp) iter ti) (ok : blkC X.N X.env.scope scope [(x, i)] = true)
    (hg : ∀ (s : Shared) (H : Hp) (C : Addr) (cl : List (Str × Addr)) (fp : List Addr), PG (X.blk s H scope (compEnvC scope cl C X.env) fp) (.Name x tp) (gName i))
    (ht : ∀ (s : Shared) (H : Hp) (C : Addr) (cl : List (Str × Addr)) (fp : List Addr), PTD (X.blk s H scope (compEnvC scope cl C X.env) fp) ifs tt)
    (he : ∀ (s : Shared) (H : Hp) (C : Addr) (cl : List (Str × Addr)) (fp : List Addr), PD (X.blk s H scope (compEnvC scope cl C X.env) fp) elt te) (hs : ∀ x, foldedSetIterable iter X.env x = pure x := by intro _; rfl) :
    PSD X (.Assign [.Name y py] (.ListComp elt [⟨.Name x tp, iter, ifs, 0⟩] scope pos) spos) (dSet j (dLc ti i tt te)) :=
  PS.imp (ps_setLc (i := j) (own := [(x, i)]) hc hN hy hyl hsw hi (blkOk_by ok) hg ht he hs) fun Dn σ H ⟨m, ρ, c, De, S, h, n, r, b, k⟩ =>
    ⟨m, ρ, c, _, S, h, fun ds c1 J H1 m1 hx C1 wk L1 => lc_walk wk (S.step L1 C1) hx fun p xs c' H' h' C' R' l' => n _ H' m1 _ c' h' ((S.step (L1.trans l') C').set R') (L1.trans l')⟩
end
end Cw

namespace Cw
open PySem PySem.Spec PyProof.Rows L2

/-! ### what a def promises, over data -/
abbrev Pm := List Cell → List D → (D → List Cell → Prop) → Prop
def spD (K : PySem.W.Frag) (n0 np : Nat) (S : Pm) : Sp := fun vs H Q _ => ∃ (m : Ad) (c : List Cell) (ds : List D) (Φ : D → List Cell → Prop), c.length = n0 ∧ ds.length = np ∧ CR K H m c ∧ RRL K H m ds vs ∧ S c ds Φ ∧
  ∀ d c' w H', Φ d c' → CR K H' m c' → RR K H' m d w → Le m H m H' → Q w H'
/-- a cell beyond the n0-th is let go: what it held stays -/
def melt1 (n0 : Nat) (c : List Cell) : D → Option D
  | .cell k => match c[k]? with
    | some (.lst es) => if Nat.ble n0 k && okDs n0 es then some (.lst es) else none
    | _ => none
  | d => if okD n0 d then some d else none
def melts (n0 : Nat) (c : List Cell) : List D → Option (List D)
  | [] => some []
  | d :: ds => match melt1 n0 c d, melts n0 c ds with
    | some e, some es => some (e :: es)
    | _, _ => none
def retD (n0 : Nat) (Φ : D → List Cell → Prop) (d : D) (c : List Cell) : Prop := match Nat.beq c.length n0 with
  | true => Φ d c
  | false => okCs n0 (c.take n0) = true ∧ match d with
    | .cell k => match c[k]? with
      | some (.dct ks ds) => ∃ es, Nat.ble n0 k = true ∧ melts n0 c ds = some es ∧ Φ (.dct ks es) (c.take n0)
      | _ => ∃ ds, c[k]? = some (.lst ds) ∧ Nat.ble n0 k = true ∧ okDs n0 ds = true ∧ Φ (.lst ds) (c.take n0)
    | .dct ks ds => ∃ es, melts n0 c ds = some es ∧ Φ (.dct ks es) (c.take n0)
    | d => okD n0 d = true ∧ Φ d (c.take n0)
def startD (N : List Str) (ds : List D) : Env := ds.map some ++ List.replicate (N.length - ds.length) none
theorem melt_ok {K : PySem.W.Frag} {H' : Hp} {m m' : Ad} {c' : List Cell} {n0 : Nat} (hn : m.ix.length = n0) (pre : ∀ (k : Nat) a, m.ix[k]? = some a → m'.ix[k]? = some a) (hd : m'.hd = m.hd) (C : CR K H' m' c') (ex : Ex (hid m' H') (hid m H')) :
    ∀ {d e : D} {v : V}, melt1 n0 c' d = some e → RR K H' m' d v → RR K H' m e v := by
  have gen : ∀ {d e : D} {v : V}, (if okD n0 d then some d else none) = some e → RR K H' m' d v → RR K H' m e v := fun {d e v} h r => by
    by_cases hk : okD n0 d = true
    · rw [if_pos hk] at h; cases h
      exact R.low ex (low_cut pre hn) _ v hk r
    · rw [if_neg hk] at h; cases h
  intro d e v h r
  cases d with
  | cell k =>
    obtain ⟨a, h5, rfl⟩ := r
    have h : (match c'[k]? with
      | some (.lst es) => if Nat.ble n0 k && okDs n0 es then some (D.lst es) else none
      | _ => none) = some e := h
    cases e1 : c'[k]? with
    | none => rw [e1] at h; cases h
    | some ce =>
      rw [e1] at h
      cases ce with
      | lst es =>
        have h : (if Nat.ble n0 k && okDs n0 es then some (D.lst es) else none) = some e := h
        by_cases hb : (Nat.ble n0 k && okDs n0 es) = true
        · rw [if_pos hb] at h
          cases h
          obtain ⟨b1, b2⟩ := Bool.and_eq_true_iff.mp hb
          obtain ⟨b, h6, xs, h7, h8⟩ := C.at_ k _ e1
          rw [h5] at h6; cases h6
          refine ⟨a, xs, rfl, ?_, RL.low ex (low_cut pre hn) es xs b2 h8⟩
          rw [hid_of ⟨fun z => ?_, fun z => C.dj a (List.mem_of_getElem? h5) (by rw [hd]; exact z)⟩]
          · exact h7
          · obtain ⟨j, hj⟩ := List.mem_iff_getElem?.mp z
            have hj2 := pre j a hj
            have e1 := (List.getElem?_eq_some_iff.mp h5)
            have e2 := (List.getElem?_eq_some_iff.mp hj2)
            have : k = j := (List.getElem_inj C.nd).mp (e1.2.trans e2.2.symm)
            subst this
            have := (List.getElem?_eq_some_iff.mp hj).1
            have := Nat.le_of_ble_eq_true b1
            omega
        · rw [if_neg hb] at h; cases h
      | obj _ _ _ => cases h
      | dct _ _ => cases h
      | dcT _ _ => cases h
  | non => exact gen (d := .non) h r
  | bl b => exact gen (d := .bl b) h r
  | int i => exact gen (d := .int i) h r
  | str x => exact gen (d := .str x) h r
  | tup ds => exact gen (d := .tup ds) h r
  | lst ds => exact gen (d := .lst ds) h r
  | fl ds => exact gen (d := .fl ds) h r
  | ins C' ns ds => exact gen (d := .ins C' ns ds) h r
  | dct _ _ => exact gen (d := .dct _ _) h r
  | dcT _ _ => exact gen (d := .dcT _ _) h r
  | exc a dd C' ns ds => exact gen (d := .exc a dd C' ns ds) h r
  | raw v => exact gen (d := .raw v) h r
theorem melts_ok {K : PySem.W.Frag} {H' : Hp} {m m' : Ad} {c' : List Cell} {n0 : Nat} (hn : m.ix.length = n0) (pre : ∀ (k : Nat) a, m.ix[k]? = some a → m'.ix[k]? = some a) (hd : m'.hd = m.hd) (C : CR K H' m' c') (ex : Ex (hid m' H') (hid m H')) :
    ∀ {ds es : List D} {vs : List V}, melts n0 c' ds = some es → RRL K H' m' ds vs → RRL K H' m es vs
  | [], es, vs, h, r => by cases h; exact r
  | d :: ds, es, vs, h, r => by
    obtain ⟨x, t, rfl, r1, r2⟩ := r
    unfold melts at h
    cases e1 : melt1 n0 c' d with
    | none => rw [e1] at h; cases h
    | some e =>
      cases e2 : melts n0 c' ds with
      | none => rw [e1, e2] at h; cases h
      | some es' =>
        rw [e1, e2] at h; cases h
        exact ⟨x, t, rfl, melt_ok hn pre hd C ex e1 r1, melts_ok hn pre hd C ex e2 r2⟩
theorem ret_ok {K : PySem.W.Frag} {H H' : Hp} {m m' : Ad} {c' : List Cell} {Φ : D → List Cell → Prop} {d : D} {v : V} {Q : VK} {n0 : Nat} (hn : m.ix.length = n0) (q : ∀ d c' w H', Φ d c' → CR K H' m c' → RR K H' m d w → Le m H m H' → Q w H')
    (h : retD n0 Φ d c') (C : CR K H' m' c') (r : RR K H' m' d v) (l : Le m H m' H') : Q v H' := by
  unfold retD at h
  cases e : Nat.beq c'.length n0 with
  | true =>
    rw [e] at h
    have e1 := ix_same l.pre (by rw [C.len, beq_t e, hn])
    have em : m' = m := Ad.ext' e1 l.hd
    subst em
    exact q d c' v H' h C r l
  | false =>
    rw [e] at h
    obtain ⟨hk, h⟩ := h
    have C' := C.cut l.pre l.hd hn hk
    have ex : Ex (hid m' H') (hid m H') := ex_cut l.pre l.hd
    have l' : Le m H m H' := ⟨fun _ _ e => e, l.ex.trans ex, rfl, l.hk' ex, fun _ h => .inl h, l.al⟩
    have gen : ∀ d', okD n0 d' = true ∧ Φ d' (c'.take n0) → RR K H' m' d' v → Q v H' := fun d' ⟨h1, h2⟩ r => q d' _ v H' h2 C' (R.low ex (low_cut l.pre hn) d' v h1 r) l'
    cases d with
    | cell k =>
      have lst : (∃ ds, c'[k]? = some (.lst ds) ∧ Nat.ble n0 k = true ∧ okDs n0 ds = true ∧ Φ (.lst ds) (c'.take n0)) → Q v H' := fun h => by
        obtain ⟨ds, h1, h2, h3, h4⟩ := h
        obtain ⟨a, h5, rfl⟩ := r
        obtain ⟨b, h6, xs, h7, h8⟩ := C.at_ k _ h1
        rw [h5] at h6; cases h6
        refine q (.lst ds) _ (.ref a) H' h4 C' ⟨a, xs, rfl, ?_, RL.low ex (low_cut l.pre hn) ds xs h3 h8⟩ l'
        rw [hid_of ⟨fun z => ?_, fun z => C.dj a (List.mem_of_getElem? h5) (by rw [l.hd]; exact z)⟩]
        · exact h7
        · obtain ⟨j, hj⟩ := List.mem_iff_getElem?.mp z
          have hj2 := l.pre j a hj
          have e1 := (List.getElem?_eq_some_iff.mp h5)
          have e2 := (List.getElem?_eq_some_iff.mp hj2)
          have : k = j := (List.getElem_inj C.nd).mp (e1.2.trans e2.2.symm)
          subst this
          have := (List.getElem?_eq_some_iff.mp hj).1
          have := Nat.le_of_ble_eq_true h2
          omega
      have h : (match c'[k]? with
        | some (.dct ks ds) => ∃ es, Nat.ble n0 k = true ∧ melts n0 c' ds = some es ∧ Φ (.dct ks es) (c'.take n0)
        | _ => ∃ ds, c'[k]? = some (.lst ds) ∧ Nat.ble n0 k = true ∧ okDs n0 ds = true ∧ Φ (.lst ds) (c'.take n0)) := h
      cases e1 : c'[k]? with
      | none => rw [e1] at h lst; exact lst h
      | some ce =>
        cases ce with
        | lst es => rw [e1] at h lst; exact lst h
        | obj _ _ _ => rw [e1] at h lst; exact lst h
        | dcT _ _ => rw [e1] at h lst; exact lst h
        | dct ks ds =>
          rw [e1] at h
          obtain ⟨es, h2, h3, h4⟩ := h
          obtain ⟨a, h5, rfl⟩ := r
          obtain ⟨b, h6, kvs, h7, h8, h9⟩ := C.at_ k _ e1
          rw [h5] at h6; cases h6
          refine q (.dct ks es) _ (.ref a) H' h4 C' ⟨a, kvs, rfl, .inl ?_, h8, melts_ok hn l.pre l.hd C ex h3 h9⟩ l'
          rw [hid_of ⟨fun z => ?_, fun z => C.dj a (List.mem_of_getElem? h5) (by rw [l.hd]; exact z)⟩]
          · exact h7
          · obtain ⟨j, hj⟩ := List.mem_iff_getElem?.mp z
            have hj2 := l.pre j a hj
            have e1 := (List.getElem?_eq_some_iff.mp h5)
            have e2 := (List.getElem?_eq_some_iff.mp hj2)
            have : k = j := (List.getElem_inj C.nd).mp (e1.2.trans e2.2.symm)
            subst this
            have := (List.getElem?_eq_some_iff.mp hj).1
            have := Nat.le_of_ble_eq_true h2
            omega
    | non => exact gen _ h r
    | bl b => exact gen _ h r
    | int i => exact gen _ h r
    | str x => exact gen _ h r
    | tup ds => exact gen _ h r
    | lst ds => exact gen _ h r
    | fl ds => exact gen _ h r
    | ins C' ns ds => exact gen _ h r
    | exc a dd C' ns ds => exact gen _ h r
    | dct ks ds =>
      obtain ⟨es, h1, h2⟩ := h
      obtain ⟨a, kvs, rfl, h3, h4, h5⟩ := r
      exact q (.dct ks es) _ (.ref a) H' h2 C' ⟨a, kvs, rfl, ex_rd ex h3, h4, melts_ok hn l.pre l.hd C ex h1 h5⟩ l'
    | dcT ks ds => exact gen _ h r
    | raw w => exact gen _ h r
theorem start_slots {K : PySem.W.Frag} {H : Hp} {m : Ad} {c : List Cell} {N : List Str} {ds : List D} {vs : List V} (C : CR K H m c) (r : RRL K H m ds vs) : SR K (L2.start N vs) H m (startD N ds) c := by
  have hl := RL.length r
  refine ⟨C, by unfold startD L2.start; rw [List.length_append, List.length_append, List.length_map, List.length_map, List.length_replicate, List.length_replicate, hl], fun i d e => ?_⟩
  unfold startD at e
  by_cases hi : i < ds.length
  · rw [List.getElem?_append_left (by simpa using hi), List.getElem?_map] at e
    cases e1 : ds[i]? with
    | none => rw [e1] at e; cases e
    | some d' =>
      rw [e1] at e; cases e
      obtain ⟨x, h1, h2⟩ := RL.get r e1
      refine ⟨x, ?_, h2⟩
      unfold L2.start
      rw [List.getElem?_append_left (by simp; omega), List.getElem?_map, h1]; rfl
  · rw [List.getElem?_append_right (by simpa using hi)] at e
    rw [List.getElem?_replicate] at e
    split at e <;> cases e
section
variable {P : Program} {w : World} {K : PySem.W.Frag} {mg : Str → Option Value} {base : Heap}
/-- THE RULE for a def, over data -/
theorem fnD {x qual : Str} {st : Stmt} {f : Addr} {fd : FuncData} {N ps : List Str} {k n0 : Nat} {S : Pm} (F : Fun K x qual st f fd) (Sc : FnScope N ps (defScope st))
    (hbody : ∀ (cdv : Value) (A : Around) (outer : List PySem.Env) (s : Shared) (H : Hp) (E : XK), Room k (A.deeper (envOfC qual (defScope st) s.heap.objs.size f cdv)) →
      ∃ ts, PSDs (cxOf CX0 P w K mg base N qual (defScope st) f cdv A outer s H E).nox (defBody st) ts ∧
        ∀ c ds Φ, c.length = n0 → ds.length = ps.length → S c ds Φ → ts ⟨fun _ c' => retD n0 Φ .non c', retD n0 Φ, fun _ _ => False, fun _ _ => False⟩ (startD N ds) c) :
    FnOk P w K mg base CX0 (k + 1) f fd ps (spD K n0 ps.length S) := by
  refine F.ok Sc (fun vs H Q E h => ?_) (fun cdv A outer s H vs Q E hr h => ?_)
  · obtain ⟨m, c, ds, Φ, h1, h2, C, r, _⟩ := h
    rw [← RL.length r]; exact h2
  · obtain ⟨m, c, ds, Φ, h1, h2, C, r, hS, q⟩ := h
    obtain ⟨ts, hp, ht⟩ := hbody cdv A outer s H E hr
    have hn : m.ix.length = n0 := by rw [C.len]; exact h1
    exact ⟨_, hp, m, startD N ds, c, _, start_slots C r, ht c ds Φ h1 h2 hS, fun σ' H' m' ρ' c' h' S' l => ret_ok hn q h' S'.cr rfl l, fun d c' v H' m' h' C' r' l => ret_ok hn q h' C' r' l, fun _ _ _ _ _ z => z.elim, fun _ _ _ _ _ z => z.elim⟩
end

/-! ### calls -/
/-- nothing that may change is handed in -/
def callP (S : Pm) (ds : List D) (c : List Cell) (Φ : D → List Cell → Prop) : Prop := okDs 0 ds = true ∧ S [] ds fun d _ => Φ d c
/-- the first argument is a mutable object -/
def callM (S : Pm) (ds : List D) (c : List Cell) (Φ : D → List Cell → Prop) : Prop := match ds with
  | .cell k :: r => ∃ ce, c[k]? = some ce ∧ okC 0 ce = true ∧ okDs 0 r = true ∧ S [ce] (.cell 0 :: r) fun d c' => match c' with
    | [ce'] => okC 0 ce' = true ∧ okD 0 d = true ∧ Φ d (c.set k ce')
    | _ => False
  | _ => False
section
variable {K : PySem.W.Frag} {m : Ad} {H : Hp} {c : List Cell}
def Ad.none (m : Ad) : Ad := ⟨[], m.hd ++ m.ix⟩
theorem hid_none (m : Ad) (H : Hp) : hid m.none H = hid m H := by
  funext b
  unfold hid Ad.none
  by_cases h : b ∈ m.ix
  · simp [h]
  · by_cases h2 : b ∈ m.hd <;> simp [h, h2]
theorem _root_.Cw.TabK.of_hid {m m' : Ad} {H : Hp} {P : Addr} {q : Str} (t : TabK m H P q) (e : hid m H = hid m' H) : TabK m' H P q := t.keep rfl (by rw [e]; exact Ex.refl _)
theorem CR.tk_none (C : CR K H m c) : ∀ p ∈ tabsK K, p.1 ∈ m.none.hd ∧ TabK m.none H p.1 p.2.1 := fun p hp => ⟨List.mem_append_left _ (C.tk p hp).1, (C.tk p hp).2.of_hid (hid_none m H).symm⟩
theorem sp_pure {S : Pm} {np : Nat} {ds : List D} {vs : List V} {Φ : D → List Cell → Prop} {Q : VK} {E : XK} (C : CR K H m c) (r : RRL K H m ds vs) (hl : ds.length = np) (h : callP S ds c Φ) (q : KQ K H m Φ Q) : spD K 0 np S vs H Q E := by
  obtain ⟨ok, hS⟩ := h
  have hall : ∀ b ∈ m.hd ++ m.ix, ∃ o, H b = some o ∧ Mu o := fun b hb => by
    rcases List.mem_append.mp hb with z | z
    · exact C.hs b z
    · obtain ⟨k, hk⟩ := List.mem_iff_getElem?.mp z
      obtain ⟨ce, _, h2⟩ := C.some_at hk
      exact h2.mu
  have C0 : CR K H m.none [] := ⟨rfl, List.nodup_nil, fun k ce e => by simp at e, hall, fun a ha => (by cases ha), C.tk_none⟩
  refine ⟨m.none, [], ds, _, rfl, hl, C0, ?_, hS, fun d c' w H' hd C' r' l => ?_⟩
  · show RL K [] (hid m.none H) ds vs
    rw [hid_none]
    exact RL.low (n := 0) (Ex.refl _) (fun k a hk => absurd hk (Nat.not_lt_zero _)) ds vs ok r
  · have hex : Ex (hid m H) (hid m H') := by
      have := l.ex
      rw [hid_none, hid_none] at this
      exact this
    have l' : Le m H m H' := ⟨fun _ _ e => e, hex, rfl, fun b hb => (l.hk b (List.mem_append_left _ hb)).imp id fun z => ⟨z.1, fun q t => by
      have := z.2 q (t.of_hid (hid_none m H).symm)
      exact this.of_hid (hid_none m H')⟩, fun _ h => .inl h, l.al⟩
    refine q d c w H' m hd ⟨C.len, C.nd, fun k ce e => ?_, fun b hb => l'.hs hb (C.hs b hb), C.dj, C.tk' l'⟩ ?_ l'
    · obtain ⟨a, h1, h2⟩ := C.at_ k ce e
      exact ⟨a, h1, h2.step l' fun o e' => l.kcell (List.mem_append_right _ (List.mem_of_getElem? h1)) h2 e'⟩
    · have r2 : R K [] (hid m.none H') d w := r'
      rw [hid_none] at r2
      exact R.mono (Ex.refl _) (fun k a e => by simp at e) d w r2
def Ad.one (m : Ad) (k : Nat) (a : Addr) : Ad := ⟨[a], m.hd ++ m.ix.eraseIdx k⟩
theorem hid_one {k : Nat} {a : Addr} (hk : m.ix[k]? = some a) (H : Hp) : hid (m.one k a) H = hid m H := by
  funext b
  unfold hid Ad.one
  have e : b ∈ m.ix ↔ b = a ∨ b ∈ m.ix.eraseIdx k := by
    obtain ⟨hlt, he⟩ := List.getElem?_eq_some_iff.mp hk
    constructor
    · intro h
      by_cases hb : b = a
      · exact .inl hb
      · refine .inr ?_
        rw [List.mem_eraseIdx_iff_getElem?]
        obtain ⟨j, hj⟩ := List.mem_iff_getElem?.mp h
        exact ⟨j, fun z => by subst z; rw [hk] at hj; exact hb (Option.some.inj hj).symm, hj⟩
    · rintro (rfl | h)
      · exact List.mem_of_getElem? hk
      · exact List.mem_of_mem_eraseIdx h
  have e2 : (b ∈ [a] ∨ b ∈ m.hd ++ m.ix.eraseIdx k) ↔ (b ∈ m.ix ∨ b ∈ m.hd) := by
    rw [List.mem_singleton, List.mem_append, e]
    constructor
    · rintro (h | h | h)
      · exact .inl (.inl h)
      · exact .inr h
      · exact .inl (.inr h)
    · rintro ((h | h) | h)
      · exact .inl h
      · exact .inr (.inr h)
      · exact .inr (.inl h)
  by_cases h : b ∈ m.ix ∨ b ∈ m.hd
  · rw [if_pos (e2.mpr h), if_pos h]
  · rw [if_neg (fun z => h (e2.mp z)), if_neg h]
theorem sp_one {S : Pm} {np : Nat} {ds : List D} {vs : List V} {Φ : D → List Cell → Prop} {Q : VK} {E : XK} (C : CR K H m c) (r : RRL K H m ds vs) (hl : ds.length = np) (h : callM S ds c Φ) (q : KQ K H m Φ Q) : spD K 1 np S vs H Q E := by
  unfold callM at h
  cases ds with
  | nil => exact h.elim
  | cons d0 rest =>
    cases d0 <;> first | exact h.elim | skip
    rename_i k
    obtain ⟨v, vr, e1, ⟨a, hk, e2⟩, rr⟩ := r
    obtain ⟨ce, hce, ok1, ok2, hS⟩ := h
    subst e1; subst e2
    have hnd : a ∉ m.ix.eraseIdx k := fun z => by
      rw [List.mem_eraseIdx_iff_getElem?] at z
      obtain ⟨j, hj, hja⟩ := z
      have e1 := List.getElem?_eq_some_iff.mp hk
      have e2 := List.getElem?_eq_some_iff.mp hja
      exact hj ((List.getElem_inj C.nd).mp (e2.2.trans e1.2.symm))
    have hall : ∀ b ∈ m.hd ++ m.ix.eraseIdx k, ∃ o, H b = some o ∧ Mu o := fun b hb => by
      rcases List.mem_append.mp hb with z | z
      · exact C.hs b z
      · obtain ⟨j, hj⟩ := List.mem_iff_getElem?.mp (List.mem_of_mem_eraseIdx z)
        obtain ⟨ce, _, h2⟩ := C.some_at hj
        exact h2.mu
    obtain ⟨b, hb, hat⟩ := C.at_ k ce hce
    rw [hk] at hb; cases hb
    have low : ∀ (j : Nat) (x : Addr), j < 0 → m.ix[j]? = some x → (m.one k a).ix[j]? = some x := fun j x hj => absurd hj (Nat.not_lt_zero _)
    have hat1 : CellAt K (m.one k a) H a ce := by
      cases ce with
      | lst es => obtain ⟨xs, h3, h4⟩ := hat; exact ⟨xs, h3, by show RL K _ (hid (m.one k a) H) es xs; rw [hid_one hk]; exact RL.low (Ex.refl _) low es xs ok1 h4⟩
      | obj C' ns es => obtain ⟨dx, fs, h3, h4, h5⟩ := hat; exact ⟨dx, fs, h3, h4, by show RL K _ (hid (m.one k a) H) es _; rw [hid_one hk]; exact RL.low (Ex.refl _) low es _ ok1 h5⟩
      | dct ks es => obtain ⟨kvs, h3, h4, h5⟩ := hat; exact ⟨kvs, h3, h4, by show RL K _ (hid (m.one k a) H) es _; rw [hid_one hk]; exact RL.low (Ex.refl _) low es _ ok1 h5⟩
      | dcT ks es => obtain ⟨kvs, h3, h4, h5⟩ := hat; exact ⟨kvs, h3, h4, by show RL K _ (hid (m.one k a) H) es _; rw [hid_one hk]; exact RL.low (Ex.refl _) low es _ ok1 h5⟩
    have C0 : CR K H (m.one k a) [ce] := ⟨rfl, by simp [Ad.one], fun j ce' e => by
      have hj : j = 0 := by
        have := (List.getElem?_eq_some_iff.mp e).1
        simp at this; exact this
      subst hj
      simp at e; subst e
      exact ⟨a, rfl, hat1⟩, hall, fun x hx => by
        have : x = a := by simpa [Ad.one] using hx
        subst this
        intro z
        rcases List.mem_append.mp z with z | z
        · exact C.dj x (List.mem_of_getElem? hk) z
        · exact hnd z, fun p hp => ⟨List.mem_append_left _ (C.tk p hp).1, (C.tk p hp).2.of_hid (hid_one hk H).symm⟩⟩
    refine ⟨m.one k a, [ce], .cell 0 :: rest, _, rfl, hl, C0, ⟨.ref a, vr, rfl, ⟨a, rfl, rfl⟩, ?_⟩, hS, fun d c' w H' hd C' r' l => ?_⟩
    · show RL K [a] (hid (m.one k a) H) rest vr
      rw [hid_one hk]
      exact RL.low (n := 0) (Ex.refl _) (fun k a hk => absurd hk (Nat.not_lt_zero _)) rest vr ok2 rr
    · cases c' with
      | nil => exact hd.elim
      | cons ce' t =>
        cases t with
        | cons _ _ => exact hd.elim
        | nil =>
          obtain ⟨ok3, ok4, hΦ⟩ := hd
          have hex : Ex (hid m H) (hid m H') := by
            have := l.ex
            rw [hid_one hk, hid_one hk] at this
            exact this
          have l' : Le m H m H' := ⟨fun _ _ e => e, hex, rfl, fun b hb => (l.hk b (List.mem_append_left _ hb)).imp id fun z => ⟨z.1, fun q t => by
            have := z.2 q (t.of_hid (hid_one hk H).symm)
            exact this.of_hid (hid_one hk H')⟩, fun _ h => .inl h, l.al⟩
          obtain ⟨b, hb, hat'⟩ := C'.at_ 0 ce' rfl
          cases hb
          have hat2 : CellAt K m H' a ce' := by
            cases ce' with
            | lst es => obtain ⟨xs, h3, h4⟩ := hat'; exact ⟨xs, h3, by have h4 : RL K _ (hid (m.one k a) H') es xs := h4; rw [hid_one hk] at h4; exact RL.low (n := 0) (Ex.refl _) (fun k a hk => absurd hk (Nat.not_lt_zero _)) es xs ok3 h4⟩
            | obj C' ns es => obtain ⟨dx, fs, h3, h5, h4⟩ := hat'; exact ⟨dx, fs, h3, h5, by have h4 : RL K _ (hid (m.one k a) H') es _ := h4; rw [hid_one hk] at h4; exact RL.low (n := 0) (Ex.refl _) (fun k a hk => absurd hk (Nat.not_lt_zero _)) es _ ok3 h4⟩
            | dct ks es => obtain ⟨kvs, h3, h5, h4⟩ := hat'; exact ⟨kvs, h3, h5, by have h4 : RL K _ (hid (m.one k a) H') es _ := h4; rw [hid_one hk] at h4; exact RL.low (n := 0) (Ex.refl _) (fun k a hk => absurd hk (Nat.not_lt_zero _)) es _ ok3 h4⟩
            | dcT ks es => obtain ⟨kvs, h3, h5, h4⟩ := hat'; exact ⟨kvs, h3, h5, by have h4 : RL K _ (hid (m.one k a) H') es _ := h4; rw [hid_one hk] at h4; exact RL.low (n := 0) (Ex.refl _) (fun k a hk => absurd hk (Nat.not_lt_zero _)) es _ ok3 h4⟩
          refine q d _ w H' m hΦ ⟨by rw [List.length_set]; exact C.len, C.nd, fun j ce2 e => ?_, fun b hb => l'.hs hb (C.hs b hb), C.dj, C.tk' l'⟩ ?_ l'
          · by_cases hj : k = j
            · subst hj
              rw [List.getElem?_set_self (by rw [← C.len]; exact (List.getElem?_eq_some_iff.mp hk).1)] at e
              cases e
              exact ⟨a, hk, hat2⟩
            · rw [List.getElem?_set_ne hj] at e
              obtain ⟨b, h1, h2⟩ := C.at_ j ce2 e
              exact ⟨b, h1, h2.step l' fun o e' => l.kcell (List.mem_append_right _ (by rw [List.mem_eraseIdx_iff_getElem?]; exact ⟨j, fun z => hj z.symm, h1⟩)) h2 e'⟩
          · have r2 : R K [a] (hid (m.one k a) H') d w := r'
            rw [hid_one hk] at r2
            exact R.low (n := 0) (Ex.refl _) (fun k a hk => absurd hk (Nat.not_lt_zero _)) d w ok4 r2
end
section
variable {X : Cx} {CX : CXT} {k np : Nat} {f C : Addr} {fd : FuncData} {ps : List Str} {S : Pm} {E : XK} {x : Str} {p pos apos : Pos} {e o : Expr} {es : List Expr} {ta : TD} {tas : TDs}
def dCallP (S : Pm) (np : Nat) (t : TDs) : TD := fun ρ c Φ => t ρ c fun ds c1 => ds.length = np ∧ callP S ds c1 Φ
def dCallM (S : Pm) (np : Nat) (t : TDs) : TD := fun ρ c Φ => t ρ c fun ds c1 => ds.length = np ∧ callM S ds c1 Φ
theorem pd_callP (F : FnOk X.prog X.w X.K X.mg X.base CX k f fd ps (spD X.K 0 np S)) (hr : Room k X.A) (hm : X.mg x = some (.ref f)) (hk : PySem.W.keepIn X.K (.ref f) = true) (hb : Binds X.K fd ps []) (hx : Passes CX X E)
    (ha : PDs X (e :: es) tas) (hg : Gl X x := by rfl) (hdb : (x == ("__debug__" : Str)) = false := by decide) (he : starEach (e :: es) X.env = (false, eval e X.env) :: starEach es X.env := by rfl) (hpl : (backTo pos (starEach es X.env)).any (·.1) = false := by rfl) :
    PD X (.Call (.Name x p) (e :: es) [] pos) (dCallP S np tas) := PE.imp (pe_call F hr hg hm hk hb .nil hx ha hdb he hpl) fun σ H Q ⟨m, ρ, c, Φ, S', h, q⟩ =>
    ⟨m, ρ, c, _, S', h, fun ds c1 vs H1 m1 ⟨hl, hc⟩ C1 R1 L1 => by show spD _ _ _ _ (_ ++ []) _ _ _; rw [List.append_nil]; exact sp_pure C1 R1 hl hc (KQ.le (K := X.K) q L1)⟩
theorem pd_callM (F : FnOk X.prog X.w X.K X.mg X.base CX k f fd ps (spD X.K 1 np S)) (hr : Room k X.A) (hm : X.mg x = some (.ref f)) (hk : PySem.W.keepIn X.K (.ref f) = true) (hb : Binds X.K fd ps []) (hx : Passes CX X E)
    (ha : PDs X (e :: es) tas) (hg : Gl X x := by rfl) (hdb : (x == ("__debug__" : Str)) = false := by decide) (he : starEach (e :: es) X.env = (false, eval e X.env) :: starEach es X.env := by rfl) (hpl : (backTo pos (starEach es X.env)).any (·.1) = false := by rfl) :
    PD X (.Call (.Name x p) (e :: es) [] pos) (dCallM S np tas) := PE.imp (pe_call F hr hg hm hk hb .nil hx ha hdb he hpl) fun σ H Q ⟨m, ρ, c, Φ, S', h, q⟩ =>
    ⟨m, ρ, c, _, S', h, fun ds c1 vs H1 m1 ⟨hl, hc⟩ C1 R1 L1 => by show spD _ _ _ _ (_ ++ []) _ _ _; rw [List.append_nil]; exact sp_one C1 R1 hl hc (KQ.le (K := X.K) q L1)⟩
end
end Cw

namespace Cw
open PySem PySem.Spec PyProof.Rows L2
/-! ### a module's constants -/
section
variable {X : Cx} {x : Str} {pos : Pos}
theorem pd_gs {z : Str} (h : ∃ t, X.mg x = some (.str z t)) (hg : Gl X x := by rfl) (hd : (x == ("__debug__" : Str)) = false := by decide) : PD X (.Name x pos) (dC (.str z)) := by
  obtain ⟨t, h⟩ := h
  exact pd_c (v := .str z) (pe_glob hg h ⟨_, rfl⟩ hd) fun _ _ => rfl
theorem pd_gi {z : Int} (h : ∃ t, X.mg x = some (.int z t)) (hg : Gl X x := by rfl) (hd : (x == ("__debug__" : Str)) = false := by decide) : PD X (.Name x pos) (dC (.int z)) := by
  obtain ⟨t, h⟩ := h
  exact pd_c (v := .int z) (pe_glob hg h ⟨_, rfl⟩ hd) fun _ _ => rfl
def TupK (K : PySem.W.Frag) (mg : Str → Option Value) (x : Str) (ys : List Str) : Prop := ∃ a, mg x = some (.ref a) ∧ ∀ H, SqT K H a (ys.map V.str)
theorem pd_gtt {ys : List Str} (h : TupK X.K X.mg x ys) (hg : Gl X x := by rfl) (hd : (x == ("__debug__" : Str)) = false := by decide) : PD X (.Name x pos) (dC (.tup (ys.map .str))) := by
  obtain ⟨a, h, hs⟩ := h
  exact pd_c (v := .ref a) (pe_glob hg h rfl hd) fun m H => ⟨a, _, rfl, hs H, rl_txts ys⟩
end
/-- a test whose answer is a letter -/
theorem bcase {P : Bool → Prop} (b : Bool) (h1 : b = true → P true) (h2 : b = false → P false) : P b := by cases b with | true => exact h1 rfl | false => exact h2 rfl
end Cw

namespace Cw
open PySem PySem.Spec PyProof.Rows L2
/-! ### isinstance -/
inductive Ty where
  | non | bl | int | str | tup | lst | dct | ins (C : Addr)
def Ty.val : Ty → Value
  | .non => .type "NoneType"
  | .bl => .type "bool"
  | .int => .type "int"
  | .str => .type "str"
  | .tup => .type "tuple"
  | .lst => .type "list"
  | .dct => .type "dict"
  | .ins C => .ref C
def tyD : D → Option Ty
  | .non => some .non
  | .bl _ => some .bl
  | .int _ => some .int
  | .str _ => some .str
  | .tup _ => some .tup
  | .lst _ => some .lst
  | .dct _ _ => some .dct
  | .ins C _ _ => some (.ins C)
  | _ => none
/-- what the written part knows of an own class, for isinstance -/
structure ClsI (K : PySem.W.Frag) (C : Addr) : Prop where
  cl : Cls K C
  ha : PySem.W.findIn K (.ref C) "__class__" = some (some (.builtin "object.__class__"))
  hn : PySem.W.specialIn K (.builtin "object.__class__") "__get__" = some (some (.builtin "getset_descriptor.__get__"))
  tk : PySem.W.takesIn K (.builtin "object.__class__") = some true
  mr : PySem.W.mroIn K C (.type "object") = some true
/-- the answers g of isinstance(x, the class u) -/
structure IsiT (K : PySem.W.Frag) (u : Value) (g : Ty → Option Bool) : Prop where
  ok : ∀ t b, g t = some b → PySem.W.kitOne K t.val u = some b
  ins : ∀ C b, g (.ins C) = some b → ClsI K C
def fIsi (g : Ty → Option Bool) : F2
  | x, .raw _, c, Φ => ∃ t b, tyD x = some t ∧ g t = some b ∧ Φ (.bl b) c
  | _, _, _, _ => False
theorem l2_isi {K : PySem.W.Frag} {v0 : V} {u0 : Value} {g : Ty → Option Bool} (T : IsiT K u0 g) (cv : ClsV v0 u0) {x : D} {c : List Cell} {Φ : D → List Cell → Prop} {H : Hp} {m : Ad} {u : V} (C : CR K H m c) (r : W K H m x u) {Q : VK} (q : KQ K H m Φ Q)
    (h : fIsi g x (.raw v0) c Φ) : rIsi K [u, v0] H Q := by
  obtain ⟨t, b, e1, e2, h⟩ := h
  have z : TyX K H u t.val → rIsi K [u, v0] H Q := fun z => ⟨u, v0, t.val, u0, b, rfl, cv, z, T.ok t b e2, q.pure C h rfl⟩
  cases x <;> first | (cases e1; done) | skip
  · cases e1; cases (show u = _ from r); exact z (.base .non)
  · cases e1; cases (show u = _ from r); exact z (.base (.bl _))
  · cases e1; cases (show u = _ from r); exact z (.base (.int _))
  · cases e1; cases (show u = _ from r); exact z (.base (.str _))
  · cases e1
    obtain ⟨a, xs, rfl, h1, h2⟩ := r
    rcases ex_t (ex_hid m H) h1 with (h1 | ⟨o, h1⟩) | ⟨o, its, n, hk, hc, _⟩
    · exact z (.base (.tup h1))
    · exact z (.fTuple h1)
    · exact z (.kTuple hk hc)
  · cases e1
    obtain ⟨a, xs, rfl, h1, h2⟩ := r
    exact z (.base (.lst h1))
  · cases e1
    obtain ⟨a, dx, fs, rfl, h1, _⟩ := r
    have ci := T.ins _ b e2
    exact z (.base (.ins h1 ci.cl ci.ha ci.hn ci.tk ci.mr))
  · cases e1
    obtain ⟨a, kvs, rfl, h1, _⟩ := r
    rcases h1 with h1 | ⟨o, h1⟩
    · exact z (.base (.dK h1))
    · exact z (.fDict h1)
section
variable {X : Cx} {e e2 : Expr} {ta : TD} {pos pp : Pos}
theorem pd_isi {v0 : V} {u0 : Value} {g : Ty → Option Bool} (T : IsiT X.K u0 g) (cv : ClsV v0 u0) (ha : PD X e ta) (hb : PE X e2 (tC v0)) (hm : X.mg "isinstance" = none) (hg : Gl X "isinstance" := by rfl)
    (he : starEach [e, e2] X.env = (false, eval e X.env) :: starEach [e2] X.env := by rfl) (he2 : starEach [e2] X.env = (false, eval e2 X.env) :: starEach [] X.env := by rfl) (hpl : (backTo pos (starEach [e2] X.env)).any (·.1) = false := by rfl) :
    PD X (.Call (.Name "isinstance" pp) [e, e2] [] pos) (dBin (fIsi g) ta (dC (.raw v0))) :=
  PE.imp (pe_callB call_isi hg hm boot_isinstance (pds_cons ha (pds_cons (pd_c (d := .raw v0) hb fun _ _ => rfl) pds_nil he2) he) (by decide) (by decide) he hpl) fun σ H Q ⟨m, ρ, c, Φ, S, h, q⟩ =>
  ⟨m, ρ, c, (fun ds c1 => ∃ x, ds = [x, .raw v0] ∧ fIsi g (vw c1 x) (.raw v0) c1 Φ), S, (show ta ρ c fun x c1 => ∃ y, [x, .raw v0] = [y, .raw v0] ∧ fIsi g (vw c1 y) (.raw v0) c1 Φ by
    have e : (fun x c1 => ∃ y, [x, D.raw v0] = [y, .raw v0] ∧ fIsi g (vw c1 y) (.raw v0) c1 Φ) = fun x c1 => fIsi g (vw c1 x) (vw c1 (.raw v0)) c1 Φ := by
      funext x c1
      apply propext
      constructor
      · rintro ⟨y, e, h⟩; cases e; exact h
      · intro h; exact ⟨x, rfl, h⟩
    rw [e]; exact h), fun ds c1 vs H1 m1 ⟨x, e1, hx⟩ C1 R1 L1 => by
      subst e1
      obtain ⟨u, r, rfl, ru, v, r', rfl, rv, rr⟩ := R1
      cases (show r' = [] from rr)
      cases (show v = v0 from rv)
      exact l2_isi T cv C1 (W.vw C1 ru) (KQ.le q L1) hx⟩
end
def gStr : Ty → Option Bool
  | .str => some true
  | .ins _ => none
  | _ => some false
def gInt : Ty → Option Bool
  | .int => some true
  | .bl => some true
  | .ins _ => none
  | _ => some false
def gBool : Ty → Option Bool
  | .bl => some true
  | .ins _ => none
  | _ => some false
def gTup : Ty → Option Bool
  | .tup => some true
  | .ins _ => none
  | _ => some false
theorem isi_str {K : PySem.W.Frag} : IsiT K (.type "str") gStr := ⟨fun t b h => by cases t <;> cases h <;> exact kit_ty (by decide +kernel), fun C b h => by cases h⟩
theorem isi_int {K : PySem.W.Frag} : IsiT K (.type "int") gInt := ⟨fun t b h => by cases t <;> cases h <;> exact kit_ty (by decide +kernel), fun C b h => by cases h⟩
theorem isi_bool {K : PySem.W.Frag} : IsiT K (.type "bool") gBool := ⟨fun t b h => by cases t <;> cases h <;> exact kit_ty (by decide +kernel), fun C b h => by cases h⟩
theorem isi_tuple {K : PySem.W.Frag} : IsiT K (.type "tuple") gTup := ⟨fun t b h => by cases t <;> cases h <;> exact kit_ty (by decide +kernel), fun C b h => by cases h⟩
end Cw

namespace Cw
open PySem PySem.Spec PyProof.Rows L2

/-! ### a def that hands back a new list of flat items -/
abbrev Pn := List D → (List D → Prop) → Prop
def spN (K : PySem.W.Frag) (np : Nat) (S : Pn) : Sp := fun vs H Q _ => ∃ (m : Ad) (ds : List D) (Φ : List D → Prop), ds.length = np ∧ CR K H m [] ∧ RRL K H m ds vs ∧ S ds Φ ∧
  ∀ xs p ws H', Φ xs → xs.all flatD = true → CR K H' m [] → H p = none → H' p = some (.lst ws) → RRL K H' m xs ws → Le m H m H' → Q (.ref p) H'
def retN (Φ : List D → Prop) (d : D) (c : List Cell) : Prop := match d with
  | .cell k => ∃ xs, c[k]? = some (.lst xs) ∧ xs.all flatD = true ∧ Φ xs
  | _ => False
theorem flat_any {K : PySem.W.Frag} {ix ix' : List Addr} {H H' : Hp} : ∀ {ds : List D} {vs : List V}, ds.all flatD = true → RL K ix H ds vs → RL K ix' H' ds vs
  | [], _, _, h => h
  | d :: ds, _, f, ⟨x, r, e1, h1, h2⟩ => by
    rw [List.all_cons, Bool.and_eq_true] at f
    refine ⟨x, r, e1, ?_, flat_any f.2 h2⟩
    cases d <;> first | exact absurd (show false = true from f.1) Bool.false_ne_true | exact h1
theorem nil_of {K : PySem.W.Frag} {H : Hp} {m : Ad} (C : CR K H m []) : m.ix = [] := by
  have := C.len
  exact List.length_eq_zero_iff.mp this
section
variable {P : Program} {w : World} {K : PySem.W.Frag} {mg : Str → Option Value} {base : Heap}
theorem fnN {x qual : Str} {st : Stmt} {f : Addr} {fd : FuncData} {N ps : List Str} {k : Nat} {S : Pn} (F : Fun K x qual st f fd) (Sc : FnScope N ps (defScope st))
    (hbody : ∀ (cdv : Value) (A : Around) (outer : List PySem.Env) (s : Shared) (H : Hp) (E : XK), Room k (A.deeper (envOfC qual (defScope st) s.heap.objs.size f cdv)) →
      ∃ ts, PSDs (cxOf CX0 P w K mg base N qual (defScope st) f cdv A outer s H E).nox (defBody st) ts ∧
        ∀ ds Φ, ds.length = ps.length → S ds Φ → ts ⟨fun _ _ => False, retN Φ, fun _ _ => False, fun _ _ => False⟩ (startD N ds) []) :
    FnOk P w K mg base CX0 (k + 1) f fd ps (spN K ps.length S) := by
  refine F.ok Sc (fun vs H Q E h => ?_) (fun cdv A outer s H vs Q E hr h => ?_)
  · obtain ⟨m, ds, Φ, h2, C, r, _⟩ := h
    rw [← RL.length r]; exact h2
  · obtain ⟨m, ds, Φ, h2, C, r, hS, q⟩ := h
    obtain ⟨ts, hp, ht⟩ := hbody cdv A outer s H E hr
    refine ⟨_, hp, m, startD N ds, [], _, start_slots C r, ht ds Φ h2 hS, fun _ _ _ _ _ z => z.elim, fun d c' v H' m' h' C' r' l => ?_, fun _ _ _ _ _ z => z.elim, fun _ _ _ _ _ z => z.elim⟩
    unfold retN at h'
    cases d <;> first | exact h'.elim | skip
    rename_i j
    obtain ⟨xs, h3, h4, h5⟩ := h'
    obtain ⟨a, h6, rfl⟩ := r'
    obtain ⟨b, h7, ws, h8, h9⟩ := C'.at_ j _ h3
    rw [h6] at h7; cases h7
    have hix := nil_of C
    have fresh : H a = none := (l.fr a (List.mem_of_getElem? h6)).elim (fun z => by rw [hix] at z; cases z) id
    have l' : Le m H m H' := ⟨fun _ _ e => e, l.ex.trans (ex_cut l.pre l.hd), rfl, l.hk' (ex_cut l.pre l.hd), fun _ h => .inl h, l.al⟩
    exact q xs a ws H' h5 h4 ⟨by rw [hix]; rfl, C.nd, fun k ce e => by simp at e, fun b hb => C'.hs b (by rw [l.hd]; exact hb), C.dj, C.tk' l'⟩ fresh h8 (flat_any h4 h9) l'
end
section
variable {K : PySem.W.Frag} {m : Ad} {H : Hp} {c : List Cell}
theorem hall (C : CR K H m c) : ∀ b ∈ m.hd ++ m.ix, ∃ o, H b = some o ∧ Mu o := fun b hb => by
  rcases List.mem_append.mp hb with z | z
  · exact C.hs b z
  · obtain ⟨k, hk⟩ := List.mem_iff_getElem?.mp z
    obtain ⟨ce, _, h2⟩ := C.some_at hk
    exact h2.mu
theorem Le.of_none {H' : Hp} (l : Le m.none H m.none H') : Le m H m H' := by
  have hex : Ex (hid m H) (hid m H') := by
    have := l.ex
    rw [hid_none, hid_none] at this
    exact this
  exact ⟨fun _ _ e => e, hex, rfl, fun b hb => (l.hk b (List.mem_append_left _ hb)).imp id fun z => ⟨z.1, fun q t => by
      have := z.2 q (t.of_hid (hid_none m H).symm)
      exact this.of_hid (hid_none m H')⟩, fun _ h => .inl h, l.al⟩
theorem CR.of_none {H' : Hp} (C : CR K H m c) (l : Le m.none H m.none H') : CR K H' m c := by
  have l' := l.of_none
  refine ⟨C.len, C.nd, fun k ce e => ?_, fun b hb => l'.hs hb (C.hs b hb), C.dj, C.tk' l'⟩
  · obtain ⟨a, h1, h2⟩ := C.at_ k ce e
    exact ⟨a, h1, h2.step l' fun o e' => l.kcell (List.mem_append_right _ (List.mem_of_getElem? h1)) h2 e'⟩
theorem sp_new {S : Pn} {np : Nat} {ds : List D} {vs : List V} {Φ : D → List Cell → Prop} {Q : VK} {E : XK} (C : CR K H m c) (r : RRL K H m ds vs) (hl : ds.length = np) (ok : okDs 0 ds = true) (hS : S ds fun xs => Φ (.cell c.length) (c ++ [.lst xs])) (q : KQ K H m Φ Q) : spN K np S vs H Q E := by
  have C0 : CR K H m.none [] := ⟨rfl, List.nodup_nil, fun k ce e => by simp at e, hall C, fun a ha => (by cases ha), C.tk_none⟩
  refine ⟨m.none, ds, _, hl, C0, ?_, hS, fun xs p ws H' hd hf C' hp hp' r' l => ?_⟩
  · show RL K [] (hid m.none H) ds vs
    rw [hid_none]
    exact RL.low (n := 0) (Ex.refl _) (fun k a hk => absurd hk (Nat.not_lt_zero _)) ds vs ok r
  · have l' := l.of_none
    have C1 := C.of_none l
    have hn := hid_new hp C
    have ex1 : Ex (hid m H) (hid (m.push p) H') := fun b o e => by
      have e1 := l'.ex b o e
      obtain ⟨⟨h1, h2⟩, h3⟩ := hid_some e1
      rw [hid_of (m := m.push p) ⟨fun z => ?_, h2⟩]
      · exact h3
      · rcases List.mem_append.mp (show b ∈ m.ix ++ [p] from z) with z | z
        · exact h1 z
        · have : b = p := by simpa using z
          subst this
          have := (hid_some e).2
          rw [hp] at this; cases this
    have l2 : Le m H (m.push p) H' := ⟨push_pre, ex1, rfl, fun b hb => (l.hk b (List.mem_append_left _ hb)).imp id fun z => ⟨z.1, fun q t => by
      have := z.2 q (t.of_hid (hid_none m H).symm)
      exact (this.of_hid (hid_none m H')).push hp' fun _ z => nomatch z⟩, fun a ha => (List.mem_append.mp (show a ∈ m.ix ++ [p] from ha)).elim .inl fun z => .inr (by
      have : a = p := by simpa using z
      subst this; exact hp), l'.al⟩
    have last : (m.push p).ix[c.length]? = some p := by
      show (m.ix ++ [p])[c.length]? = some p
      rw [← C.len]; simp
    refine q (.cell c.length) _ (.ref p) H' (m.push p) hd ⟨by simp [Ad.push, C.len], ?_, fun k ce e => ?_, fun b hb => C1.hs b hb, fun a ha => ?_, C.tk' l2⟩ ⟨p, last, rfl⟩ l2
    · show (m.ix ++ [p]).Nodup
      rw [List.nodup_append]
      refine ⟨C.nd, by simp, fun a ha b hb e => ?_⟩
      have : b = p := by simpa using hb
      subst this; subst e
      exact hn.1 ha
    · by_cases hk : k < c.length
      · rw [List.getElem?_append_left hk] at e
        obtain ⟨a, h1, h2⟩ := C.at_ k ce e
        exact ⟨a, push_pre k a h1, h2.step l2 fun o' e' => l.kcell (List.mem_append_right _ (List.mem_of_getElem? h1)) h2 e'⟩
      · have hk' : k = c.length := by
          have := (List.getElem?_eq_some_iff.mp e).1
          simp at this; omega
        subst hk'
        simp at e; subst e
        exact ⟨p, last, ws, hp', flat_any hf r'⟩
    · rcases List.mem_append.mp (show a ∈ m.ix ++ [p] from ha) with z | z
      · exact C.dj a z
      · have : a = p := by simpa using z
        subst this
        exact hn.2
end
section
variable {X : Cx} {CX : CXT} {k np : Nat} {f C fI : Addr} {fd : FuncData} {ps : List Str} {S : Pm} {Sn : Pn} {E : XK} {x : Str} {p pos apos : Pos} {e o : Expr} {es : List Expr} {ta tv : TD} {tas : TDs}
def dCallN (S : Pn) (np : Nat) (t : TDs) : TD := fun ρ c Φ => t ρ c fun ds c1 => ds.length = np ∧ okDs 0 ds = true ∧ S ds fun xs => Φ (.cell c1.length) (c1 ++ [.lst xs])
theorem pd_callN (F : FnOk X.prog X.w X.K X.mg X.base CX k f fd ps (spN X.K np Sn)) (hr : Room k X.A) (hm : X.mg x = some (.ref f)) (hk : PySem.W.keepIn X.K (.ref f) = true) (hb : Binds X.K fd ps []) (hx : Passes CX X E)
    (ha : PDs X (e :: es) tas) (hg : Gl X x := by rfl) (hdb : (x == ("__debug__" : Str)) = false := by decide) (he : starEach (e :: es) X.env = (false, eval e X.env) :: starEach es X.env := by rfl) (hpl : (backTo pos (starEach es X.env)).any (·.1) = false := by rfl) :
    PD X (.Call (.Name x p) (e :: es) [] pos) (dCallN Sn np tas) := PE.imp (pe_call F hr hg hm hk hb .nil hx ha hdb he hpl) fun σ H Q ⟨m, ρ, c, Φ, S', h, q⟩ =>
    ⟨m, ρ, c, _, S', h, fun ds c1 vs H1 m1 ⟨hl, ok, hc⟩ C1 R1 L1 => by show spN _ _ _ (_ ++ []) _ _ _; rw [List.append_nil]; exact sp_new C1 R1 hl ok hc (KQ.le (K := X.K) q L1)⟩

/-! ### objects: attributes, properties, the making -/
def lookF (f : Str) : List Str → List D → Option D
  | n :: ns, d :: ds => if f = n then some d else lookF f ns ds
  | _, _ => none
theorem lookF_at {K : PySem.W.Frag} {m : List Addr} {H : Hp} {f : Str} : ∀ {ns : List Str} {ds : List D} {fs : List (Str × V)} {d : D}, fs.map (·.1) = ns → RL K m H ds (fs.map (·.2)) → lookF f ns ds = some d → ∃ v, fs.lookup f = some v ∧ R K m H d v
  | n :: ns, d0 :: ds, (a, v) :: fs, d, e1, ⟨x, r, e2, h1, h2⟩, e => by
    simp only [List.map_cons, List.cons.injEq] at e1 e2
    obtain ⟨rfl, e1⟩ := e1
    obtain ⟨rfl, rfl⟩ := e2
    unfold lookF at e
    by_cases hf : f = a
    · rw [if_pos hf] at e; cases e
      exact ⟨v, by rw [hf]; simp [List.lookup], h1⟩
    · rw [if_neg hf] at e
      obtain ⟨u, h3, h4⟩ := lookF_at e1 h2 e
      refine ⟨u, ?_, h4⟩
      have hb : (f == a) = false := by simpa using hf
      simp only [List.lookup, hb]; exact h3
  | [], _, _, _, _, _, e => by simp [lookF] at e
  | _ :: _, [], _, _, _, _, e => by simp [lookF] at e
  | _ :: _, _ :: _, [], _, e1, _, _ => by simp at e1
/-- o.f of an object of the class at C -/
def dFld (C : Addr) (f : Str) (ta : TD) : TD := fun ρ c Φ => ta ρ c fun x c1 => match vw c1 x with
  | .ins C' ns ds => C' = C ∧ ∃ d, lookF f ns ds = some d ∧ Φ d c1
  | _ => False
theorem pd_fld {f : Str} (cl : Cls X.K C) (na : NoAttr X.K C f) (h : PD X e ta) (hb : attributeBase e f X.env (eval e X.env) = eval e X.env := by rfl) : PD X (.Attribute e f pos) (dFld C f ta) :=
  PE.imp (pe_fld h hb) fun σ H Q ⟨m, ρ, c, Φ, S, h, q⟩ =>
  ⟨m, ρ, c, _, S, h, fun x c1 u H1 m1 hx C1 R1 L1 => by
    have w := W.vw C1 R1
    revert hx w
    generalize vw c1 x = x'
    intro hx w
    cases x' <;> first | exact hx.elim | skip
    obtain ⟨rfl, d, hd, hΦ⟩ := hx
    obtain ⟨a, dx, fs, rfl, h1, h2, h3⟩ := w
    obtain ⟨v, h4, h5⟩ := lookF_at h2 h3 hd
    exact ⟨a, _, dx, fs, v, rfl, h1, cl, na, h4, q d c1 v H1 m1 hΦ C1 h5 L1⟩⟩
/-- o.f = e, o a mutable object -/
def setF (f : Str) (d : D) : List Str → List D → List Str × List D
  | n :: ns, x :: ds => if n = f then (n :: ns, d :: ds) else ((n :: (setF f d ns ds).1), (x :: (setF f d ns ds).2))
  | _, _ => ([f], [d])
theorem setF_at {K : PySem.W.Frag} {m : List Addr} {H : Hp} {f : Str} {d : D} {v : V} (r : R K m H d v) : ∀ {ns : List Str} {ds : List D} {fs : List (Str × V)}, fs.map (·.1) = ns → RL K m H ds (fs.map (·.2)) → (putF f v fs).map (·.1) = (setF f d ns ds).1 ∧ RL K m H (setF f d ns ds).2 ((putF f v fs).map (·.2))
  | [], ds, fs, e1, h => by
    have : fs = [] := by simpa using e1
    subst this
    exact ⟨rfl, v, [], rfl, r, rfl⟩
  | n :: ns, [], fs, e1, h => by
    have : fs = [] := List.map_eq_nil_iff.mp h
    subst this
    simp at e1
  | n :: ns, x :: ds, [], e1, _ => by simp at e1
  | n :: ns, x :: ds, (a, u) :: fs, e1, ⟨y, r', e2, h1, h2⟩ => by
    simp only [List.map_cons, List.cons.injEq] at e1 e2
    obtain ⟨rfl, e1⟩ := e1
    obtain ⟨rfl, rfl⟩ := e2
    have ih := setF_at (f := f) r e1 h2
    rw [show putF f v ((a, u) :: fs) = (if a = f then (a, v) :: fs else (a, u) :: putF f v fs) from rfl]
    unfold setF
    by_cases hf : a = f
    · rw [if_pos hf, if_pos hf]
      exact ⟨by simp [e1], v, _, rfl, r, h2⟩
    · rw [if_neg hf, if_neg hf]
      exact ⟨by simp [ih.1], u, _, rfl, h1, ih.2⟩
def dStF (C : Addr) (f : Str) (ta tv : TD) : TSD := fun De ρ c => tv ρ c fun d c1 => ta ρ c1 fun x c2 => ∃ k ns ds, x = .cell k ∧ c2[k]? = some (.obj C ns ds) ∧ ns.length < 1000 ∧ De.nx ρ (c2.set k (.obj C (setF f d ns ds).1 (setF f d ns ds).2))
theorem psd_stf {f : Str} {value : Expr} {pos' : Pos} (cl : Cls X.K C) (na : NoAttr X.K C f) (ha : PD X o ta) (hv : PD X value tv) (hs : swapsWith value (some (.Attribute o f pos')) pos.line X.env = pure false := by rfl) : PSD X (.Assign [.Attribute o f pos'] value pos) (dStF C f ta tv) :=
  PS.imp (ps_fld ha hv hs) fun Dn σ H ⟨m, ρ, c, De, S, h, n, r, b, k⟩ =>
  ⟨m, ρ, c, _, S, h, fun d c1 y H1 m1 hx C1 R1 L1 => ⟨m1, ρ, c1, _, S.step L1 C1, hx, fun x c2 u H2 m2 hy C2 R2 L2 => by
    obtain ⟨j, ns, ds, rfl, h1, h2, h3⟩ := hy
    obtain ⟨a, h4, rfl⟩ := R2
    obtain ⟨a', h5, dx, fs, h6, h7, h8⟩ := C2.at_ j _ h1
    rw [h4] at h5; cases h5
    have hm : a ∈ m2.ix := List.mem_of_getElem? h4
    have z1 := setF_at (f := f) (L2.r R1) h7 h8
    have z := cell_put (o := .ins C dx (putF f y fs)) (ce := .obj C (setF f d ns ds).1 (setF f d ns ds).2) C2 h4 ⟨dx, _, upd_same, z1.1, by show RL _ _ (hid m2 _) _ _; rw [hid_mut hm]; exact z1.2⟩
    exact ⟨a, C, dx, fs, rfl, h6, cl, na, by rw [← List.length_map (f := (·.1)), h7]; exact h2, n σ _ m2 ρ _ h3 ((S.step (L1.trans L2) C2).step z.2 z.1) ((L1.trans L2).trans z.2)⟩⟩⟩
/-- o.p, a property of the class at C -/
def dProp (C : Addr) (S : Pm) (ta : TD) : TD := fun ρ c Φ => ta ρ c fun x c1 => (∃ ns ds, x = .ins C ns ds) ∧ callP S [x] c1 Φ
theorem pd_prop {f : Str} {pn : Addr} {g : Addr} (cl : Cls X.K C) (hp : PropOf X.K C f pn g) (F : FnOk X.prog X.w X.K X.mg X.base CX k g fd ps (spD X.K 0 1 S)) (hr : Room (k + 1) X.A) (hb : Binds X.K fd ps []) (hx : Passes CX X.nox E) (h : PD X e ta)
    (hbs : attributeBase e f X.env (eval e X.env) = eval e X.env := by rfl) : PD X (.Attribute e f pos) (dProp C S ta) :=
  PE.imp (pe_prop h cl hp F hr hb .nil hx hbs) fun σ H Q ⟨m, ρ, c, Φ, S', h, q⟩ =>
  ⟨m, ρ, c, _, S', h, fun x c1 u H1 m1 hx C1 R1 L1 => by
    obtain ⟨⟨ns, ds, rfl⟩, hc⟩ := hx
    obtain ⟨a, dx, fs, rfl, h1, h2, h3⟩ := W.of R1
    have r1 : RRL X.K H1 m1 [.ins C ns ds] [.ref a] := by
      show RL _ _ _ [_] [_]
      exact ⟨.ref a, [], rfl, R1, rfl⟩
    exact ⟨a, dx, fs, rfl, h1, sp_pure C1 r1 rfl hc (KQ.le (K := X.K) q L1)⟩⟩
end
end Cw

namespace Cw
open PySem PySem.Spec PyProof.Rows L2

/-! ### own ==, !=, len, str and truth of an object -/
section
variable {prog : Program} {w : World} {A : Around} {E : Value → Shared → Prop} {s : Shared} {K : PySem.W.Frag} {x C f : Addr} {ox : Obj} {od : Option Obj} {b : Value}
open Builtin in
theorem ne_body {Q : Value → Shared → Prop} (hu : A.in1.units < cLine) (X : K.In s.heap) (I : PySem.W.InstAt s.heap x ox C od) (hm : PySem.W.mroIn K C (.type "object") = some true)
    (hs : PySem.W.findIn K (.ref C) "__eq__" = some (some (.ref f))) (hf : PySem.W.isFn K (.ref f) = true)
    (h : wpAny (model prog w) A.in1 (call (.ref f) [.ref x, b]) (fun v s' => ∃ k, v = .bool k ∧ Q (.bool (!k)) s') E s) : wpAny (model prog w) A (call (.builtin "object.__ne__") [.ref x, b]) Q E s := by
  refine wpAny_call (codeAny_call_builtin PySem.F.slot_object_ne.plain PySem.F.cmpEntry_ne (PySem.W.check_slot (i := "object.__ne__") (owner := "object") (n := "__ne__") (by decide +kernel) (by decide +kernel) (I.type.andThen (PySem.W.looks_mroIn X hm)) (PySem.F.cmpArgs_ne _ _) ?_))
  unfold Builtin.«object.__ne__»
  refine wpAny_bind (m := slotArgs "__ne__" 1 _) (wpAny_pure ?_)
  refine wpAny_bind (m := cRoomFor _ _) (wpAny_cRoomFor hu ?_)
  refine wpAny_bind (m := callSpecialIfBound? (.ref x) (Str.ofString "__eq__") _) (PySem.W.ifBound_K X I hs hf (wpAny_mono h (fun r s' hr => ?_) fun _ _ y => y))
  obtain ⟨k, rfl, hq⟩ := hr
  exact wpAny_bind (wpAny_truthy_bool (wpAny_pure hq))
theorem ne_K {Q : Value → Shared → Prop} {D : Value} (hu : A.in1.units < cLine) (X : K.In s.heap) (I : PySem.W.InstAt s.heap x ox C od) (hb : PySem.W.Looks (model prog w) s.heap (typeOf b) (.ref C)) (hm : PySem.W.mroIn K C (.type "object") = some true)
    (hn : PySem.W.findIn K (.ref C) "__ne__" = some (some (.builtin "object.__ne__"))) (hs : PySem.W.findIn K (.ref C) "__eq__" = some (some (.ref f))) (hf : PySem.W.isFn K (.ref f) = true)
    (h : wpAny (model prog w) A.in1 (call (.ref f) [.ref x, b]) (fun v s' => ∃ k, v = .bool k ∧ Q (.bool (!k)) s') E s) : wpAny (model prog w) A (richCompare .NotEq (.ref x) b) Q E s := by
  have one : wpAny (model prog w) A (tryCompare (.ref x) "__ne__" b) (fun r s' => ∃ v, r = some v ∧ Q v s') E s := by
    unfold tryCompare
    refine wpAny_bind (NtL.csib (I.type.andThen (PySem.W.looks_findIn X hn)) (PySem.F.slot_object_ne.bind _) (wpAny_mono (ne_body hu X I hm hs hf (Q := fun v s' => ∃ k, v = .bool k ∧ Q v s') (wpAny_mono h (fun v s' hv => ?_) fun _ _ e => e)) (fun v s' hv => ?_) fun _ _ e => e))
    · obtain ⟨k, rfl, q⟩ := hv
      exact ⟨k, rfl, _, rfl, q⟩
    · obtain ⟨k, rfl, q⟩ := hv
      exact wpAny_pure ⟨_, rfl, q⟩
  have hu0 : A.units < cLine := Nat.lt_of_succ_lt hu
  unfold richCompare
  simp only [oneThing_ref]
  refine wpAny_holding (wpAny_bind (wpAny_cRoomFor hu0 ?_))
  refine wpAny_bind (I.type.here (wpAny_bind (hb.here ?_)))
  rw [show (Value.ref C != Value.ref C) = false from by simp]
  simp only [Bool.false_eq_true, if_false]
  refine wpAny_bind (wpAny_pure ?_)
  simp only [Bool.false_eq_true, if_false]
  rw [show (cmpInfo .NotEq).2.1 = ("__ne__" : Str) from rfl]
  refine wpAny_bind (wpAny_mono one (fun r s' z => ?_) fun _ _ e => e)
  obtain ⟨v, rfl, hq⟩ := z
  exact wpAny_pure hq
open Builtin in
theorem tru_K {Q : Bool → Shared → Prop} (X : K.In s.heap) (I : PySem.W.InstAt s.heap x ox C od) (hs : PySem.W.findIn K (.ref C) "__bool__" = some none) (hl : PySem.W.findIn K (.ref C) "__len__" = some (some (.ref f))) (hf : PySem.W.isFn K (.ref f) = true)
    (h : wpAny (model prog w) A.in1 (call (.ref f) [.ref x]) (PySem.W.LenBack fun v s' => ∃ n t, v = .int n t ∧ Q (n != 0) s') E s) : wpAny (model prog w) A (truthy (.ref x)) Q E s := by
  unfold truthy
  refine wpAny_bind (m := callSpecial? (.ref x) (Str.ofString "__bool__")) (wpAny_bind (wpAny_bind (I.type.here ((PySem.W.looks_findIn X hs).here (wpAny_pure ?_)))))
  refine wpAny_bind (wpAny_bind (I.type.here ((PySem.W.looks_findIn X hl).here ?_)))
  show wpAny _ _ (if (some (Value.ref f)).isNone = true then _ else _) _ _ _
  rw [if_neg (by simp)]
  refine wpAny_bind (PyProof.Rows.runValue_entry entry_len ?_)
  rw [Around.under_plainId plain_len _]
  unfold Builtin.«len»
  refine wpAny_bind (m := oneArg "len" _) (wpAny_pure ?_)
  refine wpAny_bind (m := callSpecial? (.ref x) (Str.ofString "__len__")) (PySem.W.special_fn X I hl (beq_iff_eq.mp hf) (wpAny_mono h (fun r s' hr => ?_) fun _ _ y => y))
  cases r <;> first | exact hr.elim | skip
  rename_i n u
  obtain ⟨⟨h0, h1⟩, n', t, e, hq⟩ := hr
  cases e
  refine wpAny_bind (wpAny_holding (wpAny_pure ?_))
  refine wpAny_bind (wpAny_letGo ?_)
  show wpAny _ _ (if n < 0 then _ else _) _ _ _
  rw [if_neg (by omega)]
  show wpAny _ _ (if n ≥ 2 ^ 63 then _ else _) _ _ _
  rw [if_neg (by omega)]
  exact wpAny_bind (wpAny_mkInt (wpAny_pure ⟨_, rfl, wpAny_pure hq⟩))
end

theorem type_bool : isType (.type "bool") = pure true := by first | rfl | kernel_rfl | (unfold isType; rw [isSubtype_type]; kernel_rfl)
open Builtin in
theorem bool_tru {prog : Program} {w : World} {A : Around} {E : Value → Shared → Prop} {s : Shared} {x : Value} {Q : Value → Shared → Prop} (h : wpAny (model prog w) A.in1.in1 (truthy x) (fun b s' => Q (.bool b) s') E s) : wpAny (model prog w) A (call (.type "bool") [x]) Q E s := by
  refine callType_codes (T := "bool") (Bi := Builtin.«object.__init__») (Q₁ := fun r s₁ => ∃ b, r = .bool b ∧ Q r s₁) PySem.F.called_bool (PySem.F.typeCall_bool_1 _) PySem.F.entry_object_init ?_ ?_
  · refine codeAny_of_tree ?_
    show wpAny _ A.in1.in1 (do checkBuiltinCall "bool.__new__" ⟨[.type "bool", x], []⟩; again (.builtin "bool.__new__" ⟨[.type "bool", x], []⟩)) _ _ s
    refine wpAny_bind (wpAny_of_eq (PySem.F.newCall_bool_1 _) (wpAny_pure ⟨plainId_quiet (by decide +kernel) _, codeAny_builtin PySem.F.entry_bool_new ?_⟩))
    rw [Around.under_plainId (by decide +kernel) _]
    unfold Builtin.«bool.__new__»
    refine wpAny_bind (wpAny_of_eq (a := true) type_bool ?_)
    refine PySem.W.KFB.if_not rfl ?_
    refine wpAny_bind (wpAny_of_eq (a := true) PySem.F.conv_sub_bool ?_)
    refine PySem.W.KFB.if_not rfl ?_
    refine wpAny_bind (m := someArgs "bool" 0 1 _) (wpAny_pure ?_)
    refine wpAny_bind (wpAny_mono h (fun b s' q => ?_) fun _ _ e => e)
    exact wpAny_pure ⟨b, rfl, q⟩
  · rintro obj s₁ ⟨b, rfl, hq⟩
    exact ⟨PySem.typeIs_bool _ _, PySem.F.args_object_init_2 _ _, object_init_meets PySem.F.called_bool.init.lookup PySem.F.called_bool.made (by decide) prog w A.in1 _ s₁ ⟨PySem.typeIs_bool _ _, rfl, hq⟩⟩
section
variable {X : Cx} {CX : CXT} {k : Nat} {C f : Addr} {fd : FuncData} {ps : List Str} {sp : Sp} {E : XK} {pos : Pos} {pins : List (Addr × Obj)} {σ : L2.St} {H : Hp} {s : Shared} {Q : VK} {vs : List V} {us : List Value}
theorem v1 (a : Addr) : Vals [V.ref a] [Value.ref a] := .cons rfl .nil
theorem v2 (a b : Addr) : Vals [V.ref a, V.ref b] [Value.ref a, Value.ref b] := .cons rfl (.cons rfl .nil)
theorem call_own {A : Around} (sb : Sub X k A) (I : Inv X pins σ H s) (F : FnOk X.prog X.w X.K X.mg X.base CX k f fd ps sp) (hb : Binds X.K fd ps []) (hx : Passes CX X E) (r2 : Vals vs us) (hsp : sp vs H Q E) :
    wpAny (model X.prog X.w) A (call (.ref f) us) (EP X pins σ Q) X.xe s := by
  have e0 : Env0 X.prog X.w X.K X.mg X.base A X.stack s H := by
    have e := I.env0
    exact ⟨by rw [sb.fr]; exact e.frames, e.mod, e.bs, e.bsz, e.funs, e.frf, e.hok, e.bare⟩
  have hl := F.len _ _ _ _ hsp
  refine wpAny_call (codeAny_mono (F.run A X.stack s H ⟨us, []⟩ us vs _ E sb.room e0 (by
    have := hb s us I.kIn (by rw [List.append_nil, ← r2.length]; exact hl)
    simpa using this) r2 hsp) fun r s' hq => ?_)
  cases r with
  | error e => exact hx pins σ H s e s' I hq
  | ok fl =>
    cases fl with
    | ret w =>
      obtain ⟨z, H', I', rz, ez⟩ := I.after hq
      exact ⟨z, H', I', rz, ez⟩
    | next => exact False.elim hq
    | brk => exact False.elim hq
    | cont => exact False.elim hq
/-- what an own two-place method says of two objects of its class -/
def rOwn2 (C : Addr) (sp : Sp) (E : XK) (neg : Bool) : R2 := fun x y H Q => ∃ a dx fs b dy gs, x = .ref a ∧ y = .ref b ∧ H a = some (.ins C dx fs) ∧ H b = some (.ins C dy gs) ∧ sp [.ref a, .ref b] H (fun v H' => ∃ k, v = .bl k ∧ Q (.bl (neg ^^ k)) H') E
theorem op_ownEq (F : FnOk X.prog X.w X.K X.mg X.base CX k f fd ps sp) (hs : PySem.W.findIn X.K (.ref C) "__eq__" = some (some (.ref f))) (hf : PySem.W.isFn X.K (.ref f) = true) (hb : Binds X.K fd ps []) (hx : Passes CX X E) (hr : Room k X.A) : OpR X (compareOp .Eq) (rOwn2 C sp E false) := by
  intro pins s σ H x y v u Q I rx ry d
  obtain ⟨a, dx, fs, b, dy, gs, rfl, rfl, ha, hb', h⟩ := d
  cases rx
  cases ry
  obtain ⟨mA, J, _⟩ := ins_get I.hok ha
  obtain ⟨mB, J', _⟩ := ins_get I.hok hb'
  obtain ⟨od, J, _⟩ := J.look
  obtain ⟨od', J', _⟩ := J'.look
  obtain ⟨m, hF⟩ := I.fr
  show wpAny (model X.prog X.w) X.A (richCompare .Eq _ _) _ _ _
  refine PySem.W.cmp_K (op := .Eq) (tb := .ref C) hr.units0 hF I.ok.mod.kin J J'.type (by simp [PySem.W.notFirst]) hs hf (wpAny_mono (call_own ⟨hr, rfl⟩ I F hb hx (v2 a b) h) (fun v s' q => ?_) fun _ _ e => e)
  obtain ⟨z, H', I', rz, k, rfl, q⟩ := q
  cases rz
  exact ⟨.bl k, H', I', rfl, by simpa using q⟩
theorem op_ownNe (F : FnOk X.prog X.w X.K X.mg X.base CX k f fd ps sp) (hs : PySem.W.findIn X.K (.ref C) "__eq__" = some (some (.ref f))) (hn : PySem.W.findIn X.K (.ref C) "__ne__" = some (some (.builtin "object.__ne__"))) (hm : PySem.W.mroIn X.K C (.type "object") = some true) (hf : PySem.W.isFn X.K (.ref f) = true) (hb : Binds X.K fd ps []) (hx : Passes CX X E) (hr : Room (k + 1) X.A) : OpR X (compareOp .NotEq) (rOwn2 C sp E true) := by
  intro pins s σ H x y v u Q I rx ry d
  obtain ⟨a, dx, fs, b, dy, gs, rfl, rfl, ha, hb', h⟩ := d
  cases rx
  cases ry
  obtain ⟨mA, J, _⟩ := ins_get I.hok ha
  obtain ⟨mB, J', _⟩ := ins_get I.hok hb'
  obtain ⟨od, J, _⟩ := J.look
  obtain ⟨od', J', _⟩ := J'.look
  obtain ⟨m, hF⟩ := I.fr
  show wpAny (model X.prog X.w) X.A (richCompare .NotEq _ _) _ _ _
  refine ne_K (D := .none) hr.in1.units0 I.kIn J J'.type hm hn hs hf (wpAny_mono (call_own ⟨hr.in1, rfl⟩ I F hb hx (v2 a b) h) (fun v s' q => ?_) fun _ _ e => e)
  obtain ⟨z, H', I', rz, k, rfl, q⟩ := q
  cases rz
  exact ⟨k, rfl, .bl (!k), H', I', rfl, by simpa using q⟩
def rOwn1 (C : Addr) (sp : Sp) (E : XK) (g : V → VK → Hp → Prop) : List V → Hp → VK → Prop := fun xs H Q => ∃ a dx fs, xs = [.ref a] ∧ H a = some (.ins C dx fs) ∧ sp [.ref a] H (fun v H' => g v Q H') E
theorem call_lenO (F : FnOk X.prog X.w X.K X.mg X.base CX k f fd ps sp) (hs : PySem.W.findIn X.K (.ref C) "__len__" = some (some (.ref f))) (hf : PySem.W.isFn X.K (.ref f) = true) (hb : Binds X.K fd ps []) (hx : Passes CX X E) (hr : Room (k + 1) X.A) :
    CallR X (.builtin "len") (rOwn1 C sp E fun v Q H => ∃ i, v = .int i ∧ (0 ≤ i ∧ i < 2 ^ 63) ∧ Q (.int i) H) := by
  intro pins s σ H xs us Q I r h
  obtain ⟨a, dx, fs, rfl, ha, h⟩ := h
  obtain rfl := Vals.ref1 r
  obtain ⟨mA, J, _⟩ := ins_get I.hok ha
  obtain ⟨od, J, _⟩ := J.look
  obtain ⟨m, hF⟩ := I.fr
  refine PySem.W.len_K hF I.ok.mod.kin J hs hf (wpAny_mono (call_own ⟨hr.in1, rfl⟩ I F hb hx (v1 a) h) (fun v s' q => ?_) fun _ _ e => e)
  obtain ⟨z, H', I', rz, i, rfl, hi, q⟩ := q
  obtain ⟨t, rfl⟩ := rz
  exact ⟨hi, .int i, H', I'.tok _, ⟨_, rfl⟩, q⟩
theorem call_boolO (F : FnOk X.prog X.w X.K X.mg X.base CX k f fd ps sp) (hn : PySem.W.findIn X.K (.ref C) "__bool__" = some none) (hs : PySem.W.findIn X.K (.ref C) "__len__" = some (some (.ref f))) (hf : PySem.W.isFn X.K (.ref f) = true) (hb : Binds X.K fd ps []) (hx : Passes CX X E) (hr : Room (k + 3) X.A) :
    CallR X (.type "bool") (rOwn1 C sp E fun v Q H => ∃ i, v = .int i ∧ (0 ≤ i ∧ i < 2 ^ 63) ∧ Q (.bl (i != 0)) H) := by
  intro pins s σ H xs us Q I r h
  obtain ⟨a, dx, fs, rfl, ha, h⟩ := h
  obtain rfl := Vals.ref1 r
  obtain ⟨mA, J, _⟩ := ins_get I.hok ha
  obtain ⟨od, J, _⟩ := J.look
  refine bool_tru (tru_K I.kIn J hn hs hf (wpAny_mono (call_own ⟨hr.in1.in1.in1, rfl⟩ I F hb hx (v1 a) h) (fun v s' q => ?_) fun _ _ e => e))
  obtain ⟨z, H', I', rz, i, rfl, hi, q⟩ := q
  obtain ⟨t, rfl⟩ := rz
  exact ⟨hi, i, _, rfl, .bl (i != 0), H', I'.tok _, rfl, q⟩
theorem call_strO (F : FnOk X.prog X.w X.K X.mg X.base CX k f fd ps sp) (hs : PySem.W.findIn X.K (.ref C) "__str__" = some (some (.ref f))) (hf : PySem.W.isFn X.K (.ref f) = true) (hb : Binds X.K fd ps []) (hx : Passes CX X E) (hr : Room (k + 2) X.A) :
    CallR X (.type "str") (rOwn1 C sp E fun v Q H => ∃ x, v = .str x ∧ Q (.str x) H) := by
  intro pins s σ H xs us Q I r h
  obtain ⟨a, dx, fs, rfl, ha, h⟩ := h
  obtain rfl := Vals.ref1 r
  obtain ⟨mA, J, _⟩ := ins_get I.hok ha
  obtain ⟨od, J, _⟩ := J.look
  refine PySem.W.kso_call hr.in1.in1.units0 I.kIn J hs hf (wpAny_mono (call_own ⟨hr.in1.in1, rfl⟩ I F hb hx (v1 a) h) (fun v s' q => ?_) fun _ _ e => e)
  obtain ⟨z, H', I', rz, x, rfl, q⟩ := q
  obtain ⟨t, rfl⟩ := rz
  exact ⟨.str x, H', I', ⟨_, rfl⟩, q⟩
end
end Cw

namespace Cw
open PySem PySem.Spec PyProof.Rows L2

/-! ### the making of an object -/
section
variable {K : PySem.W.Frag} {m : Ad} {H : Hp} {c : List Cell}
def Ad.mk1 (m : Ad) (x : Addr) : Ad := ⟨[x], m.hd ++ m.ix⟩
/-- what __init__ promises of a new object, over data -/
def callI (C : Addr) (S : Pm) (ds : List D) (c : List Cell) (Φ : D → List Cell → Prop) : Prop := okDs 0 ds = true ∧ S [.obj C [] []] (.cell 0 :: ds) fun d c' => match c' with
  | [.obj C' ns es] => d = .non ∧ C' = C ∧ okDs 0 es = true ∧ Φ (.ins C ns es) c
  | _ => False
theorem sp_make {S : Pm} {np : Nat} {C x dx : Addr} {ds : List D} {vs : List V} {Φ : D → List Cell → Prop} {Q : VK} {E : XK} (Cc : CR K H m c) (r : RRL K H m ds vs) (hl : ds.length + 1 = np) (h : callI C S ds c Φ) (q : KQ K H m Φ Q)
    (hx : H x = none) (hd : H dx = none) (hne : dx ≠ x) : spD K 1 np S (.ref x :: vs) (upd (upd H dx (.own x)) x (.ins C dx [])) (fun v H2 => v = .non ∧ Q (.ref x) H2) E := by
  obtain ⟨ok, hS⟩ := h
  have hal := hall Cc
  have hx1 : x ∉ m.ix ∧ x ∉ m.hd := hid_new hx Cc
  have keep2 : ∀ b o, H b = some o → upd (upd H dx (.own x)) x (.ins C dx []) b = some o := fun b o e => by
    rw [upd_ne (ne_of_none e hx), upd_ne (ne_of_none e hd)]; exact e
  have ex2 : Ex (hid m H) (hid (m.mk1 x) (upd (upd H dx (.own x)) x (.ins C dx []))) := fun b o e => by
    obtain ⟨⟨h1, h2⟩, h3⟩ := hid_some e
    rw [hid_of (m := m.mk1 x)]
    · exact keep2 b o h3
    · refine ⟨fun z => ?_, fun z => ?_⟩
      · have : b = x := by simpa [Ad.mk1] using z
        subst this; rw [hx] at h3; cases h3
      · rcases List.mem_append.mp (show b ∈ m.hd ++ m.ix from z) with z | z
        · exact h2 z
        · exact h1 z
  refine ⟨m.mk1 x, [.obj C [] []], .cell 0 :: ds, _, rfl, hl, ⟨rfl, by simp [Ad.mk1], fun k ce e => ?_, fun b hb => ?_, fun a ha z => ?_, fun q hq => ⟨List.mem_append_left _ (Cc.tk q hq).1, (Cc.tk q hq).2.keep2 (fun o e => keep2 _ o e) ex2⟩⟩, ?_, hS, fun d c' w H' hΦ C' r' l => ?_⟩
  · have hk : k = 0 := by
      have := (List.getElem?_eq_some_iff.mp e).1
      simp at this; exact this
    subst hk
    simp at e; subst e
    exact ⟨x, rfl, dx, [], upd_same, rfl, rfl⟩
  · obtain ⟨o, e, e'⟩ := hal b hb
    exact ⟨o, keep2 b o e, e'⟩
  · have : a = x := by simpa [Ad.mk1] using ha
    subst this
    rcases List.mem_append.mp (show a ∈ m.hd ++ m.ix from z) with z | z
    · exact hx1.2 z
    · exact hx1.1 z
  · show RL K [x] (hid (m.mk1 x) _) (.cell 0 :: ds) (.ref x :: vs)
    exact ⟨.ref x, vs, rfl, ⟨x, rfl, rfl⟩, RL.low (n := 0) ex2 (fun k a hk => absurd hk (Nat.not_lt_zero _)) ds vs ok r⟩
  · cases c' with
    | nil => exact hΦ.elim
    | cons ce t =>
      cases t with
      | cons _ _ => cases ce <;> exact hΦ.elim
      | nil =>
        cases ce with
        | lst _ => exact hΦ.elim
        | dct _ _ => exact hΦ.elim
        | dcT _ _ => exact hΦ.elim
        | obj C'' ns es =>
          obtain ⟨rfl, rfl, ok2, hq⟩ := hΦ
          obtain ⟨b, hb, hat⟩ := C'.at_ 0 _ rfl
          have hbx : b = x := by
            have h0 : (m.mk1 x).ix[0]? = some x := rfl
            rw [h0] at hb
            exact (Option.some.inj hb).symm
          subst hbx
          obtain ⟨dx', fs, h3, h4, h5⟩ := hat
          have exm : Ex (hid (m.mk1 b) H') (hid m H') := fun a o e => by
            obtain ⟨⟨h1, h2⟩, h6⟩ := hid_some e
            rw [hid_of ⟨fun z => h2 (List.mem_append_right _ z), fun z => h2 (List.mem_append_left _ z)⟩]
            exact h6
          have l' : Le m H m H' := ⟨fun _ _ e => e, (ex2.trans l.ex).trans exm, rfl, fun a ha => by
            obtain ⟨o, e, _⟩ := Cc.hs a ha
            rcases l.hk a (List.mem_append_left _ ha) with z | ⟨⟨ps, ps', y1, y2⟩, y3⟩
            · exact .inl (z.trans ((keep2 a o e).trans e.symm))
            · refine .inr ⟨⟨ps, ps', ?_, y2⟩, fun q t => (y3 q (t.keep2 (fun o e => keep2 _ o e) ex2)).keep rfl exm⟩
              have := keep2 a o e
              rw [y1] at this
              rw [e]; exact this.symm, fun _ h => .inl h, fun a e => upd_none (upd_none (l.al a e))⟩
          refine ⟨by cases w <;> first | rfl | exact absurd r' (by intro z; cases z), q _ c _ H' m hq ⟨Cc.len, Cc.nd, fun k ce e => ?_, fun a ha => l'.hs ha (Cc.hs a ha), Cc.dj, Cc.tk' l'⟩ ⟨b, dx', fs, rfl, ?_, h4, ?_⟩ l'⟩
          · obtain ⟨a, h1, h2⟩ := Cc.at_ k ce e
            exact ⟨a, h1, h2.step l' fun o e' => by
              obtain ⟨u, e1, n⟩ := h2.nt
              rw [e'] at e1; cases e1
              exact l.kc (List.mem_append_right _ (List.mem_of_getElem? h1)) (keep2 a o e') n⟩
          · rw [hid_of hx1]; exact h3
          · exact RL.low (n := 0) exm (fun k a hk => absurd hk (Nat.not_lt_zero _)) es _ ok2 h5
end
section
variable {X : Cx} {CX : CXT} {k np : Nat} {f C : Addr} {fd : FuncData} {ps ks : List Str} {S : Pm} {E : XK} {x : Str} {p pos : Pos} {e : Expr} {es : List Expr} {kws : List Keyword} {tas tks : TDs}
def dMake (C : Addr) (S : Pm) (np : Nat) (t : TDs) : TD := fun ρ c Φ => t ρ c fun ds c1 => ds.length + 1 = np ∧ callI C S ds c1 Φ
theorem pd_make (M : Mk X.K C f) (F : FnOk X.prog X.w X.K X.mg X.base CX k f fd ps (spD X.K 1 np S)) (hr : Room (k + 1) X.A) (hm : X.mg x = some (.ref C)) (hb : Binds X.K fd ps []) (hx : Passes CX X E)
    (ha : PDs X (e :: es) tas) (hg : Gl X x := by rfl) (hdb : (x == ("__debug__" : Str)) = false := by decide) (he : starEach (e :: es) X.env = (false, eval e X.env) :: starEach es X.env := by rfl) (hpl : (backTo pos (starEach es X.env)).any (·.1) = false := by rfl) :
    PD X (.Call (.Name x p) (e :: es) [] pos) (dMake C S np tas) := PE.imp (pe_make M F hr hg hm hb .nil hx ha hdb he hpl) fun σ H Q ⟨m, ρ, c, Φ, S', h, q⟩ =>
    ⟨m, ρ, c, _, S', h, fun ds c1 vs H1 m1 ⟨hl, hc⟩ C1 R1 L1 => fun a dx h1 h2 h3 => by rw [List.append_nil]; exact sp_make C1 R1 hl hc (KQ.le (K := X.K) q L1) h1 h2 h3⟩
end
section
variable {X : Cx} {CX : CXT} {k : Nat} {f C : Addr} {fd : FuncData} {ps : List Str} {S : Pm} {E : XK} {x : Str} {p pos : Pos} {a b e : Expr} {ta tb : TD}
def dOwn2 (C : Addr) (S : Pm) (neg : Bool) (ta tb : TD) : TD := fun ρ c Φ => ta ρ c fun x c1 => tb ρ c1 fun y c2 => (∃ ns ds, x = .ins C ns ds) ∧ (∃ ns ds, y = .ins C ns ds) ∧ callP S [x, y] c2 fun d c3 => ∃ k, d = .bl k ∧ Φ (.bl (neg ^^ k)) c3
theorem lift_own2 {K : PySem.W.Frag} {neg : Bool} {σ : L2.St} {H : Hp} {Q : VK} (h : lift K (dOwn2 C S neg ta tb) σ H Q) : tOp (rOwn2 C (spD K 0 2 S) E neg) (lift K ta) (lift K tb) σ H Q := by
  obtain ⟨m, ρ, c, Φ, S', h, q⟩ := h
  refine ⟨m, ρ, c, _, S', h, fun x c1 u H1 m1 hx C1 R1 L1 => ⟨m1, ρ, c1, _, S'.step L1 C1, hx, fun y c2 v H2 m2 hy C2 R2 L2 => ?_⟩⟩
  obtain ⟨⟨ns, ds, rfl⟩, ⟨ns', ds', rfl⟩, hc⟩ := hy
  have R1' := L2.r R1
  have r2 : RRL K H2 m2 [.ins C ns ds, .ins C ns' ds'] [u, v] := by
    show RL _ _ _ [_, _] [_, _]
    exact ⟨u, [v], rfl, R1', v, [], rfl, R2, rfl⟩
  obtain ⟨a, dx, fs, rfl, h1, _⟩ := R1'
  obtain ⟨b, dy, gs, rfl, h2, _⟩ := R2
  refine ⟨a, dx, fs, b, dy, gs, rfl, rfl, (hid_some h1).2, (hid_some h2).2, sp_pure C2 r2 rfl hc fun d c' w H' m' ⟨k, hk, hΦ⟩ C' r' l' => ?_⟩
  subst hk
  cases (show w = _ from r')
  exact ⟨k, rfl, q _ c' _ H' m' hΦ C' rfl ((L1.trans L2).trans l')⟩
theorem pd_eqO (F : FnOk X.prog X.w X.K X.mg X.base CX k f fd ps (spD X.K 0 2 S)) (hs : PySem.W.findIn X.K (.ref C) "__eq__" = some (some (.ref f))) (hf : PySem.W.isFn X.K (.ref f) = true) (hb : Binds X.K fd ps []) (hx : Passes CX X E) (hr : Room k X.A)
    (h1 : PD X a ta) (h2 : PD X b tb) : PD X (.Compare a [.Eq] [b] pos) (dOwn2 C S false ta tb) := PE.imp (pe_cmpR (op_ownEq F hs hf hb hx hr) h1 h2 (nomark _)) fun σ H Q h => lift_own2 h
theorem pd_neO (F : FnOk X.prog X.w X.K X.mg X.base CX k f fd ps (spD X.K 0 2 S)) (hs : PySem.W.findIn X.K (.ref C) "__eq__" = some (some (.ref f))) (hn : PySem.W.findIn X.K (.ref C) "__ne__" = some (some (.builtin "object.__ne__"))) (hm : PySem.W.mroIn X.K C (.type "object") = some true) (hf : PySem.W.isFn X.K (.ref f) = true) (hb : Binds X.K fd ps []) (hx : Passes CX X E) (hr : Room (k + 1) X.A)
    (h1 : PD X a ta) (h2 : PD X b tb) : PD X (.Compare a [.NotEq] [b] pos) (dOwn2 C S true ta tb) := PE.imp (pe_cmpR (op_ownNe F hs hn hm hf hb hx hr) h1 h2 (nomark _)) fun σ H Q h => lift_own2 h
def dOwn1 (C : Addr) (S : Pm) (g : D → List Cell → (D → List Cell → Prop) → Prop) (ta : TD) : TD := fun ρ c Φ => ta ρ c fun x c1 => (∃ ns ds, x = .ins C ns ds) ∧ callP S [x] c1 fun d c2 => g d c2 Φ
def gLen : D → List Cell → (D → List Cell → Prop) → Prop := fun d c Φ => ∃ i, d = .int i ∧ (0 ≤ i ∧ i < 2 ^ 63) ∧ Φ (.int i) c
def gTru : D → List Cell → (D → List Cell → Prop) → Prop := fun d c Φ => ∃ i, d = .int i ∧ (0 ≤ i ∧ i < 2 ^ 63) ∧ Φ (.bl (i != 0)) c
def gTxt : D → List Cell → (D → List Cell → Prop) → Prop := fun d c Φ => ∃ x, d = .str x ∧ Φ (.str x) c
def only1 (P : D → List Cell → Prop) : List D → List Cell → Prop
  | [x], c => P x c
  | _, _ => False
theorem lift_own1 {K : PySem.W.Frag} {g : D → List Cell → (D → List Cell → Prop) → Prop} {g' : V → VK → Hp → Prop} {σ : L2.St} {H : Hp} {Q : VK}
    (hg : ∀ d c Φ w H m Q, g d c Φ → CR K H m c → RR K H m d w → KQ K H m Φ Q → g' w Q H) (h : lift K (dOwn1 C S g ta) σ H Q) : tCB (rOwn1 C (spD K 0 1 S) E g') (liftA K (dCons ta dNil)) σ H Q := by
  obtain ⟨m, ρ, c, Φ, S', h, q⟩ := h
  refine ⟨m, ρ, c, only1 fun x c1 => (∃ ns ds, x = D.ins C ns ds) ∧ callP S [x] c1 fun d c2 => g d c2 Φ, S', h, fun xs c1 us H1 m1 hx C1 R1 L1 => ?_⟩
  · cases xs with
    | nil => exact hx.elim
    | cons x t => cases t with
      | cons _ _ => exact hx.elim
      | nil =>
    obtain ⟨⟨ns, ds, rfl⟩, hc⟩ := hx
    have R1' := R1
    obtain ⟨u, r, rfl, R2, e⟩ := R1'
    cases (show r = [] from e)
    obtain ⟨a, dx, fs, rfl, h1, _⟩ := R2
    exact ⟨a, dx, fs, rfl, (hid_some h1).2, sp_pure C1 R1 rfl hc fun d c' w H' m' hΦ C' r' l' => hg d c' Φ w H' m' Q hΦ C' r' (KQ.le (K := K) q (L1.trans l'))⟩
theorem pd_lenO (F : FnOk X.prog X.w X.K X.mg X.base CX k f fd ps (spD X.K 0 1 S)) (hs : PySem.W.findIn X.K (.ref C) "__len__" = some (some (.ref f))) (hf : PySem.W.isFn X.K (.ref f) = true) (hb : Binds X.K fd ps []) (hx : Passes CX X E) (hr : Room (k + 1) X.A)
    (ha : PD X e ta) (hm : X.mg "len" = none) (hg : Gl X "len" := by rfl) (he : starEach [e] X.env = (false, eval e X.env) :: starEach [] X.env := by rfl) (hpl : (backTo pos (starEach [] X.env)).any (·.1) = false := by rfl) :
    PD X (.Call (.Name "len" p) [e] [] pos) (dOwn1 C S gLen ta) := PE.imp (pe_callB (call_lenO F hs hf hb hx hr) hg hm boot_len (pds_cons ha pds_nil he) (by decide) (by decide) he hpl) fun σ H Q h =>
    lift_own1 (fun d c Φ w H m Q ⟨i, hd, hi, hΦ⟩ C r q => by subst hd; cases (show w = _ from r); exact ⟨i, rfl, hi, q.pure C hΦ rfl⟩) h
theorem pd_boolO (F : FnOk X.prog X.w X.K X.mg X.base CX k f fd ps (spD X.K 0 1 S)) (hn : PySem.W.findIn X.K (.ref C) "__bool__" = some none) (hs : PySem.W.findIn X.K (.ref C) "__len__" = some (some (.ref f))) (hf : PySem.W.isFn X.K (.ref f) = true) (hb : Binds X.K fd ps []) (hx : Passes CX X E) (hr : Room (k + 3) X.A)
    (ha : PD X e ta) (hm : X.mg "bool" = none) (hg : Gl X "bool" := by rfl) (he : starEach [e] X.env = (false, eval e X.env) :: starEach [] X.env := by rfl) (hpl : (backTo pos (starEach [] X.env)).any (·.1) = false := by rfl) :
    PD X (.Call (.Name "bool" p) [e] [] pos) (dOwn1 C S gTru ta) := PE.imp (pe_callTy (call_boolO F hn hs hf hb hx hr) hg hm (by decide +kernel) (pds_cons ha pds_nil he) (by decide) (by decide) he hpl) fun σ H Q h =>
    lift_own1 (fun d c Φ w H m Q ⟨i, hd, hi, hΦ⟩ C r q => by subst hd; cases (show w = _ from r); exact ⟨i, rfl, hi, q.pure C hΦ rfl⟩) h
theorem pd_strO (F : FnOk X.prog X.w X.K X.mg X.base CX k f fd ps (spD X.K 0 1 S)) (hs : PySem.W.findIn X.K (.ref C) "__str__" = some (some (.ref f))) (hf : PySem.W.isFn X.K (.ref f) = true) (hb : Binds X.K fd ps []) (hx : Passes CX X E) (hr : Room (k + 2) X.A)
    (ha : PD X e ta) (hm : X.mg "str" = none) (hg : Gl X "str" := by rfl) (he : starEach [e] X.env = (false, eval e X.env) :: starEach [] X.env := by rfl) (hpl : (backTo pos (starEach [] X.env)).any (·.1) = false := by rfl) :
    PD X (.Call (.Name "str" p) [e] [] pos) (dOwn1 C S gTxt ta) := PE.imp (pe_callTy (call_strO F hs hf hb hx hr) hg hm boot_str (pds_cons ha pds_nil he) (by decide) (by decide) he hpl) fun σ H Q h =>
    lift_own1 (fun d c Φ w H m Q ⟨x, hd, hΦ⟩ C r q => by subst hd; cases (show w = _ from r); exact ⟨x, rfl, q.pure C hΦ rfl⟩) h
end
end Cw

namespace Cw
open PySem PySem.Spec PyProof.Rows L2

/-! ### comprehensions, by what each turn says -/
theorem inner_same {c : List Cell} {acc : List D} {y : D} {Q : List Cell → Prop} (q : Q c) : inner c.length acc y (c ++ [.lst acc]) Q := by
  refine ⟨by simp, ?_⟩
  have e : Nat.beq (c ++ [Cell.lst acc]).length (c.length + 1) = true := by
    rw [List.length_append]; exact Nat.beq_refl _
  rw [e]
  show Q _
  rw [List.take_left']
  · exact q
  · rfl
theorem okDs_app {n : Nat} : ∀ {a b : List D}, okDs n a = true → okDs n b = true → okDs n (a ++ b) = true
  | [], _, _, h => h
  | d :: a, b, h, h2 => by
    have h' : okD n d = true ∧ okDs n a = true := by simpa [okDs] using h
    show okDs n (d :: (a ++ b)) = true
    simp only [okDs, Bool.and_eq_true]
    exact ⟨h'.1, okDs_app h'.2 h2⟩
mutual
theorem okD_up {n : Nat} : ∀ d : D, okD n d = true → okD (n + 1) d = true
  | .non, h => rfl
  | .bl _, h => rfl
  | .int _, h => rfl
  | .str _, h => rfl
  | .tup ds, h => by
    have h : okDs n ds = true := by simpa [okD] using h
    simpa [okD] using okDs_up ds h
  | .lst ds, h => by
    have h : okDs n ds = true := by simpa [okD] using h
    simpa [okD] using okDs_up ds h
  | .fl ds, h => by
    have h : okDs n ds = true := by simpa [okD] using h
    simpa [okD] using okDs_up ds h
  | .cell j, h => by simp [okD] at h ⊢; omega
  | .ins _ _ ds, h => by
    have h : okDs n ds = true := by simpa [okD] using h
    simpa [okD] using okDs_up ds h
  | .dct _ ds, h => by
    have h : okDs n ds = true := by simpa [okD] using h
    simpa [okD] using okDs_up ds h
  | .dcT _ ds, h => by
    have h : okDs n ds = true := by simpa [okD] using h
    simpa [okD] using okDs_up ds h
  | .exc _ _ _ _ ds, h => by
    have h : okDs n ds = true := by simpa [okD] using h
    simpa [okD] using okDs_up ds h
  | .raw _, h => by first | rfl | exact h | simp [okD] at h ⊢
theorem okDs_up {n : Nat} : ∀ ds : List D, okDs n ds = true → okDs (n + 1) ds = true
  | [], h => rfl
  | d :: ds, h => by
    have h' : okD n d = true ∧ okDs n ds = true := by simpa [okDs] using h
    simp only [okDs, Bool.and_eq_true]
    exact ⟨okD_up d h'.1, okDs_up ds h'.2⟩
end
theorem okDs_one {n : Nat} {d : D} (h : okD n d = true) : okDs n [d] = true := by simp [okDs, h]
theorem lc_filter {i : Nat} {tt : TDt} {te : TD} {ρ : Env} {c : List Cell} {Φ : List D → List Cell → Prop} (g : D → Bool) (f : D → D) (hc : okCs c.length c = true) : ∀ (ds acc : List D),
    (∀ d ∈ ds, ∀ acc (Ψ : Bool → List Cell → Prop), okDs c.length acc = true → Ψ (g d) (c ++ [.lst acc]) → tt (ρ.set i (some d)) (c ++ [.lst acc]) Ψ) →
    (∀ d ∈ ds, g d = true → okD c.length (f d) = true ∧ ∀ acc (Ψ : D → List Cell → Prop), okDs c.length acc = true → Ψ (f d) (c ++ [.lst acc]) → te (ρ.set i (some d)) (c ++ [.lst acc]) Ψ) →
    okDs c.length acc = true → acc.length + ds.length ≤ sizeLine → Φ (acc ++ (ds.filter g).map f) c → lcD i tt te ds acc ρ c Φ
  | [], acc, _, _, h, _, q => ⟨hc, h, by simpa using q⟩
  | d :: ds, acc, ht, he, h, hl, q => by
    have hl' : acc.length + (ds.length + 1) ≤ sizeLine := hl
    refine ht d List.mem_cons_self acc _ h ?_
    cases hg : g d with
    | true =>
      show te _ _ _
      obtain ⟨hk, hte⟩ := he d List.mem_cons_self hg
      refine hte acc _ h ⟨by omega, inner_same ?_⟩
      refine lc_filter g f hc ds _ (fun x hx => ht x (List.mem_cons_of_mem _ hx)) (fun x hx => he x (List.mem_cons_of_mem _ hx)) (okDs_app h (okDs_one hk)) (by rw [List.length_append]; show acc.length + 1 + ds.length ≤ _; omega) ?_
      rw [List.filter_cons_of_pos (by rw [hg])] at q
      simpa using q
    | false =>
      show inner _ _ _ _ _
      refine inner_same ?_
      refine lc_filter g f hc ds _ (fun x hx => ht x (List.mem_cons_of_mem _ hx)) (fun x hx => he x (List.mem_cons_of_mem _ hx)) h (by omega) ?_
      rw [List.filter_cons_of_neg (by rw [hg]; decide)] at q
      exact q
theorem lc_map {i : Nat} {te : TD} {ρ : Env} {c : List Cell} {Φ : List D → List Cell → Prop} (f : D → D) (hc : okCs c.length c = true) (ds : List D)
    (he : ∀ d ∈ ds, okD c.length (f d) = true ∧ ∀ acc (Ψ : D → List Cell → Prop), okDs c.length acc = true → Ψ (f d) (c ++ [.lst acc]) → te (ρ.set i (some d)) (c ++ [.lst acc]) Ψ) (hl : ds.length ≤ sizeLine) (q : Φ (ds.map f) c) : lcD i dYes te ds [] ρ c Φ :=
  lc_filter (fun _ => true) f hc ds [] (fun d _ acc Ψ _ h => h) (fun d hd _ => he d hd) rfl (by simpa using hl) (by
    have : ds.filter (fun _ => true) = ds := List.filter_eq_self.mpr fun _ _ => rfl
    rw [this]; simpa using q)
theorem forD_inv {g : TGD} {tb : TSD} {De : DEnds} (I : List D → Env → List Cell → Prop) (fin : ∀ ρ c, I [] ρ c → De.nx ρ c)
    (step : ∀ d ds ρ c (F : Env → List Cell → Prop), (∀ ρ c, I ds ρ c → F ρ c) → I (d :: ds) ρ c → g d ρ c fun ρ1 c1 => tb ⟨F, De.rt, De.nx, F⟩ ρ1 c1) : ∀ ds ρ c, I ds ρ c → forD g tb De ds ρ c
  | [], ρ, c, h => fin ρ c h
  | d :: ds, ρ, c, h => step d ds ρ c _ (fun ρ c h => forD_inv I fin step ds ρ c h) h
end Cw

namespace Cw
open PySem PySem.Spec PyProof.Rows L2

/-! ### repr of data, where no repr runs around it -/
structure Showy (p : PyData) : Prop where
  sh : p.showable = true
  nd : p.hasDict = false
  dp : p.depth ≤ 60
  sz : p.shown.length ≤ sizeLine
section
variable {X : Cx}
def rReprD (K : PySem.W.Frag) : List V → Hp → VK → Prop := fun xs H Q => ∃ a d, xs = [.ref a] ∧ Dp K H (.ref a) d ∧ Showy d ∧ Q (.str d.shown) H
theorem call_reprD (hg : X.A.guards = some []) (hu : X.A.units + 64 < cLine) : CallR X (.builtin "repr") (rReprD X.K) := by
  intro pins s σ H xs us Q I r h
  obtain ⟨a, d, rfl, hd, S, q⟩ := h
  obtain rfl := Vals.ref1 r
  obtain ⟨as, w1⟩ := Dp.reads I d (.ref a) (.ref a) hd rfl
  have := S.dp
  exact PySem.repr_of_reads' (h₀ := s.heap) w1 S.sh (fun z => by rw [S.nd] at z; cases z) hg (by omega) (fun _ _ e => e) (fun h' u tk k => ⟨.str d.shown, H, I.kept k, ⟨u, rfl⟩, q⟩) S.sz
end
def fRepr : F1 := fun x c Φ => match x with
  | .tup _ => ∃ p, D.py x = some p ∧ Showy p ∧ Φ (.str p.shown) c
  | .lst _ => ∃ p, D.py x = some p ∧ Showy p ∧ Φ (.str p.shown) c
  | _ => False
theorem l1_repr {K : PySem.W.Frag} : L1f K fRepr (fun u H Q => rReprD K [u] H Q) := by
  intro x c Φ h H m u C r Q q
  cases x <;> first | exact h.elim | skip
  · obtain ⟨p, h1, h2, h3⟩ := h
    have hd := W.dp r h1
    obtain ⟨a, xs, rfl, _⟩ := r
    exact ⟨a, p, rfl, hd, h2, q.pure C h3 rfl⟩
  · obtain ⟨p, h1, h2, h3⟩ := h
    have hd := W.dp r h1
    obtain ⟨a, xs, rfl, _⟩ := r
    exact ⟨a, p, rfl, hd, h2, q.pure C h3 rfl⟩
section
variable {X : Cx} {e : Expr} {ta : TD} {pos pp : Pos}
theorem pd_repr (hgu : X.A.guards = some []) (hu : X.A.units + 64 < cLine) (ha : PD X e ta) (hm : X.mg "repr" = none) (hg : Gl X "repr" := by rfl) (he : starEach [e] X.env = (false, eval e X.env) :: starEach [] X.env := by rfl) (hpl : (backTo pos (starEach [] X.env)).any (·.1) = false := by rfl) :
    PD X (.Call (.Name "repr" pp) [e] [] pos) (dCB (un1 fRepr) (dCons ta dNil)) := pd_B1 (call_reprD hgu hu) l1_repr (by decide +kernel) (by decide) (by decide) ha hg hm he hpl
end
end Cw

namespace Cw
open PySem PySem.Spec PyProof.Rows L2

/-! ### defs where no repr runs around them -/
structure FnG (P : Program) (w : World) (K : PySem.W.Frag) (mg : Str → Option Value) (base : Heap) (k : Nat) (f : Addr) (fd : FuncData) (ps : List Str) (sp : Sp) : Prop where
  ln : ∀ vs H Q E, sp vs H Q E → vs.length = ps.length
  rn : ∀ (A : Around) (outer : List PySem.Env) (s : Shared) (H : Hp) (args : Args) (us : List Value) (vs : List V) (Q : VK) (E : XK), A.guards = some [] → Room k A → Env0 P w K mg base A outer s H → BindsTo s fd args (ps.zip us) → Vals vs us → sp vs H Q E →
    codeAny (model P w) A (.call (.ref f) args) (L2.CR CX0 outer P w H s Q E) s
section
variable {P : Program} {w : World} {K : PySem.W.Frag} {mg : Str → Option Value} {base : Heap}
theorem fnG {x qual : Str} {st : Stmt} {f : Addr} {fd : FuncData} {N ps : List Str} {k : Nat} {sp : Sp} (F : Fun K x qual st f fd) (Sc : FnScope N ps (defScope st)) (ln : ∀ vs H Q E, sp vs H Q E → vs.length = ps.length)
    (hbody : ∀ (cdv : Value) (A : Around) (outer : List PySem.Env) (s : Shared) (H : Hp) (vs : List V) (Q : VK) (E : XK), A.guards = some [] → Room k (A.deeper (envOfC qual (defScope st) s.heap.objs.size f cdv)) → sp vs H Q E →
      ∃ t, PSs (cxOf CX0 P w K mg base N qual (defScope st) f cdv A outer s H E).nox (defBody st) t ∧ t { nx := fun _ H' => Q .non H', rt := Q } (L2.start N vs) H) : FnG P w K mg base (k + 1) f fd ps sp := by
  obtain ⟨oc, od, kV, doc, pm, an, cdv, ct, osl, rfl, lk, hcd⟩ := F.ex
  refine ⟨ln, fun A outer s H args us vs Q E hgu hr e0 hb r hsp => ?_⟩
  have inK : K.In s.heap := e0.mod.kin.keeps fun b o e => (e0.bs b o e).1
  have nl : s.heap.NoLimit := e0.mod.nolimit.keeps fun b o e => (e0.bs b o e).1
  obtain ⟨t, ht', hq⟩ := hbody cdv A outer s H vs Q E hgu (hr.deeper _) hsp
  have ht := ht'.nox
  have kinds : ∀ y ∈ ps.zip us, (defScope st).names.lookup y.1 = some .local ∨ ((defScope st).names.lookup y.1 = some .cell ∧ ((cellsFrom (s.heap.objs.size + 1) (defScope st).names []).lookup y.1).isSome = true) := fun ⟨n, v⟩ hy => (Sc.par n (List.of_mem_zip hy).1).imp id fun q => ⟨q, PySem.W.cellsFrom_some _ _ _ (.inl q)⟩
  refine codeAny_call_function hr.depth (inK _ _ lk) rfl Sc.co Sc.gen rfl (PySem.W.codeRec_of inK hcd) (hb _ _ _ _ (wpAny_newFunctionEnv_cells Sc.kind kinds fun env he s1 x => ?_))
  subst he
  refine ⟨nl.keeps x.toInCall.keep, codeAny_func ?_⟩
  have I : Inv (cxOf CX0 P w K mg base N qual (defScope st) f cdv A outer s H E) [] (L2.start N vs) H s1 := inv_start Sc hr.hd e0 (ln _ _ _ _ hsp) r x
  refine wpAny_mono (ht.run [] s1 (L2.start N vs) H _ I hq) (fun fl s' hs => ?_) fun e s' hs => hs
  cases fl with
  | ret u =>
    obtain ⟨v, σ', H', J, rv, q⟩ := hs
    exact ⟨v, H', J.os, J.bare, J.base, J.hok, rv, q⟩
  | next =>
    obtain ⟨σ', H', J, q⟩ := hs
    exact ⟨V.non, H', J.os, J.bare, J.base, J.hok, rfl, q⟩
  | brk => exact hs.elim fun _ z => z.elim fun _ z => z.2.elim
  | cont => exact hs.elim fun _ z => z.elim fun _ z => z.2.elim
end
section
variable {X : Cx} {k np n0 : Nat} {f : Addr} {fd : FuncData} {ps : List Str} {sp : Sp} {S : Pm} {E : XK} {x : Str} {p pos : Pos} {e : Expr} {es : List Expr} {t : TA} {tas : TDs}
theorem pe_callG (F : FnG X.prog X.w X.K X.mg X.base k f fd ps sp) (hgu : X.A.guards = some []) (hr : Room k X.A) (hg : Gl X x) (hm : X.mg x = some (.ref f)) (hk : PySem.W.keepIn X.K (.ref f) = true) (hb : Binds X.K fd ps []) (hx : Passes CX0 X E)
    (ha : PA X (e :: es) t) (hdb : (x == ("__debug__" : Str)) = false) (he : starEach (e :: es) X.env = (false, eval e X.env) :: starEach es X.env) (hpl : (backTo pos (starEach es X.env)).any (·.1) = false) :
    PE X (.Call (.Name x p) (e :: es) [] pos) (tCall sp [] E t) := ⟨fun pins s σ H Q I h => by
  refine wpAny_Call_Name_kw (ld_glob I hg hm (PySem.W.callWith_K (h₀ := X.base) I.ok.mod.kin hk (thn (ha.run pos pins s σ H _ I h) fun us s1 ⟨vs, H1, I1, r, q⟩ => ⟨I1.kIn, ?_⟩) he hpl) hdb)
  have q : sp vs H1 Q E := by simpa using q
  have hl : us.length = ps.length := by rw [← r.length]; exact F.ln _ _ _ _ q
  have bt : BindsTo s1 fd ⟨us, []⟩ (ps.zip us) := by simpa using hb s1 us I1.kIn (by simpa using hl)
  refine wpAny_call (codeAny_mono (F.rn X.A X.stack s1 H1 ⟨us, []⟩ us vs Q E hgu hr I1.env0 bt r q) fun z s' hq => ?_)
  cases z with
  | error e => exact hx pins σ H1 s1 e s' I1 hq
  | ok fl =>
    cases fl with
    | ret u => exact I1.after hq
    | next => exact False.elim hq
    | brk => exact False.elim hq
    | cont => exact False.elim hq⟩
theorem pd_callMG (F : FnG X.prog X.w X.K X.mg X.base k f fd ps (spD X.K 1 np S)) (hgu : X.A.guards = some []) (hr : Room k X.A) (hm : X.mg x = some (.ref f)) (hk : PySem.W.keepIn X.K (.ref f) = true) (hb : Binds X.K fd ps []) (hx : Passes CX0 X E)
    (ha : PDs X (e :: es) tas) (hg : Gl X x := by rfl) (hdb : (x == ("__debug__" : Str)) = false := by decide) (he : starEach (e :: es) X.env = (false, eval e X.env) :: starEach es X.env := by rfl) (hpl : (backTo pos (starEach es X.env)).any (·.1) = false := by rfl) :
    PD X (.Call (.Name x p) (e :: es) [] pos) (dCallM S np tas) := PE.imp (pe_callG F hgu hr hg hm hk hb hx ha hdb he hpl) fun σ H Q ⟨m, ρ, c, Φ, S', h, q⟩ =>
    ⟨m, ρ, c, _, S', h, fun ds c1 vs H1 m1 ⟨hl, hc⟩ C1 R1 L1 => by show spD _ _ _ _ (_ ++ []) _ _ _; rw [List.append_nil]; exact sp_one C1 R1 hl hc (KQ.le (K := X.K) q L1)⟩
end
section
variable {P : Program} {w : World} {K : PySem.W.Frag} {mg : Str → Option Value} {base : Heap}
theorem fnGD {x qual : Str} {st : Stmt} {f : Addr} {fd : FuncData} {N ps : List Str} {k n0 : Nat} {S : Pm} (F : Fun K x qual st f fd) (Sc : FnScope N ps (defScope st))
    (hbody : ∀ (cdv : Value) (A : Around) (outer : List PySem.Env) (s : Shared) (H : Hp) (E : XK), A.guards = some [] → Room k (A.deeper (envOfC qual (defScope st) s.heap.objs.size f cdv)) →
      ∃ ts, PSDs (cxOf CX0 P w K mg base N qual (defScope st) f cdv A outer s H E).nox (defBody st) ts ∧
        ∀ c ds Φ, c.length = n0 → ds.length = ps.length → S c ds Φ → ts ⟨fun _ c' => retD n0 Φ .non c', retD n0 Φ, fun _ _ => False, fun _ _ => False⟩ (startD N ds) c) :
    FnG P w K mg base (k + 1) f fd ps (spD K n0 ps.length S) := by
  refine fnG F Sc (fun vs H Q E ⟨m, c, ds, Φ, h1, h2, C, r, _⟩ => by rw [← RL.length r]; exact h2) (fun cdv A outer s H vs Q E hgu hr ⟨m, c, ds, Φ, h1, h2, C, r, hS, q⟩ => ?_)
  obtain ⟨ts, hp, ht⟩ := hbody cdv A outer s H E hgu hr
  have hn : m.ix.length = n0 := by rw [C.len]; exact h1
  exact ⟨_, hp, m, startD N ds, c, _, start_slots C r, ht c ds Φ h1 h2 hS, fun σ' H' m' ρ' c' h' S' l => ret_ok hn q h' S'.cr rfl l, fun d c' v H' m' h' C' r' l => ret_ok hn q h' C' r' l, fun _ _ _ _ _ z => z.elim, fun _ _ _ _ _ z => z.elim⟩
end
/-! ### the making by name -/
theorem PK.imp {X : Cx} {kws : List Keyword} {t t' : TA} (h : PK X kws t) (i : ∀ σ H Q, t' σ H Q → t σ H Q) : PK X kws t' := ⟨fun pos pins s σ H Q I w => h.run pos pins s σ H Q I (i σ H Q w)⟩
section
variable {X : Cx} {CX : CXT} {k np : Nat} {f C : Addr} {fd : FuncData} {ps ks : List Str} {S : Pm} {E : XK} {x : Str} {p pos kpos : Pos} {e : Expr} {kws : List Keyword} {ta : TD} {tas tks : TDs} {nm : Option Str}
theorem pdk_nil : PK X [] (liftA X.K dNil) := PK.imp pk_nil fun σ H Q ⟨m, ρ, c, Φ, S, h, q⟩ => q [] c [] H m h S.cr rfl (Le.refl _ _)
theorem pdk_cons (h1 : PD X e ta) (h2 : PK X kws (liftA X.K tas)) : PK X (⟨nm, e, kpos⟩ :: kws) (liftA X.K (dCons ta tas)) := PK.imp (pk_cons h1 h2) fun σ H Q ⟨m, ρ, c, Φ, S, h, q⟩ =>
  ⟨m, ρ, c, _, S, h, fun d c1 v H1 m1 hx C1 R1 L1 => ⟨m1, ρ, c1, _, S.step L1 C1, hx, fun ds c2 vs H2 m2 hy C2 R2 L2 => q (d :: ds) c2 (v :: vs) H2 m2 hy C2 ⟨v, vs, rfl, L2.r R1, R2⟩ (L1.trans L2)⟩⟩
def dMakeK (C : Addr) (S : Pm) (np n : Nat) (t : TDs) : TD := fun ρ c Φ => t ρ c fun ds c1 => ds.length = n ∧ ds.length + 1 = np ∧ callI C S ds c1 Φ
theorem pd_makeK (M : Mk X.K C f) (F : FnOk X.prog X.w X.K X.mg X.base CX k f fd ps (spD X.K 1 np S)) (hr : Room (k + 1) X.A) (hm : X.mg x = some (.ref C)) (hb : KBn X.K fd ps 1 ks (fun us ws => us ++ ws) (fun us ws => us ++ ws)) (hx : Passes CX X E) (hkw : PK X kws (liftA X.K tks)) (hg : Gl X x := by rfl)
    (hall : (backToKw pos (keywordEach kws X.env)).all (·.1.isSome) = true := by rfl) (hks : (backToKw pos (keywordEach kws X.env)).filterMap (·.1) = ks := by rfl) (hdb : (x == ("__debug__" : Str)) = false := by decide)
    (hpl : ((backTo pos (starEach [] X.env)).any (·.1) || (backToKw pos (keywordEach kws X.env)).any (·.1.isNone)) = false := by rfl) :
    PD X (.Call (.Name x p) [] kws pos) (dMakeK C S np ks.length tks) := PE.imp (pe_makeK0 M F hr hg hm hb hx hkw hall hks hdb hpl) fun σ H Q ⟨m, ρ, c, Φ, S', h, q⟩ => by
  show liftA X.K tks σ H _
  exact ⟨m, ρ, c, _, S', h, fun ds c1 vs H1 m1 ⟨hn, hl, hc⟩ C1 R1 L1 => ⟨rfl, by rw [← RL.length R1]; exact hn, fun a dx h1 h2 h3 => sp_make C1 R1 hl hc (KQ.le (K := X.K) q L1) h1 h2 h3⟩⟩
end
/-! ### three names at once -/
def dPar3 (i j l : Nat) (ta tb tc : TD) : TSD := fun D ρ c => ta ρ c fun x c1 => tb ρ c1 fun y c2 => tc ρ c2 fun z c3 => D.nx (((ρ.set i (some x)).set j (some y)).set l (some z)) c3
def only3 (P : D → D → D → List Cell → Prop) : List D → List Cell → Prop
  | [x, y, z], c => P x y z c
  | _, _ => False
theorem psd_par3 {X : Cx} {i j l : Nat} {x y z : Str} {a b c : Expr} {ta tb tc : TD} {px py pz pt pos : Pos} {kt k2 pt2} (hc : X.calm = true) (hN : X.N.Nodup) (ha : PD X a ta) (hb : PD X b tb) (hcc : PD X c tc) (hi : X.N[i]? = some x := by rfl) (hj : X.N[j]? = some y := by rfl) (hl : X.N[l]? = some z := by rfl)
    (hij : i ≠ j := by decide) (hil : i ≠ l := by decide) (hjl : j ≠ l := by decide) (hx : X.env.scope.names.lookup x = some .local := by rfl) (hy : X.env.scope.names.lookup y = some .local := by rfl) (hz : X.env.scope.names.lookup z = some .local := by rfl)
    (hs3 : starEach (a :: [b, c]) X.env = (false, eval a X.env) :: starEach [b, c] X.env := by rfl) (hs2 : starEach (b :: [c]) X.env = (false, eval b X.env) :: starEach [c] X.env := by rfl) (hs1 : starEach (c :: []) X.env = (false, eval c X.env) :: starEach [] X.env := by rfl)
    (hw : swappedStores [.Tuple [.Name x px, .Name y py, .Name z pz] kt pt] (.Tuple [a, b, c] k2 pt2) X.env = pure (some [x, y, z]) := by rfl)
    (hs : swapsWithSole [.Tuple [.Name x px, .Name y py, .Name z pz] kt pt] (.Tuple [a, b, c] k2 pt2) pos.line X.env = pure false := by rfl) :
    PSD X (.Assign [.Tuple [.Name x px, .Name y py, .Name z pz] kt pt] (.Tuple [a, b, c] k2 pt2) pos) (dPar3 i j l ta tb tc) :=
  PS.imp (ps_par3 hc hN hi hj hl hij hil hjl hx hy hz (pds_cons ha (pds_cons hb (pds_cons hcc pds_nil hs1) hs2) hs3) hw hs) fun Dn σ H ⟨m, ρ, c, De, S, h, n, r, b, k⟩ =>
  ⟨m, ρ, c, only3 fun x y z c3 => De.nx (((ρ.set i (some x)).set j (some y)).set l (some z)) c3, S, h, fun ds c' vs H' m' hd C R L => by
    match ds, hd with
    | [x, y, z], hd =>
      obtain ⟨u, r1, rfl, ru, v, r2, rfl, rv, w, r3, rfl, rw', e⟩ := R
      cases (show r3 = [] from e)
      exact ⟨u, v, w, rfl, n _ H' m' _ c' hd ((((S.step L C).set ru).set rv).set rw') L⟩⟩
end Cw

namespace Cw
open PySem PySem.Spec PyProof.Rows L2

/-! ### the law's own entry, for FnG -/
abbrev OutG (s₁ : Shared) : Result → Shared → Prop := fun r s' => r = .ok (.ret (.bool true)) ∧ OldK s₁.heap s'.heap ∧ s'.os = s₁.os ∧ AllBare s'.gens
section
variable {P : Program} {w : World} {K : PySem.W.Frag} {mg mb : Str → Option Value} {k : Nat} {fa a : Addr} {fd : FuncData} {x : Str} {sp : Sp} {s₁ : Shared} {vs : List Value} {ns : List Int}
/-- from a heap in which at most the script is tracked -/
theorem entryG {H : Hp} (KX : K.In s₁.heap) (hns : s₁.heap.Ns mainGlobals mg) (hb : s₁.heap.Ns builtinsNs mb) (hbb : ∀ x : Str, x ≠ "__name__" → mb x = bootBuiltins x) (hlim : s₁.heap.NoLimit) (hg : s₁.gens = #[])
    (ha : s₁.heap.get? a = some { cls := .type "list", data := .seq vs.toArray }) (hr : Room k callerA) (F : ∀ base : Heap, K.In base → base.Ns mainGlobals mg → FnG P w K mg base k fa fd [x] sp) (hbind : ∀ (s : Shared) (u : Value), BindsTo s fd ⟨[u], []⟩ [(x, u)])
    (hO : Only H) (hS : sp [.ref a] H (fun v _ => v = .bl true) fun _ _ _ => False) (hok : HOk P w H s₁.heap) (hA : ∀ b, H b ≠ none → b = a) (hK : H a ≠ none → K.lookup a = none) :
    codeAny (model P w) callerA (.call (.ref fa) ⟨[.ref a], []⟩) (OutG s₁) s₁ := by
  have only : ∀ {b : Addr} {u : HO}, H b = some u → b = a := fun {b u} q => hA b (by rw [q]; exact fun z => nomatch z)
  have nsK : ∀ {b : Addr} {m : Str → Option Value}, s₁.heap.Ns b m → (hidT s₁.heap H).Ns b m := fun {b m} ⟨o, es, ep, e, d, r⟩ => by
    refine ⟨o, es, ep, hidT_get e ?_, d, r⟩
    cases q : H b with
    | none => rfl
    | some u =>
      have eb := only q
      subst eb
      rw [ha] at e
      cases e
      exact nomatch (show Data.seq vs.toArray _ = Data.dict es ep from d)
  have hKb : K.In (hidT s₁.heap H) := fun b o e => by
    refine hidT_get (KX b o e) ?_
    cases q : H b with
    | none => rfl
    | some u =>
      have eb := only q
      subst eb
      have := hK (by rw [q]; exact fun z => nomatch z)
      rw [this] at e; cases e
  obtain ⟨mc, l1, l2⟩ := hlim
  have e0 : Env0 P w K mg (hidT s₁.heap H) callerA [] s₁ H :=
    ⟨rfl, ⟨hKb, nsK hns, ⟨mb, nsK hb, hbb⟩, ⟨mc, nsK l1, l2⟩⟩, fun b o e => of_hidT e, Nat.le_of_eq (hidT_size _ _), trivial, fun b z => (List.not_mem_nil z).elim, hok, .of_eq hg⟩
  have run := (F _ hKb (nsK hns)).rn callerA [] s₁ H ⟨[.ref a], []⟩ [.ref a] [.ref a] _ _ rfl hr e0 (hbind s₁ (.ref a)) (.cons rfl .nil) hS
  refine codeAny_mono run fun r s' h => ?_
  cases r with
  | error e => exact False.elim h
  | ok fl =>
    cases fl with
    | ret u =>
      obtain ⟨v, H', os, bare, un, hok', rv, hv⟩ := h
      cases (show v = .bl true from hv)
      cases (show u = Value.bool true from rv)
      refine ⟨rfl, OldK.of_keep fun b o e => ?_, os, bare⟩
      cases q : H b with
      | none => exact un.keep b o e q (fun z => (List.not_mem_nil z).elim) (fun z => (List.not_mem_nil z).elim)
      | some u =>
        rcases hO b with z | ⟨ob, xs, z⟩
        · rw [q] at z; cases z
        · have old := (hok b _ z).1
          rw [e] at old
          cases old
          exact (hok' b _ (un.frzs b _ _ z)).1
    | next => exact False.elim h
    | brk => exact False.elim h
    | cont => exact False.elim h
theorem lawG (KX : K.In s₁.heap) (hns : s₁.heap.Ns mainGlobals mg) (hb : s₁.heap.Ns builtinsNs mb) (hbb : ∀ x : Str, x ≠ "__name__" → mb x = bootBuiltins x) (hlim : s₁.heap.NoLimit) (hg : s₁.gens = #[])
    (ha : s₁.heap.get? a = some { cls := .type "list", data := .seq vs.toArray }) (hi : IntsAre vs ns) (hl : ns.length ≤ sizeLine) (hr : Room k callerA) (F : ∀ base : Heap, K.In base → base.Ns mainGlobals mg → FnG P w K mg base k fa fd [x] sp) (hbind : ∀ (s : Shared) (u : Value), BindsTo s fd ⟨[u], []⟩ [(x, u)])
    (hsp : ∀ H : Hp, Only H → HOk P w H s₁.heap → SqL K H a (ns.map V.int) → sp [.ref a] H (fun v _ => v = .bl true) fun _ _ _ => False) : codeAny (model P w) callerA (.call (.ref fa) ⟨[.ref a], []⟩) (OutG s₁) s₁ := by
  have rv := vals_ints hi
  have hl' : (ns.map V.int).length ≤ sizeLine := by rw [List.length_map]; exact hl
  cases hk : K.lookup a with
  | some o =>
    have eo := (KX a o hk).symm.trans ha
    cases eo
    have ok0 : HOk P w (fun _ => none) s₁.heap := fun b u z => nomatch (show (none : Option HO) = some u from z)
    exact entryG KX hns hb hbb hlim hg ha hr F hbind (fun _ => .inl rfl) (hsp _ (fun _ => .inl rfl) ok0 (.inr ⟨_, vs.toArray, _, hk, rfl, rfl, rfl, by rw [List.size_toArray, hi.length]; exact hl, by simpa using rv⟩)) ok0 (fun b z => absurd rfl z) fun z => absurd rfl z
  | none =>
    let T : HO := .frz { cls := .type "list", data := .seq vs.toArray } (.lst (ns.map V.int))
    have at_ : ∀ b, (upd (fun _ => none) a T) b ≠ none → b = a := fun b z => Decidable.byContradiction fun hb => z (upd_ne hb)
    have hO : Only (upd (fun _ => none) a T) := fun b => by
      by_cases e : b = a
      · subst e; exact .inr ⟨_, _, upd_same⟩
      · exact .inl (upd_ne e)
    have ok1 : HOk P w (upd (fun _ => none) a T) s₁.heap := fun b u z => by
      have e := at_ b (by rw [z]; exact fun z => nomatch z)
      subst e
      rw [upd_same] at z
      cases z
      exact ⟨ha, hl', vs, _, rv, ha⟩
    exact entryG KX hns hb hbb hlim hg ha hr F hbind hO (hsp _ hO ok1 (.inl (.inr ⟨_, upd_same⟩))) ok1 at_ fun _ => hk
end
theorem walkG {l : PySem.W.OpenLaw} {n k : Nat} {q : Program} {loose : List Str} {XP : (Str → Option Value) → Heap → Prop} {YP : World → Heap → Prop} {d : DefRec} {K : Params → PySem.W.Frag} {sp : World → Sp} {x : Str}
    (hn : l.most = some n) (hn2 : n ≤ sizeLine) (hdf : d.params.defaults = []) (hr : Room k callerA) (hY : ∀ (w : World) (h : Heap), YP w h → (K w.params).In h)
    (F : ∀ (w : World) (mg : Str → Option Value) (fa : Addr) (h : Heap), (K w.params).In h → h.Ns mainGlobals mg → mg d.name = some (.ref fa) →
      ∃ fd : FuncData, (∀ (s : Shared) (u : Value), BindsTo s fd ⟨[u], []⟩ [(x, u)]) ∧ ∀ base : Heap, (K w.params).In base → base.Ns mainGlobals mg → FnG l.prog w (K w.params) mg base k fa fd [x] (sp w))
    (hsp : ∀ (w : World) (h : Heap) (H : Hp) (a : Addr) (ns : List Int), ns.length ≤ n → Only H → HOk l.prog w H h → SqL (K w.params) H a (ns.map V.int) → sp w [.ref a] H (fun v _ => v = .bl true) fun _ _ _ => False) :
    PySem.W.WalkO q loose XP YP l.row.toRowW d [] (fun f vs => PySem.call f vs) := by
  refine Att.attach_call hn hdf fun w s₀ s₁ mg mb fa o pm cd doc a vs ns G Y ho hd hcd hmg hobj hints hlen hg => ?_
  have KX := hY w _ Y
  obtain ⟨fd, hb, hF⟩ := F w mg fa _ KX G.T.g hmg
  exact lawG KX G.T.g G.T.b G.T.builtins G.T.nolimit hg hobj hints (Nat.le_trans hlen hn2) hr hF hb fun H hO hk hS => hsp w _ H a ns hlen hO hk hS
end Cw

namespace Cw
open PySem PySem.Spec PyProof.Rows L2

/-! ### sorted({e for x in t}), e texts -/
def dSortSet (ti : TDs) (i : Nat) (te : TD) : TD := fun ρ c Φ => ti ρ c fun ds c1 => ∃ ys : List Str, ys.length = ds.length ∧ ds.length < 64 ∧
  (∀ (j : Nat) d y, ds[j]? = some d → ys[j]? = some y → ∀ Ψ : D → List Cell → Prop, Ψ (.str y) c1 → te (ρ.set i (some d)) c1 Ψ) ∧ ∀ zs : List Str, zs.Nodup → sortedS zs = true → (∀ x, x ∈ zs ↔ x ∈ ys) → Φ (.lst (zs.map .str)) c1
end Cw

namespace Cw
open PySem PySem.Spec PyProof.Rows L2 PySem.Froz

/-! ### a set of texts that can be walked -/
theorem tailTx_ris {ep : Nat} {es : Array (Int × Value)} {t : SetTable} {b : Bool} (r : Ris t.place.toList) : Ris (tailTx ep es t b).2.2.place.toList := by
  unfold tailTx
  split
  · exact relayAll_ris _ _ _
  · exact r
theorem tailTx_led {ep : Nat} {es : Array (Int × Value)} {t : SetTable} {b : Bool} : (tailTx ep es t b).2.2.led = t.led := by
  unfold tailTx
  split
  · exact relayAll_led _ _ _
  · rfl
theorem addTx_ris {h : Int} {v : Value} {D : SD} (r : Ris D.2.2.place.toList) : Ris (addTx h v D).2.2.place.toList := by
  unfold addTx
  refine tailTx_ris ?_
  have := layNew_ris D.2.2 D.1 h v r
  split <;> exact this
theorem addTx_led {h : Int} {v : Value} {D : SD} : (addTx h v D).2.2.led = D.2.2.led := by
  unfold addTx
  rw [tailTx_led]
  have := layNew_led D.2.2 D.1 h v
  split <;> exact this
/-- at a stands a set with just the texts l, no two alike, that can be walked -/
structure TxA (P : Program) (w : World) (h : Heap) (a : Addr) (l : List Str) : Prop where
  ex : ∃ D : SD, h.get? a = some (sObj "set" D) ∧ TxOk P w D l ∧ Ris D.2.2.place.toList ∧ (w.params.followText "set-order" = true ∨ D.2.2.led = true)
  nd : l.Nodup
section
variable {P : Program} {w : World} {A : Around} {E : Value → Shared → Prop} {s : Shared} {a : Addr} {l : List Str} {k : Str} {tk : Tok}
theorem TxA.put (R : TxA P w s.heap a l) (hb : l.length + 1 < scanBound) {Q : Bool → Shared → Prop}
    (h1 : k ∉ l → ∀ h', Heap.SameBut a s.heap h' → TxA P w h' a (k :: l) → Q true { s with heap := h' }) (h2 : k ∈ l → Q false s) :
    wpAny (model P w) A (setAddHashed a (.str k tk) (hashStr w k)) Q E s := by
  obtain ⟨⟨D, ho, F, r, le⟩, nd⟩ := R
  by_cases hk : k ∈ l
  · obtain ⟨es, ep, t⟩ := D
    have hd : (sObj "set" (es, ep, t)).data = .set es ep t := rfl
    have few : es.size < scanBound := by
      have := F.sz
      have this : es.size = l.length := this
      omega
    unfold setAddHashed setAddHashedIn
    refine wpAny_holding (wpAny_bind (wpAny_setState_of ho hd F.fit ?_))
    dsimp only
    rw [byScan_of rfl few F.el]
    simp only [↓reduceIte]
    unfold setAddByScan
    refine wpAny_bind (wpAny_bind (wpAny_rule (wpAny_bind (wpAny_setScan_of (knd := PySem.strKind P w) (k := k) (is_str k tk) ho hd F.fit F.el ?_))))
    cases e : List.findIdx? (fun e => (PySem.strKind P w).is k e.2) es.toList with
    | some j => exact wpAny_pure (wpAny_pure (h2 hk))
    | none =>
      obtain ⟨x, hx, hi⟩ := (F.mem k).mp hk
      have := List.findIdx?_eq_none_iff.mp e x hx
      rw [hi] at this; cases this
  · refine add_x ho F hk hb (h1 hk _ (Heap.SameBut.update s.heap a _) ⟨⟨addTx (hashStr w k) (.str k tk) D, ?_, add_ok tk F, addTx_ris r, by rw [addTx_led]; exact le⟩, List.nodup_cons.mpr ⟨hk, nd⟩⟩)
    exact Heap.get?_update_self _ ho rfl
open Builtin in
theorem TxA.add (R : TxA P w s.heap a l) (hb : l.length + 1 < scanBound) {Q : Value → Shared → Prop}
    (h1 : k ∉ l → ∀ h', Heap.SameBut a s.heap h' → TxA P w h' a (k :: l) → Q .none { s with heap := h', toks := s.toks + 1 }) (h2 : k ∈ l → Q .none { s with toks := s.toks + 1 }) :
    wpAny (model P w) A (call (.builtin "set.add") [.ref a, .str k tk]) Q E s := by
  obtain ⟨D, ho, _⟩ := R.ex
  refine wpAny_call_entry PySem.F.slot_set_add ⟨_, ho, rfl⟩ PySem.F.entry_set_add ?_ (PySem.F.args_set_add_2 _ _)
  unfold Builtin.«set.add» Builtin.Frozenset.oneOther
  simp only [List.isEmpty_nil, bind_assoc]
  unfold Builtin.Frozenset.addrOf setAdd
  refine wpAny_bind (wpAny_pure ?_)
  try dsimp only
  refine wpAny_bind (wpAny_pure ?_)
  try dsimp only
  refine wpAny_bind (wpAny_holding (wpAny_bind ((PySem.strKind P w).pyHash (is_str k tk) ?_)))
  refine TxA.put (s := { s with toks := s.toks + 1 }) R hb (fun hk h' sb r => ?_) fun hk => ?_
  · exact wpAny_pure ⟨_, rfl, h1 hk h' sb r⟩
  · exact wpAny_pure ⟨_, rfl, h2 hk⟩
end
/-- tracked -/
def TxO (P : Program) (w : World) (a : Addr) (l : List Str) : HO := .ext fun h => TxA P w h a l
theorem TxA.keep {P : Program} {w : World} {h h' : Heap} {a : Addr} {l : List Str} (R : TxA P w h a l) (k : ∀ o, h.get? a = some o → h'.get? a = some o) : TxA P w h' a l := by
  obtain ⟨⟨D, ho, r⟩, nd⟩ := R
  exact ⟨⟨D, k _ ho, r⟩, nd⟩
theorem TxA.fresh {P : Program} {w : World} {h : Heap} : TxA P w (h.push { cls := .type "set", dict := none, data := .set #[] 0 (.fresh 0 0 (!w.params.followText "set-order")) }) h.objs.size [] :=
  ⟨⟨(#[], 0, .fresh 0 0 (!w.params.followText "set-order")), Heap.get?_push_size _ rfl, TxOk.nil (by rfl), List.Pairwise.nil, by
    show _ ∨ (!w.params.followText "set-order") = true
    cases w.params.followText "set-order"
    · exact .inr rfl
    · exact .inl rfl⟩, List.nodup_nil⟩
theorem txO_new {P : Program} {w : World} {H : Hp} {h : Heap} {a : Addr} {l : List Str} (R : TxA P w h a l) : ObjOk P w H h a (TxO P w a l) := by
  obtain ⟨D, ho, _⟩ := R.ex
  exact ⟨R, ⟨_, ho⟩, fun _ _ p k => p.keep k⟩
theorem txO_get {X : Cx} {pins : List (Addr × Obj)} {σ : L2.St} {H : Hp} {s : Shared} {a : Addr} {l : List Str} (I : Inv X pins σ H s) (ha : H a = some (TxO X.prog X.w a l)) : TxA X.prog X.w s.heap a l := (I.hok a _ ha).1
theorem addT_ok {X : Cx} {pins : List (Addr × Obj)} {σ : L2.St} {H : Hp} {s : Shared} {E : Value → Shared → Prop} {D : Addr} {l : List Str} {k : Str} {tk : Tok} {Q : Value → Shared → Prop} (I : Inv X pins σ H s) (hD : H D = some (TxO X.prog X.w D l)) (room : l.length + 1 < scanBound)
    (h : ∀ s', Inv X pins σ (upd H D (TxO X.prog X.w D (if k ∈ l then l else k :: l))) s' → Q .none s') : wpAny (model X.prog X.w) X.A (call (.builtin "set.add") [.ref D, .str k tk]) Q E s := by
  have R := txO_get I hD
  refine R.add room (fun hk h' sb new => ?_) fun hk => ?_
  · rw [if_neg hk] at h
    obtain ⟨D', ho, _⟩ := new.ex
    exact h _ (I.write (e := D) (t' := s.toks + 1) (by rw [hD]; trivial) (.inl rfl) (fun b u hb hu => (sb.2 b hb).trans hu) ⟨_, ho⟩ (txO_new new))
  · rw [if_pos hk] at h
    have e : upd H D (TxO X.prog X.w D l) = H := by
      funext b
      by_cases hb : b = D
      · subst hb; rw [upd_same, hD]
      · rw [upd_ne hb]
    rw [e] at h
    exact h _ (I.tok _)
end Cw

namespace Cw
open PySem PySem.Spec PyProof.Rows L2 PySem.Froz

/-! ### {e for x in t}, e texts: the walk -/
def mem1 (k : Str) (l : List Str) : List Str := if k ∈ l then l else k :: l
def tTx (P : Program) (w : World) (wi : TI) (g : TG) (te : TE) (vs : List Nat) : TE := fun σ H Q => wi σ H fun J Ha => ∀ p, Ha p = none → ∃ Z : Nat → Nat → Hp → Prop, (∃ m, Z 0 m (upd Ha p (TxO P w p []))) ∧
  ∀ i m H, Z i m H → (J.stop i H ∧ Q (.ref p) H) ∨ (J.go i H ∧ ∃ Nx : Hp → Prop, (∀ H', Nx H' → ∃ m', m' < m ∧ Z (i + 1) m' H') ∧ ∀ x H', J.yld i H x H' → g x (wipe σ vs) H' fun σ2 H2 => wipe σ2 vs = wipe σ vs ∧
    te σ2 H2 fun y Hb => ∃ (k : Str) (l : List Str), y = .str k ∧ Hb p = some (TxO P w p l) ∧ l.length + 1 < scanBound ∧ Nx (upd Hb p (TxO P w p (mem1 k l))))
section
variable {X : Cx} {elt tg it : Expr} {scope : Scope} {own : List (Str × Nat)} {pos : Pos} {wi : TI} {g : TG} {te : TE}
theorem tx_walk (hc : X.calm = true) (hN : X.N.Nodup) (hi : PI X tg it wi) (ok : BlkOk X.N X.env.scope scope own)
    (hg : ∀ (s : Shared) (H : Hp) (C : Addr) (cl : List (Str × Addr)) (fp : List Addr), PG (X.blk s H scope (compEnvC scope cl C X.env) fp) tg g)
    (he : ∀ (s : Shared) (H : Hp) (C : Addr) (cl : List (Str × Addr)) (fp : List Addr), PE (X.blk s H scope (compEnvC scope cl C X.env) fp) elt te) (hs : ∀ x, foldedSetIterable it X.env x = pure x) :
    PE X (.SetComp elt [⟨tg, it, [], 0⟩] scope pos) (tTx X.prog X.w wi g te (own.map (·.2))) := by
  refine ⟨fun pins s σ H Q I h => ?_⟩
  rw [PpSet.eval_SetComp]
  have caps : ∀ n ∈ scope.names, n.2 = .free → ∃ c, X.env.cells.lookup n.1 = some c := fun n hn e => (ok.free n hn e).elim (fun z => I.ok.has _ (.inl z)) fun z => I.ok.has _ (.inr z)
  refine wpAny_comprehension_free (use := none) rfl hs (closure_ok caps) ok.kind (fun n hn e => by rw [ok.uniq n hn, e]) (thn (hi.run pins s σ H _ I h) fun v0 s1 a1 => thn a1 fun v1 s2 a2 => ?_)
  obtain ⟨b, fp, tn, J, Ha, ev, I2, T, st2, f2, q⟩ := a2
  subst ev
  refine PpSet.newSet_ok (newEnv_comp ?_)
  generalize hp : s2.heap.objs.size = p
  have pn : Ha p = none := I2.hok.fresh (Nat.le_of_eq hp)
  obtain ⟨Z, ⟨m0, z0⟩, turn⟩ := q p pn
  generalize hs3 : ({ s2 with heap := s2.heap.push { cls := .type "set", dict := none, data := .set #[] 0 (.fresh 0 0 (!X.w.params.followText "set-order")) } } : Shared) = s3
  have eh : s3.heap = s2.heap.push { cls := .type "set", dict := none, data := .set #[] 0 (.fresh 0 0 (!X.w.params.followText "set-order")) } := by subst hs3; rfl
  have I3 : Inv X pins σ (upd Ha p (TxO X.prog X.w p [])) s3 := by
    subst hs3
    refine I2.laid (t' := s2.toks) (fun _ _ e => Heap.get?_push_of_some _ e) (Nat.le_of_eq hp) ?_
    subst hp
    exact txO_new TxA.fresh
  have f3 : ∀ c ∈ fp, FpOk X pins (upd Ha p (TxO X.prog X.w p [])) c ∧ c < s3.heap.objs.size := fun c hm => by
    obtain ⟨o, eo, _⟩ := T.obj _ _ st2 c hm
    have lt := Heap.lt_size eo
    have ne : c ≠ p := by rw [← hp]; exact Nat.ne_of_lt lt
    exact ⟨⟨(upd_ne ne).trans (f2 c hm).1, (f2 c hm).2⟩, by rw [eh, Heap.size_push]; exact Nat.lt_succ_of_lt lt⟩
  have st3 : tn 0 s3.heap := T.keep _ _ _ st2 fun c _ o e => by rw [eh]; exact Heap.get?_push_of_some _ e
  generalize hHb : upd Ha p (TxO X.prog X.w p []) = Hb at I3 f3 z0
  have I4 := block_start I3 ok hN f3
  have pg := hg s3 Hb s3.heap.objs.size (cellsFrom (s3.heap.objs.size + 1) scope.names (cloFrom X.env.cells scope.names [])) fp
  have pe := he s3 Hb s3.heap.objs.size (cellsFrom (s3.heap.objs.size + 1) scope.names (cloFrom X.env.cells scope.names [])) fp
  show codeAny _ _ (.compStart (.SetComp elt [⟨tg, it, [], 0⟩] scope pos) 0 (.ref b) (.ref p) (compEnvC scope (cellsFrom (s3.heap.objs.size + 1) scope.names (cloFrom X.env.cells scope.names [])) s3.heap.objs.size X.env)) (compPost (model X.prog X.w) X.A X.xe none _ (.ref p) s3.heap.objs.size) { s3 with heap := pushCells (s3.heap.push { cls := .type "dict", data := .dict #[] }) scope.names }
  generalize hce : compEnvC scope (cellsFrom (s3.heap.objs.size + 1) scope.names (cloFrom X.env.cells scope.names [])) s3.heap.objs.size X.env = ce at I4 pg pe ⊢
  have el : ce.locals = s3.heap.objs.size := by subst hce; rfl
  generalize hs4 : ({ s3 with heap := pushCells (s3.heap.push { cls := .type "dict", data := .dict #[] }) scope.names } : Shared) = s4 at I4 ⊢
  have st4 : tn 0 s4.heap := T.keep _ _ _ st3 fun c _ o e => by subst hs4; exact pushCells_keeps _ _ _ _ (Heap.get?_push_of_some _ e)
  -- what is walked stands still
  have fpk : ∀ {τ : L2.St} {Hz : Hp} {sz : Shared}, Inv (X.blk s3 Hb scope ce fp) [] τ Hz sz → (∀ c ∈ fp, Hz c = none) → ∀ c ∈ fp, FpOk (X.blk s3 Hb scope ce fp) [] Hz c := fun Iz nz c hm => by
    refine ⟨nz c hm, (Iz.ok.exf c hm).1, Iz.ok.exfs c hm, .inl hm, fun n d e => (Iz.ok.exf c hm).2 n d e, fun pr hpr => ?_⟩
    rw [List.append_nil] at hpr
    cases hpr
  have loop : codeAny (model X.prog X.w) X.A (.compLoop (.SetComp elt [⟨tg, it, [], 0⟩] scope pos) 0 (.ref b) (.ref p) ce) (compPost (model X.prog X.w) X.A X.xe none (EP X pins σ Q) (.ref p) s3.heap.objs.size) s4 := by
    refine PpSet.compLoopS_any (fun n sz => ∃ i Hz, Inv (X.blk s3 Hb scope ce fp) [] (wipe σ (own.map (·.2))) Hz sz ∧ tn i sz.heap ∧ (∀ c ∈ fp, Hz c = none) ∧ Z i n Hz) ?_ m0 ⟨0, Hb, I4, st4, fun c hm => (f3 c hm).1.1, z0⟩
    rintro n s5 ⟨i, Hc, I5, st5, n5, z5⟩
    rcases turn i n Hc z5 with ⟨stop, fin⟩ | ⟨go, Nx, next, step⟩
    · refine thnF (T.done (X.blk s3 Hb scope ce fp) rfl rfl rfl hc i [] s5 _ Hc (fun _ _ => False) I5 (fpk I5 n5) st5 stop) fun r s6 ⟨er, I6⟩ => ?_
      subst er
      have I7 : Inv X pins σ Hc s6 := I3.call' (ch := fp) I6.os I6.base I6.hok I6.bare fun c hm => ⟨(f3 c hm).1.2.2.2.1, (f3 c hm).1.2.1, (f3 c hm).1.2.2.2.2.1, (f3 c hm).1.2.2.2.2.2⟩
      have nl : Hc s3.heap.objs.size = none := by rw [← el]; exact I6.free
      obtain ⟨m, hm, _⟩ := I6.loc
      have hm : s6.heap.Ns ce.locals m := hm
      rw [el] at hm
      obtain ⟨g0, g1, g2, g3, g4, g5⟩ := I3.fpOk (Nat.le_refl _) nl
      exact ⟨m, hm, fun h'' sb => ⟨.ref p, Hc, I7.turned (t' := s6.toks) (fun c o hb e => (sb.2 c hb).trans e) g0 g1 g3 g4 g5, rfl, fin⟩⟩
    · refine thnF (T.item (X.blk s3 Hb scope ce fp) rfl rfl rfl hc i [] s5 _ Hc (fun _ _ => False) I5 (fpk I5 n5) st5 go) fun r s6 ⟨u, er, a6⟩ => ?_
      subst er
      refine thnF a6 fun _ s7 ⟨x, Hd, I7, r7, y7, st7, n7⟩ => ?_
      refine thnF (pg.run _ s7 _ Hd x u _ (I7.pinned (fpk I7 n7) (T.obj _ _ st7)) r7 (step x Hd y7)) fun _ s8 ⟨τ, He, I8, ew, q8⟩ => ?_
      have still : ∀ {sz : Shared} {Hz : Hp}, Inv (X.blk s3 Hb scope ce fp) ([] ++ pinsAt fp s7.heap) τ Hz sz → Nx Hz → ∃ m, m < n ∧ ∃ i Hz, Inv (X.blk s3 Hb scope ce fp) [] (wipe σ (own.map (·.2))) Hz sz ∧ tn i sz.heap ∧ (∀ c ∈ fp, Hz c = none) ∧ Z i m Hz := fun {sz Hz} Iz nx => by
        obtain ⟨m', lt, z'⟩ := next Hz nx
        have pin : ∀ c ∈ fp, ∀ o, s7.heap.get? c = some o → sz.heap.get? c = some o ∧ Hz c = none := fun c hm o e => by
          have t := Iz.pin (c, o) (List.mem_append_right _ (List.mem_append_right _ (mem_pinsAt hm e)))
          exact ⟨t.1, t.2.1⟩
        refine ⟨m', lt, i + 1, Hz, (Iz.unpinned (pins := [])).weak (by rw [← ew, wipe_length]) (fun j v e => ?_), T.keep _ _ _ st7 fun c hm o e => (pin c hm o e).1, fun c hm => ?_, z'⟩
        · rw [← ew] at e; exact (wipe_some e).1
        · obtain ⟨o, e, _⟩ := T.obj _ _ st7 c hm
          exact (pin c hm o e).2
      show wpAny _ _ (pure true) _ _ _
      refine wpAny_pure ?_
      rw [if_pos rfl]
      refine thnF (pe.run _ s8 τ He _ I8 q8) fun u s9 ⟨v, Hf, I9, r9, k, l, evk, hp9, room, nx⟩ => ?_
      subst evk
      obtain ⟨tk, rfl⟩ := r9
      exact addT_ok (X := X.blk s3 Hb scope ce fp) I9 hp9 room fun s10 I10 => still I10 nx
  exact PpSet.codeAny_compStart_set loop (T.self X.A 0 _ _ _ st4 loop)
end
/-! ### sorted of it -/
theorem perm_in : ∀ {l ks : List Str}, l.Nodup → (∀ x ∈ l, x ∈ ks) → ks.length = l.length → ks.Perm l
  | [], ks, _, _, e => by
    have : ks = [] := List.eq_nil_of_length_eq_zero e
    subst this; exact .nil
  | x :: l, ks, nd, sub, e => by
    obtain ⟨hx, nd'⟩ := List.nodup_cons.mp nd
    have hm := sub x List.mem_cons_self
    refine (List.perm_cons_erase hm).trans (.cons x (perm_in nd' (fun y hy => ?_) ?_))
    · exact (List.mem_erase_of_ne (fun z => by subst z; exact hx hy)).mpr (sub y (List.mem_cons_of_mem _ hy))
    · rw [List.length_erase_of_mem hm, e]; rfl
def txtOf : Value → Str
  | .str k _ => k
  | _ => Str.empty
theorem txts_are : ∀ {us : List Value}, (∀ u ∈ us, ∃ k t, u = .str k t) → StrsAre us (us.map txtOf)
  | [], _ => .nil
  | u :: us, h => by
    obtain ⟨k, t, rfl⟩ := h u List.mem_cons_self
    exact .cons k t (txts_are fun v hv => h v (List.mem_cons_of_mem _ hv))
section
variable {X : Cx}
def rSortTx (P : Program) (w : World) : List V → Hp → VK → Prop := fun xs H Q => ∃ (a : Addr) (l : List Str), xs = [.ref a] ∧ H a = some (TxO P w a l) ∧ l.length < 64 ∧
  ∀ (ys : List Str) (p : Addr), ys.Nodup → (∀ x, x ∈ ys ↔ x ∈ l) → sortedS ys = true → H p = none → Q (.ref p) (upd H p (.lst (ys.map .str)))
theorem call_sortTx (hc : X.calm = true) : CallR X (.builtin "sorted") (rSortTx X.prog X.w) := by
  intro pins s σ H xs us Q I r q
  obtain ⟨a, l, rfl, ha, few, q⟩ := q
  rw [Vals.ref1 r]
  have R := txO_get I ha
  obtain ⟨⟨D, ho, F, rs, le⟩, nd⟩ := R
  obtain ⟨es, ep, tb⟩ := D
  have hsz : es.size = l.length := F.sz
  refine Calls.call_function_entry kind_sorted plain_sorted entry_sorted (args_sorted1 _) ?_
  unfold Builtin.«sorted»
  refine wpAny_bind (m := checkCount "sorted" 1 1 _) (wpAny_pure (wpAny_bind ?_))
  refine collect_set (I.ok.hd hc) ⟨_, ho, rfl, rfl⟩ F.fit (Nat.lt_trans (show es.size < 64 by omega) (by decide)) rs le fun s1 vs kp hz gn eo pm => ?_
  have hvl : vs.length = l.length := by rw [pm.length_eq, List.length_map, Array.length_toList]; exact hsz
  have shape : ∀ v ∈ vs, ∃ k t, v = Value.str k t := fun v hv => by
    obtain ⟨e, he, ev⟩ := List.mem_map.mp (pm.mem_iff.mp hv)
    obtain ⟨⟨k, hk, _⟩, _⟩ := F.el e he
    obtain ⟨t, et⟩ := Value.isStrOf_shape (x := k) (v := e.2) hk
    exact ⟨k, t, by rw [← ev]; exact et⟩
  have hS := txts_are shape
  have hks : (vs.map txtOf).Perm l := perm_in nd (fun k hk => by
    obtain ⟨e, he, hi⟩ := (F.mem k).mp hk
    obtain ⟨t, et⟩ := Value.isStrOf_shape (x := k) (v := e.2) hi
    exact List.mem_map.mpr ⟨e.2, pm.mem_iff.mpr (List.mem_map_of_mem he), by rw [et]; rfl⟩) (by rw [List.length_map, hvl])
  have e1 : s1 = { s with heap := s1.heap, gens := s1.gens, drawn := s1.drawn, toks := s1.toks } := by
    cases s1; cases s; cases eo; rfl
  refine wpAny_bind (wpAny_newList ?_ (by rw [hvl, sizeLine_eq]; omega))
  have at0 : (s1.heap.push (seqObj "list" vs.toArray 0)).get? s1.heap.objs.size = some (seqObj "list" vs.toArray 0) := Heap.get?_push_size _ rfl
  refine wpAny_bind (wpAny_holding (wpAny_call_entry slot_list_sort ⟨_, at0, rfl⟩ entry_list_sort (list_sort_treeK strKind_oneLt at0 hS.keysOf (fun v₁ v₂ rest e => keyKind_strs (by rw [← e]; exact hS)) (by rw [hvl]; exact few) fun st' hp hs => ⟨_, rfl, ?_⟩) (args_list_sort _)))
  obtain ⟨ys, g1, g2, g3⟩ := sorted_out_str hS hp hs
  obtain ⟨c, hc'⟩ := sortedHeap_at (vs := vs) (out := (arrOf st').map (·.2)) at0
  have lim : (ys.map V.str).length ≤ sizeLine := by
    rw [List.length_map, g2.length_eq, List.length_map, hvl, sizeLine_eq]; omega
  have old : ∀ b u, s.heap.get? b = some u → (sortedHeap (s1.heap.push (seqObj "list" vs.toArray 0)) s1.heap.objs.size vs ((arrOf st').map (·.2))).get? b = some u := fun b u e => by
    have z := kp b u e
    have lt := Heap.lt_size z
    rw [sortedHeap_old (Nat.ne_of_lt lt) (by rw [size_push']; exact Nat.lt_succ_of_lt lt)]
    exact Heap.get?_push_of_some _ z
  have pn : H s1.heap.objs.size = none := I.hok.fresh hz
  have J : Inv X pins σ (upd H s1.heap.objs.size (.lst (ys.map V.str))) { s with heap := sortedHeap (s1.heap.push (seqObj "list" vs.toArray 0)) s1.heap.objs.size vs ((arrOf st').map (·.2)), gens := s1.gens, drawn := s1.drawn, toks := s1.toks } :=
    I.call (ch := []) (Un.laid old hz pn) (I.hok.laid old hz ⟨lim, ((arrOf st').map (·.2)).toList, c, vals_of_strs g1, by rw [Array.toArray_toList]; exact hc'⟩) (by rw [gn]; exact I.bare) (fun _ z => nomatch z)
  rw [e1]
  exact wpAny_pure ⟨_, rfl, .ref s1.heap.objs.size, _, J, rfl, q ys _ ((g2.trans hks).nodup_iff.mpr nd) (fun x => (g2.trans hks).mem_iff) g3 pn⟩
end
/-! ### the set is no part of what is read -/
/-- no code object, no exception -/
def NoX (p : Addr) (o : HO) : Prop := ∀ q, o ≠ LamX.CodeO p q
def heapAt (p : Addr) (o : Obj) : Heap := ⟨Array.replicate (p + 1) o, {}⟩
theorem heapAt_get {p : Addr} {o : Obj} {vs : Array Value} (h : o.data = .fields vs) : (heapAt p o).get? p = some o := by
  obtain ⟨a, b, c, d⟩ := o
  simp only at h
  subst h
  unfold heapAt Heap.get?
  simp
theorem txO_nox {P : Program} {w : World} {p : Addr} {l : List Str} : NoX p (TxO P w p l) := by
  intro q z
  have z1 : HO.ext (fun h => TxA P w h p l) = LamX.CodeO p q := z
  unfold LamX.CodeO at z1
  injection z1 with z2
  have g := heapAt_get (p := p) (o := { cls := .none, data := .fields #[.none, .str q 0] }) rfl
  have z3 := congrFun z2 (heapAt p { cls := .none, data := .fields #[.none, .str q 0] })
  have z4 : TxA P w (heapAt p { cls := .none, data := .fields #[.none, .str q 0] }) p l := by rw [z3]; exact ⟨_, _, _, g, rfl, rfl⟩
  obtain ⟨D, e, _⟩ := z4.ex
  rw [g] at e
  cases e

section
variable {K : PySem.W.Frag} {ix : List Addr} {H H' : Hp} {p : Addr} {f : Heap → Prop}
theorem no_rd {a : Addr} {u : HO} (hp : H p = some (.ext f)) (hx : NoX p (.ext f)) (k : ∀ b o, b ≠ p → H b = some o → H' b = some o) (hu : ∀ g, u ≠ .ext g) (h : Rd H a u) : Rd H' a u := by
  rcases h with h | ⟨o, h⟩
  · by_cases e : a = p
    · subst e; rw [hp] at h; cases h; exact absurd rfl (hu f)
    · exact .inl (k a _ e h)
  · by_cases e : a = p
    · subst e; rw [hp] at h; cases h
    · exact .inr ⟨o, k a _ e h⟩
mutual
theorem R.off (hp : H p = some (.ext f)) (hx : NoX p (.ext f)) (k : ∀ b o, b ≠ p → H b = some o → H' b = some o) : ∀ (d : D) (v : V), R K ix H d v → R K ix H' d v
  | .non, _, h => h
  | .bl _, _, h => h
  | .int _, _, h => h
  | .str _, _, h => h
  | .tup ds, _, ⟨a, xs, e1, h1, h2⟩ => ⟨a, xs, e1, h1.imp (no_rd hp hx k (fun _ z => nomatch z)) id, RL.off hp hx k ds xs h2⟩
  | .lst ds, _, ⟨a, xs, e1, h1, h2⟩ => ⟨a, xs, e1, k a _ (fun e => by subst e; rw [hp] at h1; cases h1) h1, RL.off hp hx k ds xs h2⟩
  | .fl ds, _, ⟨a, xs, e1, h1, h2⟩ => ⟨a, xs, e1, h1.imp (no_rd hp hx k (fun _ z => nomatch z)) id, RL.off hp hx k ds xs h2⟩
  | .cell j, _, h => h
  | .ins _ _ ds, _, ⟨a, dx, fs, e1, h1, h2, h3⟩ => ⟨a, dx, fs, e1, k a _ (fun e => by subst e; rw [hp] at h1; cases h1) h1, h2, RL.off hp hx k ds _ h3⟩
  | .dct _ ds, _, ⟨a, kvs, e1, h1, h2, h3⟩ => ⟨a, kvs, e1, no_rd hp hx k (fun _ z => nomatch z) h1, h2, RL.off hp hx k ds _ h3⟩
  | .dcT _ ds, _, ⟨a, kvs, e1, h1, h2, h3⟩ => ⟨a, kvs, e1, k a _ (fun e => by subst e; rw [hp] at h1; cases h1) h1, h2, RL.off hp hx k ds _ h3⟩
  | .exc _ dd _ _ ds, _, ⟨fs, e1, h1, h5, h6⟩ => ⟨fs, e1, k dd _ (fun e => by subst e; rw [hp] at h1; cases h1) h1, h5, RL.off hp hx k ds _ h6⟩
  | .raw _, _, h => h
theorem RL.off (hp : H p = some (.ext f)) (hx : NoX p (.ext f)) (k : ∀ b o, b ≠ p → H b = some o → H' b = some o) : ∀ (ds : List D) (xs : List V), RL K ix H ds xs → RL K ix H' ds xs
  | [], _, h => h
  | d :: ds, _, ⟨x, r, e1, h1, h2⟩ => ⟨x, r, e1, R.off hp hx k d x h1, RL.off hp hx k ds r h2⟩
end
end
theorem TabK.off {m : Ad} {H : Hp} {p P : Addr} {f : Heap → Prop} {o : HO} {q : Str} (t : TabK m H P q) (hp : H p = some (.ext f)) (hx : NoX p (.ext f)) (hP : P ≠ p) : TabK m (upd H p o) P q := by
  obtain ⟨ps, h1, h2, h3⟩ := t
  refine ⟨ps, by rw [upd_ne hP]; exact h1, h2, fun pos cv hc => ?_⟩
  obtain ⟨c, e1, e2⟩ := h3 pos cv hc
  obtain ⟨h4, h5⟩ := hid_some e2
  refine ⟨c, e1, ?_⟩
  rw [hid_of h4, upd_ne]
  · exact h5
  · intro e
    subst e
    rw [hp] at h5
    exact hx q (Option.some.inj h5)
theorem CR.off {K : PySem.W.Frag} {H : Hp} {m : Ad} {c : List Cell} {p : Addr} {f : Heap → Prop} {o : HO} (C : CR K H m c) (hp : H p = some (.ext f)) (hx : NoX p (.ext f)) (hn : p ∉ m.ix ∧ p ∉ m.hd) : CR K (upd H p o) m c := by
  have hp' : hid m H p = some (.ext f) := by rw [hid_of hn]; exact hp
  have k : ∀ b u, b ≠ p → hid m H b = some u → hid m (upd H p o) b = some u := fun b u ne e => by
    obtain ⟨h1, h2⟩ := hid_some e
    rw [hid_of h1, upd_ne ne]; exact h2
  refine ⟨C.len, C.nd, fun j ce e => ?_, fun b hb => ?_, C.dj, fun q hq => ⟨(C.tk q hq).1, (C.tk q hq).2.off hp hx (fun z => hn.2 (z ▸ (C.tk q hq).1))⟩⟩
  · obtain ⟨a, h1, h2⟩ := C.at_ j ce e
    have ne : a ≠ p := fun z => hn.1 (z ▸ List.mem_of_getElem? h1)
    refine ⟨a, h1, ?_⟩
    cases ce with
    | lst ds => obtain ⟨xs, h3, h4⟩ := h2; exact ⟨xs, by rw [upd_ne ne]; exact h3, RL.off hp' hx k ds xs h4⟩
    | obj C' ns ds => obtain ⟨dx, fs, h3, h4, h5⟩ := h2; exact ⟨dx, fs, by rw [upd_ne ne]; exact h3, h4, RL.off hp' hx k ds _ h5⟩
    | dct ks ds => obtain ⟨kvs, h3, h4, h5⟩ := h2; exact ⟨kvs, by rw [upd_ne ne]; exact h3, h4, RL.off hp' hx k ds _ h5⟩
    | dcT ks ds => obtain ⟨kvs, h3, h4, h5⟩ := h2; exact ⟨kvs, by rw [upd_ne ne]; exact h3, h4, RL.off hp' hx k ds _ h5⟩
  · have ne : b ≠ p := fun z => hn.2 (z ▸ hb)
    rw [upd_ne ne]; exact C.hs b hb
theorem Le.over {H0 H : Hp} {m : Ad} {p : Addr} {f : Heap → Prop} {o : HO} (l : Le m H0 m H) (h0 : H0 p = none) (hn : p ∉ m.hd) (hp : H p = some (.ext f)) (hx : NoX p (.ext f)) : Le m H0 m (upd H p o) := by
  refine ⟨fun _ _ e => e, fun b u e => ?_, rfl, fun b hb => ?_, fun _ h => .inl h, fun a h => l.al a (upd_none h)⟩
  · obtain ⟨h1, h2⟩ := hid_some e
    have ne : b ≠ p := fun z => by rw [z, h0] at h2; cases h2
    have := l.ex b u e
    rw [hid_of h1] at this ⊢
    rw [upd_ne ne]; exact this
  · have ne : b ≠ p := fun z => hn (z ▸ hb)
    rcases l.hk b hb with z | ⟨⟨ps, ps', y1, y2⟩, y3⟩
    · exact .inl (by rw [upd_ne ne]; exact z)
    · exact .inr ⟨⟨ps, ps', y1, by rw [upd_ne ne]; exact y2⟩, fun q t => (y3 q t).off hp hx ne⟩
theorem mem1_mem {k x : Str} {l : List Str} : x ∈ mem1 k l ↔ x = k ∨ x ∈ l := by
  unfold mem1
  split
  · rename_i h
    exact ⟨.inr, fun z => z.elim (fun e => e ▸ h) id⟩
  · exact List.mem_cons
theorem mem1_len {k : Str} {l : List Str} : (mem1 k l).length ≤ l.length + 1 := by
  unfold mem1
  split
  · omega
  · exact Nat.le_refl _
section
variable {X : Cx} {iter elt : Expr} {te : TD} {pos pp tp sp : Pos} {ti : TDs} {scope : Scope} {x : Str} {i : Nat}
theorem pd_sortSet (hm : X.mg "sorted" = none) (hc : X.calm = true) (hN : X.N.Nodup) (hi : PID X (.Name x tp) iter ti) (ok : blkC X.N X.env.scope scope [(x, i)] = true)
    (hg : ∀ (s : Shared) (H : Hp) (C : Addr) (cl : List (Str × Addr)) (fp : List Addr), PG (X.blk s H scope (compEnvC scope cl C X.env) fp) (.Name x tp) (gName i))
    (he : ∀ (s : Shared) (H : Hp) (C : Addr) (cl : List (Str × Addr)) (fp : List Addr), PD (X.blk s H scope (compEnvC scope cl C X.env) fp) elt te) (hgl : Gl X "sorted" := by rfl) (hs : ∀ x, foldedSetIterable iter X.env x = pure x := by intro _; rfl)
    (he1 : starEach [.SetComp elt [⟨.Name x tp, iter, [], 0⟩] scope sp] X.env = (false, eval (.SetComp elt [⟨.Name x tp, iter, [], 0⟩] scope sp) X.env) :: starEach [] X.env := by rfl) (hpl : (backTo pos (starEach [] X.env)).any (·.1) = false := by rfl) :
    PD X (.Call (.Name "sorted" pp) [.SetComp elt [⟨.Name x tp, iter, [], 0⟩] scope sp] [] pos) (dSortSet ti i te) := by
  refine PE.imp (pe_callB (call_sortTx hc) hgl hm boot_sorted (pa_cons (tx_walk (te := lift X.K te) (own := [(x, i)]) hc hN hi (blkOk_by ok) hg (fun s H C cl fp => he s H C cl fp) hs) pa_nil he1) (by decide) (by decide) he1 hpl) fun σ H Q ⟨m, ρ, c, Φ, S, h, q⟩ => ?_
  refine ⟨m, ρ, c, _, S, h, fun ds c1 J Ha m1 ⟨ys, ln, few, hte, hz⟩ C1 wk L1 p hp => ?_⟩
  have pn := hid_new hp C1
  have S1 := S.step L1 C1
  have hl : m1.ix.length = c1.length := C1.len
  refine ⟨fun j mm Hj => mm = ds.length - j ∧ j ≤ ds.length ∧ CR X.K Hj m1 c1 ∧ Le m1 Ha m1 Hj ∧ ∃ l, Hj p = some (TxO X.prog X.w p l) ∧ (∀ z, z ∈ l ↔ z ∈ ys.take j) ∧ l.length ≤ j,
    ⟨ds.length, rfl, Nat.zero_le _, C1.new hp, Le.new hp C1, [], upd_same, by simp, Nat.le_refl _⟩, ?_⟩
  rintro j mm Hj ⟨rfl, hj, Cj, Lj, l, hpj, hmem, hlen⟩
  by_cases lt : j < ds.length
  · refine .inr ⟨wk.go j m1 Hj c1 Lj Cj lt, fun H' => CR X.K H' m1 c1 ∧ Le m1 Ha m1 H' ∧ ∃ l, H' p = some (TxO X.prog X.w p l) ∧ (∀ z, z ∈ l ↔ z ∈ ys.take (j + 1)) ∧ l.length ≤ j + 1, fun H' ⟨a, b, e⟩ => ⟨ds.length - (j + 1), by omega, rfl, lt, a, b, e⟩, fun v H2 y => ?_⟩
    obtain ⟨d, hd, C2, L2, rv⟩ := wk.yld j m1 Hj c1 v H2 Lj Cj lt y
    have hp2 : H2 p = some (TxO X.prog X.w p l) := (hid_some (L2.ex p _ (by rw [hid_of pn]; exact hpj))).2
    have hy : ys[j]? = some ys[j] := List.getElem?_eq_getElem (by omega)
    generalize ys[j] = k at hy
    have Lz := Lj.trans L2
    refine ⟨by rw [show ([(x, i)] : List (Str × Nat)).map (·.2) = [i] from rfl, wipe1, wipe1, List.set_set, List.set_set], m1, _, c1, fun d' c' => d' = .str k ∧ c' = c1, (S1.step Lz C2).blk rv, hte j d k hd hy _ ⟨rfl, rfl⟩, fun d' c' u H3 m3 ⟨ed, ec⟩ C3 R3 L3 => ?_⟩
    subst ed ec
    cases (show u = V.str k from R3)
    have em := CR.same hl.symm C3 L3
    subst em
    have hp3 : H3 p = some (TxO X.prog X.w p l) := (hid_some (L3.ex p _ (by rw [hid_of pn]; exact hp2))).2
    refine ⟨k, l, rfl, hp3, Nat.lt_trans (show l.length + 1 < 65 by omega) (by decide), C3.off hp3 txO_nox pn, (Lz.trans L3).over hp pn.2 hp3 txO_nox, mem1 k l, upd_same, fun z => ?_, ?_⟩
    · rw [mem1_mem, hmem z, List.take_add_one, hy, List.mem_append]
      simp only [Option.toList_some, List.mem_singleton]
      exact Or.comm
    · exact Nat.le_trans mem1_len (by omega)
  · have ej : j = ds.length := by omega
    subst ej
    refine .inl ⟨wk.stop _ m1 Hj c1 Lj Cj (Nat.le_refl _), p, l, rfl, hpj, by omega, fun zs a nd mz so ha => ?_⟩
    rw [List.take_of_length_le (by omega)] at hmem
    exact q _ c1 _ _ m1 (hz zs nd so fun z => (mz z).trans (hmem z)) (Cj.new ha) (RR.newL Cj ha (rl_txts zs)) ((L1.trans Lj).trans (Le.new ha Cj))
end
end Cw

namespace Cw
open PySem PySem.Spec PyProof.Rows L2 PySem.Froz

/-! ### set(x) -/
abbrev newS (w : World) : Obj := { cls := .type "set", dict := none, data := .set #[] 0 (.fresh 0 0 (!w.params.followText "set-order")) }
/-- what stands is not touched by what moves elsewhere -/
structure Kept (h0 : Heap) (a : Addr) (G : Nat → Heap → Prop) : Prop where
  run : ∀ i h h', G i h → (∀ o, h.get? a = some o → h'.get? a = some o) → (∀ b o, h0.get? b = some o → h'.get? b = some o) → G i h'
/-- the item's adding leads on -/
structure Adds (P : Program) (w : World) (h0 : Heap) (a : Addr) (items : Array Value) (G : Nat → Heap → Prop) : Prop where
  run : ∀ i v (A : Around) (E : Value → Shared → Prop) (s : Shared) (Q : Bool → Shared → Prop), items[i]? = some v → A.units < cLine → G i s.heap → (∀ b o, h0.get? b = some o → s.heap.get? b = some o) →
    (∀ b h' tk, Heap.SameBut a s.heap h' → s.toks ≤ tk → G (i + 1) h' → Q b { s with heap := h', toks := tk }) → wpAny (model P w) A (setAdd a v) Q E s
/-- the ends of it -/
structure SetEnds (w : World) (s : Shared) (n : Nat) (G : Nat → Heap → Prop) (Q : Value → Shared → Prop) : Prop where
  g0 : ∀ h', h'.get? s.heap.objs.size = some (newS w) → G 0 h'
  q : ∀ h' tk, G n h' → (∀ b o, s.heap.get? b = some o → h'.get? b = some o) → Q (.ref s.heap.objs.size) { s with heap := h', toks := tk }
section
variable {P : Program} {w : World} {A : Around} {E : Value → Shared → Prop} {s : Shared}
theorem none_at {h : Heap} {b : Addr} (hb : h.objs.size ≤ b) : h.get? b = none := by
  cases e : h.get? b with
  | none => rfl
  | some o => exact absurd (Heap.lt_size e) (Nat.not_lt.mpr hb)
theorem loopG {I : Addr} {fp wr : List Addr} {Gn : Array GenState → Array GenState → Prop} {n : Nat} {St : Nat → Shared → Prop} {R : Result → Shared → Prop} {items : Array Value}
    (W : WalksS P w A.in1 I fp wr Gn n (fun i v => items[i]? = some v) St) (a : Addr) (ha : a ∉ fp) (h0 : Heap) (G : Nat → Heap → Prop) (gk : Kept h0 a G) (ga : Adds P w h0 a items G) (hn : n = items.size) (hu : A.in1.units < cLine)
    (hz : h0.get? a = none) (hw : ∀ b ∈ wr, ¬ b < h0.objs.size) : ∀ (k i : Nat) (s : Shared), n - i = k → i ≤ n → St i s → G i s.heap → (∀ b o, h0.get? b = some o → s.heap.get? b = some o) →
      (∀ s', Moved (a :: wr) Gn s s' → G n s'.heap → (∀ b o, h0.get? b = some o → s'.heap.get? b = some o) → R (.ok (.ret .none)) s') → codeAny (model P w) A (.builtin "set.update.loop" ⟨[.ref a, .ref I], []⟩) R s := by
  have aw : a ∉ wr := fun z => ha (W.sub _ z)
  have more : ∀ b ∈ wr, b ∈ a :: wr := fun b z => List.mem_cons_of_mem _ z
  have still : ∀ {s s' : Shared}, Moved wr Gn s s' → (∀ b o, h0.get? b = some o → s.heap.get? b = some o) → ∀ b o, h0.get? b = some o → s'.heap.get? b = some o := fun mv kp b o e => mv.heap b o (fun z => hw b z (Heap.lt_size e)) (kp b o e)
  intro k
  induction k with
  | zero =>
    intro i s ek hi st g kp q
    obtain rfl : i = n := by omega
    refine codeAny_builtin F.entry_set_update_loop ?_
    rw [Around.under_plainId F.plain_set_update_loop _]
    show wpAny _ A.in1 (pyNext (.ref I) >>= _) _ _ s
    refine wpAny_bind (W.done s _ _ st fun s' mv => ?_)
    show wpAny _ A.in1 (ret Value.none) _ _ s'
    exact wpAny_pure (q s' (mv.mono more) (gk.run _ _ _ g (fun o e => mv.heap a o aw e) (still mv kp)) (still mv kp))
  | succ k ih =>
    intro i s ek hi st g kp q
    have lt : i < n := by omega
    refine codeAny_builtin F.entry_set_update_loop ?_
    rw [Around.under_plainId F.plain_set_update_loop _]
    show wpAny _ A.in1 (pyNext (.ref I) >>= _) _ _ s
    refine wpAny_bind (W.item i s _ _ lt st fun v s1 hv st1 mv => ?_)
    have kp1 := still mv kp
    show wpAny _ A.in1 (holding [v] (setAdd a v) >>= _) _ _ s1
    refine wpAny_bind (wpAny_holding (ga.run i v A.in1 _ s1 _ hv hu (gk.run _ _ _ g (fun o e => mv.heap a o aw e) kp1) kp1 fun b h' tk same le g' => ?_))
    have kp2 : ∀ b o, h0.get? b = some o → h'.get? b = some o := fun b o e => by
      by_cases z : b = a
      · subst z
        rw [hz] at e; cases e
      · rw [same.2 b z]; exact kp1 b o e
    refine wpAny_pure ⟨plainId_quiet F.plain_set_update_loop _, ih (i + 1) _ (by omega) lt (W.frame _ s1 _ _ st1 le fun b hb o e => ?_) g' kp2 fun s2 mv2 g2 kp3 => ?_⟩
    · rw [same.2 b (fun z => ha (z ▸ hb))]; exact e
    · exact q s2 (Moved.trans W.gtrans ((mv.mono more).then_heap le fun b o hb e => by rw [same.2 b (fun z => hb (z ▸ List.mem_cons_self))]; exact e) mv2) g2 kp3

/-- set(x), x a list: G says what stands behind the first i items -/
theorem set_list {l : Addr} {items : Array Value} (G : Nat → Heap → Prop) {Q : Value → Shared → Prop} (hh : A.handled = none) (hx : s.heap.IsList l items) (hu : A.in1.in1.in1.units < cLine)
    (gk : Kept s.heap s.heap.objs.size G) (ga : Adds P w s.heap s.heap.objs.size items G) (en : SetEnds w s items.size G Q) : wpAny (model P w) A (call (.type "set") [.ref l]) Q E s := by
  have ⟨_, _, mro⟩ := F.called_set.mro
  have mk := F.called_set.made
  have sb := F.called_set.sub
  have nt := F.called_set.notType
  have cc := F.called_set.canCreate
  have tc := F.typeCall_set_1 (.ref l)
  have lk := F.called_set.init.lookup
  have bd := F.called_set.init.bind (.ref s.heap.objs.size)
  refine wpAny_call (codeAny_of_tree (show wpAny _ _ (callAny (.type "set") _) _ _ _ from wpAny_pure ⟨Code.quiet_builtin _ (by decide +kernel), codeAny_builtin F.entry_type_call ?_⟩))
  rw [Around.under_plain (weight_type_call_type "set" [.ref l] []) rfl]
  repeat any_goals first | assumption | wp_step

  refine codeAny_mono (code_set_led1 (.ref l) (E := E) (Q₁ := fun u sz => u = .ref s.heap.objs.size ∧ sz = { s with heap := s.heap.push (newS w) }) ⟨rfl, rfl⟩) fun r sz hr => ?_
  rcases r with er | fl
  · exact hr
  cases fl with
  | next => exact False.elim hr
  | brk => exact False.elim hr
  | cont => exact False.elim hr
  | ret u =>
  obtain ⟨eu, es⟩ := hr
  subst eu es
  have at0 : (s.heap.push (newS w)).get? s.heap.objs.size = some (newS w) := Heap.get?_push_size _ rfl
  have ty0 : Shared.TypeIs { s with heap := s.heap.push (newS w) } (.ref s.heap.objs.size) "set" := ⟨_, at0, rfl⟩
  repeat any_goals first | assumption | wp_step

  refine codeAny_mono (codeAny_call_builtin (R := wants (fun u sz => u = .none ∧ ∃ h' tk, sz = { s with heap := h', toks := tk } ∧ G items.size h' ∧ ∀ b o, s.heap.get? b = some o → h'.get? b = some o) E) F.called_set.init.plain F.entry_set_init (check_set_init_1 ty0 ?_)) fun r2 sz2 hr2 => ?_
  · obtain ⟨⟨_, dl, _, sl⟩, hol, cl, nl, da⟩ := hx
    dsimp only at cl da
    subst cl da
    have ltl : l < s.heap.objs.size := Heap.lt_size hol
    have hol1 := Heap.get?_push_of_some (newS w) hol
    have sub1 := F.sub_list_set
    have sub2 := F.sub_list_frozenset
    have nod : (Value.type "list" == Value.type "dict") = false := by decide
    have hx1 : (s.heap.push (newS w)).IsList l items := ⟨_, hol1, rfl, nl, rfl⟩
    unfold Builtin.«set.__init__» noKeywords Builtin.Frozenset.updateFrom
    generalize hit : pyIter = it
    wp_walk
    subst hit

    refine wpAny_pyIter_list hx1 (wpAny_bind (wpAny_runValue ?_))
    have sz1 : (s.heap.push (newS w)).objs.size = s.heap.objs.size + 1 := Heap.size_push ..
    have ni : l ≠ (s.heap.push (newS w)).objs.size := by rw [sz1]; exact Nat.ne_of_lt (Nat.lt_succ_of_lt ltl)
    have hh3 : A.in1.in1.in1.handled = none := by simp [hh]
    have old : ∀ b o, s.heap.get? b = some o → b < s.heap.objs.size := fun _ _ => Heap.lt_size
    refine loopG ((Walks.list hh3 _ l ni items).toS) s.heap.objs.size (by rw [sz1]; simp only [List.mem_cons, List.not_mem_nil, or_false, not_or]; exact ⟨Nat.ne_of_lt (Nat.lt_succ_self _), Nat.ne_of_gt ltl⟩) s.heap G gk ga rfl hu (none_at (Nat.le_refl _)) (fun b hb z => ?_) items.size 0 _ rfl (Nat.zero_le _) ⟨⟨_, Heap.get?_push_size _ rfl, rfl, rfl⟩, hx1.push _⟩ (en.g0 _ (Heap.get?_push_of_some _ at0)) (fun b o e => Heap.get?_push_of_some _ (Heap.get?_push_of_some _ e)) fun s' mv g' kp => ?_
    · rw [List.mem_singleton.mp hb, sz1] at z; exact absurd z (Nat.not_lt.mpr (Nat.le_succ _))
    · obtain ⟨h', gn, dr, tk, os⟩ := s'
      cases mv.gens
      cases mv.drawn
      cases mv.os
      show wpAny _ _ (pure _) _ _ _
      refine wpAny_pure ?_
      show wpAny _ _ (ret Value.none) _ _ _
      exact wpAny_pure ⟨rfl, h', tk, rfl, g', kp⟩
  · rcases r2 with er | fl
    · exact hr2
    cases fl with
    | next => exact False.elim hr2
    | brk => exact False.elim hr2
    | cont => exact False.elim hr2
    | ret u =>
      obtain ⟨eu, h', tk, es, g', kp⟩ := hr2
      subst eu es
      repeat any_goals first | assumption | wp_step
      exact en.q _ _ g' kp

/-- set(x), x a tuple: G says what stands behind the first i items -/
theorem set_tuple {l : Addr} {items : Array Value} (G : Nat → Heap → Prop) {Q : Value → Shared → Prop} (hh : A.handled = none) (hx : s.heap.IsTuple l items) (hu : A.in1.in1.in1.units < cLine)
    (gk : Kept s.heap s.heap.objs.size G) (ga : Adds P w s.heap s.heap.objs.size items G) (en : SetEnds w s items.size G Q) : wpAny (model P w) A (call (.type "set") [.ref l]) Q E s := by
  have ⟨_, _, mro⟩ := F.called_set.mro
  have mk := F.called_set.made
  have sb := F.called_set.sub
  have nt := F.called_set.notType
  have cc := F.called_set.canCreate
  have tc := F.typeCall_set_1 (.ref l)
  have lk := F.called_set.init.lookup
  have bd := F.called_set.init.bind (.ref s.heap.objs.size)
  refine wpAny_call (codeAny_of_tree (show wpAny _ _ (callAny (.type "set") _) _ _ _ from wpAny_pure ⟨Code.quiet_builtin _ (by decide +kernel), codeAny_builtin F.entry_type_call ?_⟩))
  rw [Around.under_plain (weight_type_call_type "set" [.ref l] []) rfl]
  repeat any_goals first | assumption | wp_step

  refine codeAny_mono (code_set_led1 (.ref l) (E := E) (Q₁ := fun u sz => u = .ref s.heap.objs.size ∧ sz = { s with heap := s.heap.push (newS w) }) ⟨rfl, rfl⟩) fun r sz hr => ?_
  rcases r with er | fl
  · exact hr
  cases fl with
  | next => exact False.elim hr
  | brk => exact False.elim hr
  | cont => exact False.elim hr
  | ret u =>
  obtain ⟨eu, es⟩ := hr
  subst eu es
  have at0 : (s.heap.push (newS w)).get? s.heap.objs.size = some (newS w) := Heap.get?_push_size _ rfl
  have ty0 : Shared.TypeIs { s with heap := s.heap.push (newS w) } (.ref s.heap.objs.size) "set" := ⟨_, at0, rfl⟩
  repeat any_goals first | assumption | wp_step

  refine codeAny_mono (codeAny_call_builtin (R := wants (fun u sz => u = .none ∧ ∃ h' tk, sz = { s with heap := h', toks := tk } ∧ G items.size h' ∧ ∀ b o, s.heap.get? b = some o → h'.get? b = some o) E) F.called_set.init.plain F.entry_set_init (check_set_init_1 ty0 ?_)) fun r2 sz2 hr2 => ?_
  · obtain ⟨⟨_, dl, _, sl⟩, hol, cl, nl, da⟩ := hx
    dsimp only at cl da
    subst cl da
    have ltl : l < s.heap.objs.size := Heap.lt_size hol
    have hol1 := Heap.get?_push_of_some (newS w) hol
    have sub1 := F.sub_tuple_set
    have sub2 := F.sub_tuple_frozenset
    have nod : (Value.type "tuple" == Value.type "dict") = false := by decide
    have hx1 : (s.heap.push (newS w)).IsTuple l items := ⟨_, hol1, rfl, nl, rfl⟩
    unfold Builtin.«set.__init__» noKeywords Builtin.Frozenset.updateFrom
    generalize hit : pyIter = it
    wp_walk
    subst hit

    refine wpAny_pyIter_tuple hx1 (wpAny_bind (wpAny_runValue ?_))
    have sz1 : (s.heap.push (newS w)).objs.size = s.heap.objs.size + 1 := Heap.size_push ..
    have ni : l ≠ (s.heap.push (newS w)).objs.size := by rw [sz1]; exact Nat.ne_of_lt (Nat.lt_succ_of_lt ltl)
    have hh3 : A.in1.in1.in1.handled = none := by simp [hh]
    have old : ∀ b o, s.heap.get? b = some o → b < s.heap.objs.size := fun _ _ => Heap.lt_size
    refine loopG ((Walks.tuple hh3 _ l ni items).toS) s.heap.objs.size (by rw [sz1]; simp only [List.mem_cons, List.not_mem_nil, or_false, not_or]; exact ⟨Nat.ne_of_lt (Nat.lt_succ_self _), Nat.ne_of_gt ltl⟩) s.heap G gk ga rfl hu (none_at (Nat.le_refl _)) (fun b hb z => ?_) items.size 0 _ rfl (Nat.zero_le _) ⟨⟨_, Heap.get?_push_size _ rfl, rfl, rfl⟩, hx1.push _⟩ (en.g0 _ (Heap.get?_push_of_some _ at0)) (fun b o e => Heap.get?_push_of_some _ (Heap.get?_push_of_some _ e)) fun s' mv g' kp => ?_
    · rw [List.mem_singleton.mp hb, sz1] at z; exact absurd z (Nat.not_lt.mpr (Nat.le_succ _))
    · obtain ⟨h', gn, dr, tk, os⟩ := s'
      cases mv.gens
      cases mv.drawn
      cases mv.os
      show wpAny _ _ (pure _) _ _ _
      refine wpAny_pure ?_
      show wpAny _ _ (ret Value.none) _ _ _
      exact wpAny_pure ⟨rfl, h', tk, rfl, g', kp⟩
  · rcases r2 with er | fl
    · exact hr2
    cases fl with
    | next => exact False.elim hr2
    | brk => exact False.elim hr2
    | cont => exact False.elim hr2
    | ret u =>
      obtain ⟨eu, h', tk, es, g', kp⟩ := hr2
      subst eu es
      repeat any_goals first | assumption | wp_step
      exact en.q _ _ g' kp

end
end Cw

namespace Cw
open PySem PySem.Spec PyProof.Rows L2 PySem.Froz

/-! ### a set of tuples of ints and texts, no two alike -/
abbrev kh (P : Program) (w : World) (k : List Key) : Int := tupleKeyHash (mixKind P w) k
abbrev Ky (P : Program) (w : World) (h : Heap) (k : List Key) (b : Addr) : Prop := IsTupleKey (mixKind P w) h k b
section
variable {P : Program} {w : World} {A : Around} {E : Value → Shared → Prop} {s : Shared}
theorem cls_flat (n : Nat) {v : Value} (h : carriedByValue v = true) : ofAClassStatement n v = pure false := by
  cases v <;> first | (cases h; done) | (cases n <;> rfl)
theorem hash_flat (n : Nat) {v : Value} {k : Key} (h : keyIs k v = true) : ∃ b, hashByValue n v = pure b := by
  rcases keyIs_shape h with ⟨_, _, _, ev⟩ | ⟨_, _, _, ev⟩ <;> subst ev <;> exact ⟨_, by cases n <;> rfl⟩
theorem items_keys {k : List Key} {vs : List Value} (h : ItemsAre (mixKind P w) k vs) : ∀ v ∈ vs, ∃ x : Key, keyIs x v = true := by
  induction h with
  | nil => intro v hv; cases hv
  | @cons x u _ _ hx _ ih =>
    intro v hv
    rcases List.mem_cons.mp hv with rfl | z
    · exact ⟨x, hx⟩
    · exact ih v z
theorem Ky.noCls {k : List Key} {b : Addr} {Q : Bool → Shared → Prop} (hk : Ky P w s.heap k b) (q : Q false s) : wpAny (model P w) A (ofAClassStatement 8 (.ref b)) Q E s := by
  have ty := hk.typeIs
  obtain ⟨o, xs, n, ho, _, hd, hi⟩ := hk
  have flat := hi.byValue
  unfold ofAClassStatement
  refine wpAny_bind (wpAny_typeOf ty ?_)
  dsimp only
  simp only [show (("tuple" : String) == "tuple") = true from rfl, if_true, Bool.not_true, Bool.false_eq_true, if_false]
  try refine wpAny_bind (wpAny_pure ?_)
  try simp only [Bool.not_true, Bool.false_eq_true, if_false]
  show wpAny _ _ (seqItems? (.ref b) >>= _) _ _ s
  refine wpAny_bind (wpAny_seqItems ho hd (wpAny_bind ?_))
  show wpAny _ _ (forIn xs _ _) _ _ s
  rw [← Array.forIn_toList]
  refine wpAny_forIn_list _ (fun more b sz => b.1 = none ∧ sz = s ∧ ∀ v ∈ more, carriedByValue v = true) _ (fun v more b sz ⟨e1, e2, e3⟩ => ?_) (fun b sz ⟨e1, e2, _⟩ => ?_) _ _ ⟨rfl, rfl, flat⟩
  · subst e2
    rw [cls_flat _ (e3 v List.mem_cons_self)]
    refine wpAny_bind (wpAny_pure ?_)
    simp only [Bool.false_eq_true, if_false]
    exact wpAny_pure ⟨rfl, rfl, fun u hu => e3 u (List.mem_cons_of_mem _ hu)⟩
  · obtain ⟨b1, b2⟩ := b
    cases (show b1 = none from e1)
    subst e2
    exact wpAny_pure q
theorem Ky.hashBy {k : List Key} {b : Addr} {Q : Bool → Shared → Prop} (hk : Ky P w s.heap k b) (q : ∀ y, Q y s) : wpAny (model P w) A (hashByValue 8 (.ref b)) Q E s := by
  have ty := hk.typeIs
  obtain ⟨o, xs, n, ho, _, hd, hi⟩ := hk
  have flat := items_keys hi
  unfold hashByValue
  refine wpAny_bind (wpAny_specialOf ty F.slot_tuple_hash.lookup ?_)
  show wpAny _ _ (seqItems? (.ref b) >>= _) _ _ s
  refine wpAny_bind (wpAny_seqItems ho hd (wpAny_bind ?_))
  show wpAny _ _ (forIn xs _ _) _ _ s
  rw [← Array.forIn_toList]
  refine wpAny_forIn_list _ (fun more b sz => b.1 = none ∧ sz = s ∧ ∀ v ∈ more, ∃ x : Key, keyIs x v = true) _ (fun v more b sz ⟨e1, e2, e3⟩ => ?_) (fun b sz ⟨e1, e2, _⟩ => ?_) _ _ ⟨rfl, rfl, flat⟩
  · subst e2
    obtain ⟨x, hx⟩ := e3 v List.mem_cons_self
    obtain ⟨y, ey⟩ := hash_flat 7 hx
    rw [ey]
    refine wpAny_bind (wpAny_pure ?_)
    cases y with
    | true =>
      simp only [Bool.not_true, Bool.false_eq_true, if_false]
      exact wpAny_pure ⟨rfl, rfl, fun u hu => e3 u (List.mem_cons_of_mem _ hu)⟩
    | false =>
      simp only [Bool.not_false, if_true]
      exact wpAny_pure (wpAny_pure (q false))
  · obtain ⟨b1, b2⟩ := b
    cases (show b1 = none from e1)
    subst e2
    exact wpAny_pure (q true)
theorem Ky.unseen {k : List Key} {b : Addr} {Q : Bool → Shared → Prop} (hk : Ky P w s.heap k b) {ys : List Value} (hy : ∀ y ∈ ys, ∃ l c, y = Value.ref c ∧ Ky P w s.heap l c) (q : Q false s) :
    wpAny (model P w) A (searchCouldBeSeen (.ref b) ys) Q E s := by
  unfold searchCouldBeSeen
  refine wpAny_bind (wpAny_forIn_list _ (fun more b sz => b.1 = none ∧ sz = s ∧ ∀ y ∈ more, ∃ l c, y = Value.ref c ∧ Ky P w s.heap l c) _ (fun v more r sz ⟨e1, e2, e3⟩ => ?_) (fun b sz ⟨e1, e2, _⟩ => ?_) _ _ ⟨rfl, rfl, hy⟩)
  · subst e2
    obtain ⟨l, c, ev, hc⟩ := e3 v List.mem_cons_self
    subst ev
    have e4 := fun u hu => e3 u (List.mem_cons_of_mem _ hu)
    dsimp only
    by_cases same : (b == c || (carriedByValue (.ref b) && carriedByValue (.ref c))) = true
    · exact wp_if_pos same (wpAny_pure ⟨rfl, rfl, e4⟩)
    · refine wp_if_neg same (wpAny_bind (wpAny_eqIsQuiet_tuple hk ?_))
      simp only [Bool.not_true, Bool.false_eq_true, if_false]
      refine wpAny_bind (wpAny_eqIsQuiet_tuple hc ?_)
      simp only [Bool.not_true, Bool.false_eq_true, if_false]
      refine wpAny_bind (hk.noCls ?_)
      simp only [Bool.false_eq_true, if_false]
      refine wpAny_bind (Ky.noCls hc ?_)
      simp only [Bool.false_eq_true, if_false]
      exact wpAny_pure ⟨rfl, rfl, e4⟩
  · obtain ⟨b1, b2⟩ := b
    cases (show b1 = none from e1)
    subst e2
    exact wpAny_pure q
end
/-- the entries of the members L -/
def mrows (P : Program) (w : World) (L : List (Addr × List Key)) : List (Int × Value) := L.map fun m => (kh P w m.2, Value.ref m.1)
def mhs (P : Program) (w : World) (L : List (Addr × List Key)) : List Int := L.map fun m => kh P w m.2
structure MxS (P : Program) (w : World) (h : Heap) (a : Addr) (L : List (Addr × List Key)) (es : Array (Int × Value)) (ep : Nat) (t : SetTable) : Prop where
  ob : ∃ o, h.get? a = some o ∧ o.ExactSet ∧ o.data = .set es ep t
  en : es.toList = mrows P w L
  tab : TabOk t (mhs P w L)
  nd : (L.map (·.2)).Nodup
  ks : ∀ m ∈ L, Ky P w h m.2 m.1
  led : w.params.followText "set-order" = true ∨ t.led = true
  wide : L.length * 5 < t.mask * 3
  few : L.length < 64
section
variable {P : Program} {w : World} {A : Around} {E : Value → Shared → Prop} {s : Shared} {a : Addr} {L : List (Addr × List Key)} {es : Array (Int × Value)} {ep : Nat} {t : SetTable}
theorem mrows_len (h : es.toList = mrows P w L) : es.size = L.length := by
  rw [← Array.length_toList, h]; exact List.length_map ..
theorem mhs_len : (mhs P w L).length = L.length := List.length_map ..
theorem MxS.fits (R : MxS P w s.heap a L es ep t) : t.fits es.size = true := by
  have h1 := R.tab.sz
  rw [mhs_len] at h1
  have h2 := mrows_len R.en
  have h3 := R.wide
  simp only [SetTable.fits, SetTable.fill, R.tab.dm, Bool.and_eq_true, beq_iff_eq, decide_eq_true_eq]
  show t.place.size = es.size ∧ t.place.size + 0 ≤ t.mask
  omega
theorem MxS.at (R : MxS P w s.heap a L es ep t) {i : Nat} {m : Addr × List Key} (h : L[i]? = some m) : es[i]? = some (kh P w m.2, Value.ref m.1) := by
  have z : es.toList[i]? = some (kh P w m.2, Value.ref m.1) := by rw [R.en, mrows, List.getElem?_map, h]; rfl
  rw [← Array.getElem?_toList]; exact z
/-- the c-th stop on the way of the hash h -/
abbrev stop (m : Nat) (h : Int) (c : Nat) : SetTable.Probe := nth m (runAt m (SetTable.bits h % (m + 1)) (SetTable.bits h)) c
theorem stop_on (m : Nat) (h : Int) (c q : Nat) : nth m (stop m h c) q = stop m h (c + q) := (nth_add m c _ q).symm
theorem nth_plain (m : Nat) : ∀ (n : Nat) (p : SetTable.Probe), p.dummy = none → (nth m p n).dummy = none
  | 0, _, h => h
  | n + 1, p, h => nth_plain m n (adv m p) (by unfold adv; split <;> exact h)
/-- a new member is found nowhere -/
theorem MxS.search (R : MxS P w s.heap a L es ep t) {x : Addr} {k : List Key} (hx : Ky P w s.heap k x) (hu : A.units < cLine) (new : ∀ m ∈ L, m.2 ≠ k) {K : Nat} (lim : K < 10 * SetTable.turns t.mask)
    (gap : way t.mask (kh P w k) K ∉ t.place.toList) (ahead : ∀ c, c < K → way t.mask (kh P w k) c ∈ t.place.toList) {Q : SetFound → Shared → Prop} (q : Q (.free (way t.mask (kh P w k) K) false) s) :
    ∀ (f c : Nat) (from? : Option SetTable.Probe), from?.getD (t.probeStart (kh P w k)) = stop t.mask (kh P w k) c → c ≤ K → K - c < f → wpAny (model P w) A (setSearchFrom a (.ref x) (kh P w k) true f from?) Q E s
  | 0, c, _, _, _, z => absurd z (Nat.not_lt_zero _)
  | f + 1, c, from?, est, hc, hf => by
    obtain ⟨o, ho, hex, hd⟩ := R.ob
    rw [setSearchFrom_succ]
    refine wpAny_bind (wpAny_setState_of ho hd R.fits ?_)
    dsimp only
    refine wp_if_neg (by unfold SetTable.gaveWay; rw [mask_odd R.tab.mok]; decide) ?_
    try refine wpAny_bind (wpAny_pure ?_)
    have jj : ∀ q, (nth t.mask (stop t.mask (kh P w k) c) q).j = way t.mask (kh P w k) (c + q) := fun q => congrArg SetTable.Probe.j (stop_on ..)
    rw [est]
    rcases go_spec t R.tab.ris R.tab.dm (fun i => (es[i]?.map (·.1)).getD 0) (kh P w k) (10 * SetTable.turns t.mask) (K - c) (stop t.mask (kh P w k) c) (nth_plain _ _ _ rfl) (by omega)
      (fun q hq => by rw [jj]; exact ahead _ (by omega)) (by rw [jj, show c + (K - c) = K by omega]; exact gap) with ⟨q', i, hq, hi, _, _, hp⟩ | ⟨_, hp⟩
    · have hp' : t.probe (fun i => (es[i]?.map (·.1)).getD 0) (kh P w k) (stop t.mask (kh P w k) c) = some (.candidate (way t.mask (kh P w k) (c + q')) i (stop t.mask (kh P w k) (c + (q' + 1)))) := by
        rw [← jj, ← stop_on]; exact hp
      rw [hp']
      dsimp only
      rw [jj] at hi
      have il : i < L.length := by
        have h1 := (List.getElem?_eq_some_iff.mp hi).1
        have h2 := R.tab.sz
        rw [mhs_len] at h2
        rw [Array.length_toList] at h1
        omega
      obtain ⟨m, hm⟩ : ∃ m, L[i]? = some m := ⟨_, List.getElem?_eq_getElem il⟩
      have mm := List.mem_of_getElem? hm
      have ne := new m mm
      have rest : wpAny (model P w) A (searchRest a (.ref x) (kh P w k) true f es t (way t.mask (kh P w k) (c + q')) i (stop t.mask (kh P w k) (c + (q' + 1)))) Q E s := by
        unfold searchRest
        rw [R.at hm]
        dsimp only
        refine wpAny_bind (wpAny_holding (wpAny_eqBool_tuple hu (R.ks m mm) hx ?_))
        rw [decide_eq_false ne]
        refine wpAny_bind (wpAny_setState_of ho hd R.fits ?_)
        dsimp only
        refine wp_if_neg (by decide) ?_
        try refine wpAny_bind (wpAny_pure ?_)
        rw [sameMem]
        dsimp only
        simp only [if_true, slot_live R.tab.ris hi, R.at hm]
        refine wpAny_bind (wpAny_isSame_ref_self (wpAny_bind (wpAny_pure ?_)))
        simp only [if_true]
        refine wp_if_neg (by decide) ?_
        exact MxS.search R hx hu new lim gap ahead q f _ _ rfl (by omega) (by omega)
      by_cases hl : t.led = true
      · refine wp_if_neg (by rw [hl]; decide) ?_
        try refine wpAny_bind (wpAny_pure ?_)
        exact rest
      · refine wp_if_pos (by rw [Bool.eq_false_iff.mpr hl]; rfl) (wpAny_bind (hx.unseen (fun y hy => ?_) ?_))
        · obtain ⟨e, he, ey⟩ := List.mem_map.mp hy
          have he2 : e ∈ es.toList := by
            have : e ∈ es ∧ e.1 = kh P w k := by simpa using he
            simpa using this.1
          rw [R.en] at he2
          obtain ⟨m2, hm2, e2⟩ := List.mem_map.mp he2
          exact ⟨m2.2, m2.1, by rw [← ey, ← e2], R.ks m2 hm2⟩
        · refine wp_if_neg (by decide) ?_
          try refine wpAny_bind (wpAny_pure ?_)
          exact rest
    · have hp' : t.probe (fun i => (es[i]?.map (·.1)).getD 0) (kh P w k) (stop t.mask (kh P w k) c) = some (.empty (way t.mask (kh P w k) K) none) := by
        have e2 : way t.mask (kh P w k) K = (nth t.mask (stop t.mask (kh P w k) c) (K - c)).j := by rw [jj, show c + (K - c) = K by omega]
        rw [e2]; exact hp
      rw [hp']
      exact wpAny_pure q
/-! adding -/
theorem tab_unplain {hs : List Int} (T : TabOk t hs) : TabOk { t with plain := false } hs := ⟨T.ris, T.dm, T.sz, T.mok, T.bd, T.reach⟩
theorem Ky.off {h h' : Heap} {k : List Key} {b : Addr} {o : Obj} (hb : Ky P w h k b) (ho : h.get? a = some o) (hd : o.data = .set es ep t) (same : Heap.SameBut a h h') : Ky P w h' k b := by
  obtain ⟨u, xs, n, hu, hc, hx, hi⟩ := hb
  refine ⟨u, xs, n, (same.2 b fun z => ?_).trans hu, hc, hx, hi⟩
  subst z
  rw [ho] at hu
  cases hu
  rw [hd] at hx
  cases hx
theorem range_all : ∀ (L : List (Addr × List Key)), (List.range L.length).filterMap (fun i => L[i]?) = L
  | [] => rfl
  | x :: L => by
    rw [List.length_cons, List.range_succ_eq_map, List.filterMap_cons_some (f := fun i => (x :: L)[i]?) (a := 0) (b := x) rfl, List.filterMap_map]
    have e : ((fun i => (x :: L)[i]?) ∘ Nat.succ) = fun i => L[i]? := by funext i; simp
    rw [e, range_all L]
theorem reorder (en : es.toList = mrows P w L) {order : Array Nat} (pm : order.toList.Perm (List.range L.length)) :
    ∃ L2, (order.filterMap (es[·]?)).toList = mrows P w L2 ∧ L2.Perm L ∧ mhs P w L2 = order.toList.map fun i => (es.map (·.1)).getD i 0 := by
  have ent : ∀ (i : Nat) (m : Addr × List Key), L[i]? = some m → es[i]? = some (kh P w m.2, Value.ref m.1) := fun i m h => by
    have z : es.toList[i]? = some (kh P w m.2, Value.ref m.1) := by rw [en, mrows, List.getElem?_map, h]; rfl
    rw [← Array.getElem?_toList]; exact z
  have go : ∀ l : List Nat, (∀ i ∈ l, i < L.length) → l.filterMap (fun i => es[i]?) = mrows P w (l.filterMap fun i => L[i]?) ∧ mhs P w (l.filterMap fun i => L[i]?) = l.map fun i => (es.map (·.1)).getD i 0 := by
    intro l
    induction l with
    | nil => intro _; exact ⟨rfl, rfl⟩
    | cons i l ih =>
      intro h
      obtain ⟨h1, h2⟩ := ih fun j hj => h j (List.mem_cons_of_mem _ hj)
      obtain ⟨m, hm⟩ : ∃ m, L[i]? = some m := ⟨_, List.getElem?_eq_getElem (h i List.mem_cons_self)⟩
      have e := ent i m hm
      rw [List.filterMap_cons_some e, List.filterMap_cons_some hm, h1, List.map_cons, ← h2]
      refine ⟨rfl, ?_⟩
      have e5 : (es.map (·.1))[i]? = some (kh P w m.2) := by rw [Array.getElem?_map, e]; rfl
      have e6 : (es.map (·.1)).getD i 0 = kh P w m.2 := by simp [Array.getD_eq_getD_getElem?, e5]
      rw [e6]; rfl
  obtain ⟨h1, h2⟩ := go order.toList fun i hi => List.mem_range.mp (pm.mem_iff.mp hi)
  refine ⟨_, by first | (rw [Array.toList_filterMap]; exact h1) | simpa using h1, ?_, h2⟩
  have := pm.filterMap fun i => L[i]?
  rwa [range_all] at this
theorem relayM {o : Obj} (ho : s.heap.get? a = some o) (hex : o.ExactSet) (hd : o.data = .set es ep t) (en : es.toList = mrows P w L) (sz : t.place.size = es.size) (dm : t.dummies = #[]) (fl : es.size ≤ t.mask)
    (nd : (L.map (·.2)).Nodup) (ks : ∀ m ∈ L, Ky P w s.heap m.2 m.1) (led : w.params.followText "set-order" = true ∨ t.led = true) (few : L.length < 64) {wanted M : Nat}
    (hw : SetTable.sizeAbove wanted - 1 = M) (hM : MaskOk M) (hw2 : SetTable.sizeAbove wanted ≤ 128) (wide : L.length * 5 < M * 3) {Q : Unit → Shared → Prop}
    (q : ∀ h' L' es' ep' t', Heap.SameBut a s.heap h' → MxS P w h' a L' es' ep' t' → L'.Perm L → Q () { s with heap := h' }) : wpAny (model P w) A (setRelay a wanted) Q E s := by
  have len := mrows_len en
  have fits : t.fits es.size = true := by
    simp only [SetTable.fits, SetTable.fill, dm, Bool.and_eq_true, beq_iff_eq, decide_eq_true_eq]
    show t.place.size = es.size ∧ t.place.size + 0 ≤ t.mask
    omega
  obtain ⟨t', order, er, pm, T, em, el, _, _⟩ := relaid_ok t (hs := es.map (·.1)) (wanted := wanted) hw hM (by rw [Array.size_map, len]; omega)
  rw [Array.size_map, len] at pm
  obtain ⟨L2, r1, r2, r3⟩ := reorder en pm
  rw [← r3] at T
  have s2 : (order.filterMap (es[·]?)).size = es.size := by rw [mrows_len r1, r2.length_eq, len]
  rw [setRelay_eq]
  refine wpAny_bind (wpAny_setState_of ho hd fits ?_)
  dsimp only
  refine wp_if_neg (by rw [sizeLine_eq]; omega) ?_
  try refine wpAny_bind (wpAny_pure ?_)
  rw [er]
  dsimp only
  refine wpAny_bind (wp_if_neg (by rw [s2]; simp) ?_)
  try refine wpAny_bind (wpAny_pure ?_)
  refine wpAny_pure ?_
  dsimp only
  refine wpAny_storeSet_of ho hd ?_ (by rw [s2, len, sizeLine_eq]; omega)
  have same : Heap.SameBut a s.heap (s.heap.update a (Obj.putSet (order.filterMap (es[·]?)) t')) := Heap.SameBut.update ..
  exact q _ L2 _ (ep + 1) t' same ⟨⟨_, store_at ho hd, ⟨hex.1, hex.2.1, hex.2.2⟩, rfl⟩, r1, T, (r2.map (·.2)).nodup_iff.mpr nd, fun m hm => (ks m (r2.mem_iff.mp hm)).off ho hd same, by rw [el]; exact led, by rw [r2.length_eq, em]; exact wide, by rw [r2.length_eq]; exact few⟩ r2
/-- behind the search -/
theorem addTail {o : Obj} (ho : s.heap.get? a = some o) (hex : o.ExactSet) (hd : o.data = .set es ep t) {L1 : List (Addr × List Key)} {es1 : Array (Int × Value)} {t1 : SetTable} (en : es1.toList = mrows P w L1) (tab : TabOk t1 (mhs P w L1)) (fill : t1.fill = L1.length) (mask : t1.mask = t.mask)
    (nd : (L1.map (·.2)).Nodup) (ks : ∀ m ∈ L1, Ky P w s.heap m.2 m.1) (led : w.params.followText "set-order" = true ∨ t1.led = true) (few : L1.length < 64) (len : L1.length = es.size + 1) (wide : es.size * 5 < t.mask * 3) {Q : Bool → Shared → Prop}
    (q : ∀ h' L' es' ep' t', Heap.SameBut a s.heap h' → MxS P w h' a L' es' ep' t' → L'.Perm L1 → Q true { s with heap := h' }) :
    wpAny (model P w) A (do
      storeSet a es1 t1
      if !false && t1.tooFull then setRelay a (SetTable.grown (es.size + 1))
      return true) Q E s := by
  have n1 := mrows_len en
  refine wpAny_bind (wpAny_storeSet_of ho hd ?_ (by rw [n1, sizeLine_eq]; omega))
  have same : Heap.SameBut a s.heap (s.heap.update a (Obj.putSet es1 t1)) := Heap.SameBut.update ..
  have ho1 := store_at (es' := es1) (t' := t1) ho hd
  generalize s.heap.update a (Obj.putSet es1 t1) = h1 at same ho1 ⊢
  have ks1 : ∀ m ∈ L1, Ky P w h1 m.2 m.1 := fun m hm => (ks m hm).off ho hd same
  by_cases full : t1.tooFull = true
  · have big : L1.length * 5 ≥ t1.mask * 3 := by
      have z := full
      unfold SetTable.tooFull at z
      rw [decide_eq_true_eq, fill] at z
      exact z
    have sz1 : t1.place.size = es1.size := by rw [n1, ← mhs_len (P := P) (w := w)]; exact tab.sz
    have go : ∀ M, SetTable.sizeAbove (SetTable.grown (es.size + 1)) - 1 = M → MaskOk M → SetTable.sizeAbove (SetTable.grown (es.size + 1)) ≤ 128 → L1.length * 5 < M * 3 → es1.size ≤ t1.mask →
        wpAny (model P w) A (setRelay a (SetTable.grown (es.size + 1))) (fun _ sz => wpAny (model P w) A (pure true) Q E sz) E { s with heap := h1 } := fun M g1 g2 g3 g4 g5 =>
      relayM (s := { s with heap := h1 }) ho1 ⟨hex.1, hex.2.1, hex.2.2⟩ rfl en sz1 tab.dm g5 nd ks1 led few g1 g2 g3 g4 fun h2 L2 es2 ep2 t2 same2 R2 pm2 => wpAny_pure (q h2 L2 es2 ep2 t2 (same.trans same2) R2 pm2)
    have two : (t1.mask = 7 ∧ es.size = 4) ∨ (t1.mask = 31 ∧ es.size = 18) := by
      rcases tab.mok with e | e | e
      · exact .inl ⟨e, by omega⟩
      · exact .inr ⟨e, by omega⟩
      · omega
    first
      | (refine wpAny_bind ?_; refine wp_if_pos (by rw [full]; rfl) ?_)
      | (refine wp_if_pos (by rw [full]; rfl) ?_; refine wpAny_bind ?_)
    rcases two with ⟨e1, e2⟩ | ⟨e1, e2⟩
    · exact go 31 (by rw [e2]; exact congrArg (· - 1) size_20) (.inr (.inl rfl)) (by rw [e2]; exact Nat.le_trans (Nat.le_of_eq size_20) (by decide)) (by omega) (by omega)
    · exact go 127 (by rw [e2]; exact congrArg (· - 1) size_76) (.inr (.inr rfl)) (by rw [e2]; exact Nat.le_of_eq size_76) (by omega) (by omega)
  · first
      | refine wp_if_neg (by rw [Bool.eq_false_iff.mpr full]; decide) ?_
      | (refine wpAny_bind ?_; refine wp_if_neg (by rw [Bool.eq_false_iff.mpr full]; decide) ?_; refine wpAny_pure ?_)
    refine wpAny_pure (q h1 L1 es1 (ep + 1) t1 same ⟨⟨_, ho1, ⟨hex.1, hex.2.1, hex.2.2⟩, rfl⟩, en, tab, nd, ks1, led, ?_, few⟩ (.refl _))
    have z : ¬ (L1.length * 5 ≥ t1.mask * 3) := fun y => full (by unfold SetTable.tooFull; rw [decide_eq_true_eq, fill]; exact y)
    omega
theorem MxS.add (R : MxS P w s.heap a L es ep t) {x : Addr} {k : List Key} (hx : Ky P w s.heap k x) (hu : A.units < cLine) (new : ∀ m ∈ L, m.2 ≠ k) (few : L.length + 1 < 64) {Q : Bool → Shared → Prop}
    (q : ∀ b h' L' es' ep' t', Heap.SameBut a s.heap h' → MxS P w h' a L' es' ep' t' → L'.Perm ((x, k) :: L) → Q b { s with heap := h' }) : wpAny (model P w) A (setAddHashed a (.ref x) (kh P w k)) Q E s := by
  obtain ⟨o, ho, hex, hd⟩ := R.ob
  have len := mrows_len R.en
  have wide := R.wide
  unfold setAddHashed
  refine wpAny_holding ?_
  rw [show (100000 : Nat) = 99999 + 1 from rfl, setAddHashedIn_succ]
  refine wpAny_bind (wpAny_setState_of ho hd R.fits ?_)
  dsimp only
  refine wp_if_neg (by simp [byScan, Value.scannable]) ?_
  try refine wpAny_bind (wpAny_pure ?_)
  obtain ⟨K, lim, gap, ahead⟩ := R.tab.first (by rw [mhs_len]; omega) (kh P w k)
  have lim2 : K < 100000 := by
    have : 10 * SetTable.turns t.mask ≤ 1420 := by
      unfold SetTable.turns
      rcases R.tab.mok with e | e | e <;> omega
    omega
  refine wpAny_bind (m := setSearch a (.ref x) (kh P w k) true) ?_
  unfold setSearch
  refine R.search hx hu new lim gap ahead ?_ 100000 0 none rfl (Nat.zero_le _) (by omega)
  dsimp only
  refine wpAny_bind (wpAny_setState_of ho hd R.fits ?_)
  dsimp only
  obtain ⟨p1, p2, p3, p4, p5, p6, p7, p8, p9⟩ := R.tab.put gap ahead
  generalize epp : SetTable.below t.place (way t.mask (kh P w k) K) = i at p1 p2 p3
  have hin : (SetTable.insertAt es i (kh P w k, Value.ref x)).toList = mrows P w (L.take i ++ (x, k) :: L.drop i) := by
    rw [SetTable.toList_insertAt, R.en]
    simp [mrows]
  have hhs : mhs P w (L.take i ++ (x, k) :: L.drop i) = (mhs P w L).take i ++ kh P w k :: (mhs P w L).drop i := by simp [mhs]
  rw [← hhs] at p3
  have pm := put_perm L i (x, k)
  have pl : (L.take i ++ (x, k) :: L.drop i).length = L.length + 1 := pm.length_eq
  have nd1 : ((L.take i ++ (x, k) :: L.drop i).map (·.2)).Nodup := (pm.map (·.2)).nodup_iff.mpr (List.nodup_cons.mpr ⟨fun z => by
    obtain ⟨m, hm, e⟩ := List.mem_map.mp z
    exact new m hm e, R.nd⟩)
  have ks1 : ∀ m ∈ L.take i ++ (x, k) :: L.drop i, Ky P w s.heap m.2 m.1 := fun m hm => by
    rcases List.mem_cons.mp (pm.mem_iff.mp hm) with e | hm
    · rw [e]; exact hx
    · exact R.ks m hm
  generalize L.take i ++ (x, k) :: L.drop i = L1 at hin hhs p3 pm pl nd1 ks1
  rw [mhs_len] at p9
  generalize t.put (way t.mask (kh P w k) K) = pt at p1 p3 p4 p5 p6 p7 p8 p9 ⊢
  obtain ⟨t1, i1⟩ := pt
  dsimp only at p1 p3 p4 p5 p6 p7 p8 p9 ⊢
  subst p1
  have led1 : w.params.followText "set-order" = true ∨ t1.led = true := by rw [p5]; exact R.led
  have tail : ∀ y : Bool, wpAny (model P w) A (do
      storeSet a (SetTable.insertAt es i1 (kh P w k, Value.ref x)) (if y = true then t1 else { t1 with plain := false })
      if !false && (if y = true then t1 else { t1 with plain := false }).tooFull then setRelay a (SetTable.grown (es.size + 1))
      return true) Q E s := fun y => by
    refine addTail ho hex hd hin (by cases y <;> first | exact p3 | exact tab_unplain p3) (by cases y <;> exact p9.trans pl.symm) (by cases y <;> exact p4) nd1 ks1 (by cases y <;> exact led1) (by omega) (by omega) (by omega) fun h' L' es' ep' t' same R' pm' => q true h' L' es' ep' t' same R' (pm'.trans pm)
  by_cases pt1 : t1.plain = true
  · first
      | (refine wpAny_bind ?_; refine wp_if_pos pt1 ?_; exact hx.hashBy tail)
      | exact wp_if_pos pt1 (wpAny_bind (hx.hashBy tail))
  · first
      | (refine wpAny_bind ?_; refine wp_if_neg pt1 ?_; exact wpAny_pure (tail true))
      | exact wp_if_neg pt1 (wpAny_bind (wpAny_pure (tail true)))
      | exact wp_if_neg pt1 (tail true)
end
end Cw

namespace Cw
open PySem PySem.Spec PyProof.Rows L2 PySem.Froz

/-! ### set(t), t a tuple of tuples, no two alike; its len -/
theorem MxS.keep {P : Program} {w : World} {h h' : Heap} {a : Addr} {L : List (Addr × List Key)} {es : Array (Int × Value)} {ep : Nat} {t : SetTable} (R : MxS P w h a L es ep t) (k : ∀ o, h.get? a = some o → h'.get? a = some o) (ks : ∀ m ∈ L, Ky P w h' m.2 m.1) : MxS P w h' a L es ep t := by
  obtain ⟨o, ho, r⟩ := R.ob
  exact ⟨⟨o, k o ho, r⟩, R.en, R.tab, R.nd, ks, R.led, R.wide, R.few⟩
theorem MxS.fresh {P : Program} {w : World} {h : Heap} {a : Addr} (ho : h.get? a = some (newS w)) : MxS P w h a [] #[] 0 (.fresh 0 0 (!w.params.followText "set-order")) where
  ob := ⟨_, ho, ⟨rfl, rfl, rfl⟩, rfl⟩
  en := rfl
  tab := ⟨.nil, rfl, rfl, .inl rfl, fun x z => absurd z (by simp [SetTable.fresh]), fun i _ _ z => absurd z (by simp [mhs])⟩
  nd := .nil
  ks := fun m z => absurd z (by simp)
  led := by
    show _ ∨ (!w.params.followText "set-order") = true
    cases w.params.followText "set-order"
    · exact .inr rfl
    · exact .inl rfl
  wide := by show 0 * 5 < 7 * 3; decide
  few := by show 0 < 64; decide
theorem ky_keep {P : Program} {w : World} {h h' : Heap} {k : List Key} {b : Addr} (x : Ky P w h k b) (kp : ∀ c o, h.get? c = some o → h'.get? c = some o) : Ky P w h' k b := by
  obtain ⟨o, xs, n, ho, r⟩ := x
  exact ⟨o, xs, n, kp b o ho, r⟩
theorem items_mix {P : Program} {w : World} : ∀ {k : List Key} {us : List Value}, Vals (k.map kV) us → ItemsAre (mixKind P w) k us
  | [], _, .nil => .nil
  | .inl i :: k, _, .cons r t => by
    obtain ⟨tk, rfl⟩ := r
    exact .cons (by show keyIs (.inl i) (.int i tk) = true; simp [keyIs, Value.isInt]) (items_mix t)
  | .inr x :: k, _, .cons r t => by
    obtain ⟨tk, rfl⟩ := r
    exact .cons (by show keyIs (.inr x) (.str x tk) = true; simp [keyIs, Value.isStrOf]) (items_mix t)
theorem refs_at {ms : List (Addr × List Key)} : ∀ {us : List Value}, Vals (ms.map fun m => V.ref m.1) us → us = ms.map fun m => Value.ref m.1 := by
  induction ms with
  | nil => intro us r; cases r; rfl
  | cons m ms ih =>
    intro us r
    cases r with
    | cons r t => cases r; rw [ih t]; rfl
/-- a set of so many members -/
def SzO (a : Addr) (n : Nat) : HO := .ext fun h => ∃ (o : Obj) (es : Array (Int × Value)) (ep : Nat) (t : SetTable), h.get? a = some o ∧ o.ExactSet ∧ o.data = .set es ep t ∧ t.fits es.size = true ∧ es.size = n
section
variable {X : Cx}
def rSetMx (K : PySem.W.Frag) : List V → Hp → VK → Prop := fun xs H Q => ∃ (l : Addr) (ms : List (Addr × List Key)), xs = [.ref l] ∧ SqT K H l (ms.map fun m => .ref m.1) ∧ (∀ m ∈ ms, SqT K H m.1 (m.2.map kV)) ∧ (ms.map (·.2)).Nodup ∧ ms.length < 64 ∧
  ∀ a, H a = none → Q (.ref a) (upd H a (SzO a ms.length))
theorem call_setMx (hc : X.calm = true) (hu : X.A.units + 64 < cLine) : CallR X (.type "set") (rSetMx X.K) := by
  intro pins s σ H xs us Q I r ⟨l, ms, ex, hl, hm, nd, few, q⟩
  subst ex
  rw [Vals.ref1 r]
  obtain ⟨its, rv, tp, _⟩ := I.tuple hl
  have ei := refs_at rv
  have hn : H s.heap.objs.size = none := I.hok.fresh (Nat.le_refl _)
  have base : ∀ m ∈ ms, Ky X.prog X.w s.heap m.2 m.1 := fun m hmm => by
    obtain ⟨ys, ry, ⟨o, ho, hcl, n, hd⟩, _⟩ := I.tuple (hm m hmm)
    exact ⟨o, ys.toArray, n, ho, hcl, hd, by simpa using items_mix ry⟩
  have sz : its.toArray.size = ms.length := by rw [ei]; simp
  refine set_tuple (fun i h => ∃ L es ep t, MxS X.prog X.w h s.heap.objs.size L es ep t ∧ (∀ m ∈ L, m ∈ ms.take i) ∧ L.length = i) (I.ok.hd hc) tp (show X.A.units + 3 < cLine by omega) ⟨?_⟩ ⟨?_⟩ ⟨?_, ?_⟩
  · rintro i h h' ⟨L, es, ep, t, R, sub, len⟩ k kp
    exact ⟨L, es, ep, t, R.keep k fun m hmm => ky_keep (base m (List.mem_of_mem_take (sub m hmm))) kp, sub, len⟩
  · rintro i v A E s1 Q1 hv un ⟨L, es, ep, t, R, sub, len⟩ kp q1
    obtain ⟨m, em, ev⟩ : ∃ m, ms[i]? = some m ∧ v = .ref m.1 := by
      have z : its.toArray[i]? = some v := hv
      rw [ei] at z
      simp only [List.getElem?_toArray, List.getElem?_map, Option.map_eq_some_iff] at z
      obtain ⟨m, e1, e2⟩ := z
      exact ⟨m, e1, e2.symm⟩
    subst ev
    have il := (List.getElem?_eq_some_iff.mp em).1
    have hx := ky_keep (base m (List.mem_of_getElem? em)) kp
    have new : ∀ m2 ∈ L, m2.2 ≠ m.2 := fun m2 h2 e => by
      obtain ⟨j, hj, e2⟩ := List.getElem_of_mem (sub m2 h2)
      have jl : j < i := by rw [List.length_take] at hj; omega
      rw [List.getElem_take] at e2
      have e3 : ms[i] = m := (List.getElem?_eq_some_iff.mp em).2
      have z := List.pairwise_iff_getElem.mp nd j i (by simp; omega) (by simp; omega) jl
      simp only [List.getElem_map] at z
      rw [e2, e3] at z
      exact z e
    unfold setAdd
    refine wpAny_holding (wpAny_bind (wpAny_pyHash_tuple un hx ?_))
    refine MxS.add (s := { s1 with toks := s1.toks + (m.2.length + 1) }) R hx un new (by omega) fun b h' L' es' ep' t' same R' pm => q1 b h' _ same (Nat.le_add_right _ _) ⟨L', es', ep', t', R', fun m2 h2 => ?_, by rw [pm.length_eq, List.length_cons, len]⟩
    rw [List.take_add_one, em]
    rcases List.mem_cons.mp (pm.mem_iff.mp h2) with e | z
    · subst e; exact List.mem_append_right _ (by simp)
    · exact List.mem_append_left _ (sub m2 z)
  · intro h' e
    exact ⟨[], #[], 0, _, .fresh e, fun m z => absurd z (by simp), rfl⟩
  · rintro h' tk ⟨L, es, ep, t, R, _, len⟩ kp
    obtain ⟨o, ho, hex, hd⟩ := R.ob
    refine ⟨.ref _, _, I.laid (a := s.heap.objs.size) (o := SzO s.heap.objs.size ms.length) (t' := tk) kp (Nat.le_refl _) ⟨⟨o, es, ep, t, ho, hex, hd, MxS.fits (s := { s with heap := h' }) R, by rw [mrows_len R.en, len, sz]⟩, ⟨o, ho⟩, fun h1 h2 ⟨o, es, ep, t, r1, r⟩ k => ⟨o, es, ep, t, k o r1, r⟩⟩, rfl, q _ hn⟩
def rLenSz : List V → Hp → VK → Prop := fun xs H Q => ∃ (a : Addr) (n : Nat), xs = [.ref a] ∧ H a = some (SzO a n) ∧ n < 64 ∧ Q (.int n) H
theorem call_lenSz : CallR X (.builtin "len") rLenSz := by
  intro pins s σ H xs us Q I r ⟨a, n, ex, ha, few, q⟩
  subst ex
  rw [Vals.ref1 r]
  obtain ⟨o, es, ep, t, ho, hex, hd, hf, en⟩ := (I.hok a _ ha).1
  exact call_len_set ho hex hd hf (by rw [en]; omega) ⟨.int n, H, I.tok _, ⟨_, by rw [en]⟩, q⟩
/-! set(xs), xs a list of texts -/
def rSetTx (K : PySem.W.Frag) (P : Program) (w : World) : List V → Hp → VK → Prop := fun xs H Q => ∃ (l : Addr) (ys : List Str), xs = [.ref l] ∧ SqL K H l (ys.map V.str) ∧ ys.length < 64 ∧
  ∀ a m, (∀ z, z ∈ m ↔ z ∈ ys) → m.length ≤ ys.length → H a = none → Q (.ref a) (upd H a (TxO P w a m))
theorem call_setTx (hc : X.calm = true) (hu : X.A.units + 64 < cLine) : CallR X (.type "set") (rSetTx X.K X.prog X.w) := by
  intro pins s σ H xs us Q I r ⟨l, ys, ex, hl, few, q⟩
  subst ex
  rw [Vals.ref1 r]
  obtain ⟨its, rv, pl, _⟩ := I.list hl
  have hn : H s.heap.objs.size = none := I.hok.fresh (Nat.le_refl _)
  have hS := rv.strs
  have sz : its.length = ys.length := by have := rv.length; rw [List.length_map] at this; exact this.symm
  refine set_list (fun i h => ∃ m, TxA X.prog X.w h s.heap.objs.size m ∧ (∀ z, z ∈ m ↔ z ∈ ys.take i) ∧ m.length ≤ i) (I.ok.hd hc) pl.isList (show X.A.units + 3 < cLine by omega) ⟨?_⟩ ⟨?_⟩ ⟨?_, ?_⟩
  · rintro i h h' ⟨m, R, mem, len⟩ k kp
    exact ⟨m, R.keep k, mem, len⟩
  · rintro i v A E s1 Q1 hv un ⟨m, R, mem, len⟩ kp q1
    have hv' : its[i]? = some v := by simpa using hv
    obtain ⟨k, tk, e1, e2⟩ : ∃ k tk, ys[i]? = some k ∧ v = .str k tk := by
      have il : i < ys.length := by rw [← sz]; exact (List.getElem?_eq_some_iff.mp hv').1
      obtain ⟨tk, e⟩ := SS.strs_at hS i v hv'
      exact ⟨_, tk, List.getElem?_eq_getElem il, by rw [e, List.getD_eq_getElem?_getD, List.getElem?_eq_getElem il]; rfl⟩
    subst e2
    have il := (List.getElem?_eq_some_iff.mp e1).1
    have tk2 : ∀ z, (z ∈ (if k ∈ m then m else k :: m)) ↔ z ∈ ys.take (i + 1) := fun z => by
      rw [List.take_add_one, e1, List.mem_append, ← mem z]
      show z ∈ mem1 k m ↔ _
      rw [mem1_mem]
      simp only [Option.toList_some, List.mem_singleton]
      exact Or.comm
    unfold setAdd
    refine wpAny_holding (wpAny_bind ((PySem.strKind X.prog X.w).pyHash (is_str k tk) ?_))
    refine TxA.put (s := { s1 with toks := s1.toks + 1 }) R (Nat.lt_trans (show m.length + 1 < 65 by omega) (by decide)) (fun hk h' same R' => q1 true h' _ same (Nat.le_succ _) ⟨k :: m, R', fun z => ?_, by rw [List.length_cons]; omega⟩) fun hk => ?_
    · rw [← tk2 z, if_neg hk]
    · have := q1 false s1.heap (s1.toks + 1) (Heap.SameBut.refl _ _) (Nat.le_succ _) ⟨m, R, fun z => by rw [← tk2 z, if_pos hk], by omega⟩
      exact this
  · intro h' e
    exact ⟨[], ⟨⟨(#[], 0, .fresh 0 0 (!X.w.params.followText "set-order")), e, TxOk.nil (by rfl), .nil, by
      show _ ∨ (!X.w.params.followText "set-order") = true
      cases X.w.params.followText "set-order"
      · exact .inr rfl
      · exact .inl rfl⟩, .nil⟩, fun z => by simp, Nat.le_refl _⟩
  · rintro h' tk ⟨m, R, mem, len⟩ kp
    have e : its.toArray.size = ys.length := by simpa using sz
    rw [e] at mem len
    rw [List.take_length] at mem
    exact ⟨.ref _, _, I.laid (a := s.heap.objs.size) (t' := tk) kp (Nat.le_refl _) (txO_new R), rfl, q _ m mem len hn⟩
end
end Cw

namespace Cw
open PySem PySem.Spec PyProof.Rows L2 PySem.Froz

/-! ### targets: a list's items, an attribute -/
section
variable {X : Cx} {pos : Pos}
def gLs (k : Nat) (t : TGDs) : TGD := fun d ρ c Φ => match seqOf d with
  | some ds => (match d with
    | .tup _ => False
    | _ => ds.length = k ∧ t ds ρ c Φ)
  | none => False
theorem pgd_lst {es : List Expr} {k : Nat} {t : TGDs} {n : Nat} (hc : X.calm = true) (h : PGDs X es t) (hn : (assignEach es X.env).length = n := by rfl) (hst : (assignEach es X.env).findIdx? (·.1) = none := by rfl) : PGD X (.Tuple es k pos) (gLs n t) :=
  PG.imp (pg_lst hc h hn hst) fun v σ H Q ⟨m, ρ, c, d, Φ, S, r, h, nn⟩ => by
    cases d <;> first | exact h.elim | skip
    · obtain ⟨a, xs, rfl, h1, h2⟩ := r
      exact ⟨a, xs, rfl, .inl (.inl (ex_hid m H _ _ h1)), by rw [rlen h2]; exact h.1, m, ρ, c, _, Φ, S, h2, h.2, nn⟩
    · obtain ⟨a, xs, rfl, h1, h2⟩ := r
      exact ⟨a, xs, rfl, ex_l (ex_hid m H) h1, by rw [rlen h2]; exact h.1, m, ρ, c, _, Φ, S, h2, h.2, nn⟩
def gFld (C : Addr) (f : Str) (ta : TD) : TGD := fun d ρ c Φ => ta ρ c fun x c1 => ∃ k ns ds, x = .cell k ∧ c1[k]? = some (.obj C ns ds) ∧ ns.length < 1000 ∧ Φ ρ (c1.set k (.obj C (setF f d ns ds).1 (setF f d ns ds).2))
theorem pgd_fld {C : Addr} {f : Str} {o : Expr} {ta : TD} (cl : Cls X.K C) (na : NoAttr X.K C f) (ha : PD X o ta) : PGD X (.Attribute o f pos) (gFld C f ta) := by
  refine ⟨fun pins s σ H v u Q I r ⟨m, ρ, c, d, Φ, S, rv, h, n⟩ => ?_⟩
  rw [PySem.assign_Attribute]
  refine wpAny_bind (wpAny_holding (thn (ha.run pins s σ H (fun x H' => ∃ m' c' D', D' = x ∧ (∃ k ns ds, ∃ a, m'.ix[k]? = some a ∧ x = .ref a ∧ c'[k]? = some (.obj C ns ds) ∧ ns.length < 1000 ∧ Φ ρ (c'.set k (.obj C (setF f d ns ds).1 (setF f d ns ds).2))) ∧ CR X.K H' m' c' ∧ Le m H m' H') I ⟨m, ρ, c, _, S, h, fun x c1 w H1 m1 ⟨k, ns, ds, ex, h1, h2, h3⟩ C1 R1 L1 => ?_⟩) fun ov s1 ⟨x, H1, I1, rx, m1, c1, D', eD, ⟨k, ns, ds, a, h4, ex, h1, h2, h3⟩, C1, L1⟩ => ?_))
  · subst ex
    obtain ⟨a, h4, ew⟩ := R1
    exact ⟨m1, c1, w, rfl, ⟨k, ns, ds, a, h4, ew, h1, h2, h3⟩, C1, L1⟩
  · subst ex
    obtain rfl : ov = Value.ref a := rx
    obtain ⟨a', h5, dx, fs, h6, h7, h8⟩ := C1.at_ k _ h1
    rw [h4] at h5; cases h5
    have hm : a ∈ m1.ix := List.mem_of_getElem? h4
    have z1 := setF_at (f := f) (L1.r rv) h7 h8
    have z := cell_put (o := .ins C dx (putF f v fs)) (ce := .obj C (setF f d ns ds).1 (setF f d ns ds).2) C1 h4 ⟨dx, _, upd_same, z1.1, by show RL _ _ (hid m1 _) _ _; rw [hid_mut hm]; exact z1.2⟩
    refine wpAny_bind (wpAny_standAt (wpAny_bind (wpAny_holding (setattr_ok I1 h6 cl na (by rw [← List.length_map (f := (·.1)), h7]; exact h2) r fun s2 I2 => wpAny_release ⟨σ, _, I2, ?_⟩))))
    exact n σ _ m1 ρ _ h3 ((S.step L1 C1).step z.2 z.1) (L1.trans z.2)
end
/-! ### f'{a}{b}' -/
def fmtS : D → Option Str
  | .int i => if i.natAbs.log2 < 1920 then some (toString i) else none
  | .str x => if x.length ≤ sizeLine then some x else none
  | _ => none
def dFs2 (ta tb : TD) : TD := fun ρ c Φ => ta ρ c fun x c1 => ∃ a, fmtS x = some a ∧ a.length ≤ sizeLine ∧ tb ρ c1 fun y c2 => ∃ b, fmtS y = some b ∧ a.length + b.length ≤ sizeLine ∧ Φ (.str (a ++ b)) c2
section
variable {X : Cx} {a b : Expr} {ta tb : TD} {pos : Pos}
theorem fmt_lift {K : PySem.W.Frag} {H : Hp} {m : Ad} {d : D} {v : V} {y : Str} {Q : VK} (h : fmtS d = some y) (r : RR K H m d v) (q : Q (.str y) H) : (∃ x : Str, v = .str x ∧ x.length ≤ sizeLine ∧ Q (.str x) H) ∨ ∃ i : Int, v = .int i ∧ i.natAbs.log2 < 1920 ∧ Q (.str (toString i)) H := by
  cases d <;> first | (cases h; done) | skip
  · rename_i i
    have h : (if i.natAbs.log2 < 1920 then some (toString i : Str) else none) = some y := h
    by_cases c : i.natAbs.log2 < 1920
    · rw [if_pos c] at h; cases h
      exact .inr ⟨i, r, c, q⟩
    · rw [if_neg c] at h; cases h
  · rename_i x
    have h : (if x.length ≤ sizeLine then some x else none) = some y := h
    by_cases c : x.length ≤ sizeLine
    · rw [if_pos c] at h; cases h
      exact .inl ⟨_, r, c, q⟩
    · rw [if_neg c] at h; cases h
theorem str_nil_app (x : Str) : Str.empty ++ x = x := by cases x with | mk l => show (⟨#[] ++ l⟩ : Str) = ⟨l⟩; simp
theorem pd_fs2 {p1 p2 : Pos} (ha : PD X a ta) (hb : PD X b tb) : PD X (.JoinedStr [.FormattedValue a (-1) none p1, .FormattedValue b (-1) none p2] pos) (dFs2 ta tb) :=
  PE.imp (pe_joined (.cons (pe_fmt ha) (.cons (pe_fmt hb) .nil))) fun σ H Q ⟨m, ρ, c, Φ, S, h, q⟩ =>
    ⟨m, ρ, c, _, S, h, fun x c1 u H1 m1 ⟨xa, ea, la, hx⟩ C1 R1 L1 => fmt_lift (Q := fun v H' => ∃ y : Str, v = .str y ∧ (Str.empty ++ y).length ≤ sizeLine ∧ tJs [tFmt (lift X.K tb)] (Str.empty ++ y) σ H' fun out H1 => Q (.str out) H1) ea R1
      ⟨xa, rfl, by rw [str_nil_app]; exact la, m1, ρ, c1, _, S.step L1 C1, hx, fun y c2 v H2 m2 ⟨xb, eb, lb, hy⟩ C2 R2 L2 => fmt_lift (Q := fun v H' => ∃ y : Str, v = .str y ∧ (Str.empty ++ xa ++ y).length ≤ sizeLine ∧ tJs [] (Str.empty ++ xa ++ y) σ H' fun out H1 => Q (.str out) H1) eb R2
        ⟨xb, rfl, by rw [str_nil_app, Str.length_append]; exact lb, by
          show Q (.str (Str.empty ++ xa ++ xb)) H2
          rw [str_nil_app]
          exact q (.str (xa ++ xb)) c2 _ H2 m2 hy C2 rfl (L1.trans L2)⟩⟩⟩
end
end Cw

namespace Cw
open PySem PySem.Spec PyProof.Rows L2 PySem.Froz

/-! ### [e for x in .. for y in ..], no cells around it -/
def dLc2 (ti : TDs) (i : Nat) (tj : TDs) (j : Nat) (te : TD) : TD := fun ρ c Φ => ti ρ c fun ds c1 => ∃ (es : D → List D) (f : D → D → D), c1 = [] ∧
  (∀ d ∈ ds, ∀ acc (Ψ : List D → List Cell → Prop), Ψ (es d) [.lst acc] → tj (((ρ.set j none).set i none).set i (some d)) [.lst acc] Ψ) ∧
  (∀ d ∈ ds, ∀ e ∈ es d, okD 0 (f d e) = true ∧ ∀ acc (Ψ : D → List Cell → Prop), Ψ (f d e) [.lst acc] → te ((((ρ.set j none).set i none).set i (some d)).set j (some e)) [.lst acc] Ψ) ∧
  (ds.flatMap fun d => (es d).map (f d)).length ≤ sizeLine ∧ Φ (.lst (ds.flatMap fun d => (es d).map (f d))) []
theorem SR.wipe {K : PySem.W.Frag} {σ : L2.St} {H : Hp} {m : Ad} {ρ : Env} {c : List Cell} (S : SR K σ H m ρ c) (i : Nat) : SR K (σ.set i none) H m (ρ.set i none) c :=
  ⟨S.cr, by rw [List.length_set, List.length_set]; exact S.len, fun k d e => by
    by_cases hk : i = k
    · subst hk
      rw [List.getElem?_set_self'] at e
      cases h : ρ[i]? with
      | none => rw [h] at e; cases e
      | some x => rw [h] at e; cases e
    · rw [List.getElem?_set_ne hk] at e
      obtain ⟨v, h1, h2⟩ := S.sl k d e
      exact ⟨v, by rw [List.getElem?_set_ne hk]; exact h1, h2⟩⟩
theorem okDs_flat {es : D → List D} {f : D → D → D} : ∀ {ds : List D}, (∀ d ∈ ds, ∀ e ∈ es d, okD 0 (f d e) = true) → okDs 0 (ds.flatMap fun d => (es d).map (f d)) = true := fun {ds} h => okDs_of fun x hx => by
  obtain ⟨d, hd, hx⟩ := List.mem_flatMap.mp hx
  obtain ⟨e, he, rfl⟩ := List.mem_map.mp hx
  exact h d hd e he
theorem lc2_walk {K : PySem.W.Frag} {J : It} {m : Ad} {H1 : Hp} {ds : List D} {σ : L2.St} {ρ : Env} {i j : Nat} {tj : TDs} {te : TD} {Qd : Addr → Hp → Prop} {es : D → List D} {f : D → D → D} (wk : Walks K J m H1 ds) (S : SR K σ H1 m ρ [])
    (hj : ∀ d ∈ ds, ∀ acc (Ψ : List D → List Cell → Prop), Ψ (es d) [.lst acc] → tj (((ρ.set j none).set i none).set i (some d)) [.lst acc] Ψ)
    (he : ∀ d ∈ ds, ∀ e ∈ es d, okD 0 (f d e) = true ∧ ∀ acc (Ψ : D → List Cell → Prop), Ψ (f d e) [.lst acc] → te ((((ρ.set j none).set i none).set i (some d)).set j (some e)) [.lst acc] Ψ)
    (hl : (ds.flatMap fun d => (es d).map (f d)).length ≤ sizeLine)
    (q : ∀ p H', CR K H' m [] → RR K H' m (.lst (ds.flatMap fun d => (es d).map (f d))) (.ref p) → Le m H1 m H' → Qd p H') : ∀ p, H1 p = none → ∃ W : Nat → Nat → Hp → Prop, (∃ mm, W 0 mm (upd H1 p (.lst []))) ∧ ∀ n mm H, W n mm H →
      (J.stop n H ∧ Qd p H) ∨ (J.go n H ∧ ∃ Nx : Hp → Prop, (∀ H', Nx H' → ∃ m', m' < mm ∧ W (n + 1) m' H') ∧ ∀ x H', J.yld n H x H' → gName i x (L2.wipe σ [i, j]) H' fun σ2 H2 => L2.wipe σ2 [i, j] = L2.wipe σ [i, j] ∧
        liftI K tj σ2 H2 fun J1 H4 => ∃ W1 : Nat → Nat → Hp → Prop, (∃ mm, W1 0 mm H4) ∧ ∀ n1 k H, W1 n1 k H →
          (J1.stop n1 H ∧ Nx H) ∨ (J1.go n1 H ∧ ∃ Nx1 : Hp → Prop, (∀ H', Nx1 H' → ∃ k', k' < k ∧ W1 (n1 + 1) k' H') ∧ ∀ x H', J1.yld n1 H x H' → gName j x (L2.wipe σ2 [j]) H' fun σ3 H5 => L2.wipe σ3 [j] = L2.wipe σ2 [j] ∧
            lift K te σ3 H5 fun y H7 => ∃ acc, H7 p = some (.lst acc) ∧ acc.length < sizeLine ∧ Nx1 (upd H7 p (.lst (acc ++ [y]))))) := by
  intro p hp
  have z0 := cell_new (ce := .lst []) (o := .lst []) S.cr hp ⟨[], upd_same, rfl⟩
  have ix0 : m.ix = [] := List.eq_nil_of_length_eq_zero S.cr.len
  have last : (m.push p).ix[0]? = some p := by show (m.ix ++ [p])[0]? = _; rw [ix0]; rfl
  have inp : p ∈ (m.push p).ix := List.mem_of_getElem? last
  have S0 := (S.wipe j).wipe i
  refine ⟨fun n mm H => mm = ds.length - n ∧ n ≤ ds.length ∧ CR K H (m.push p) [.lst ((ds.take n).flatMap fun d => (es d).map (f d))] ∧ Le m H1 (m.push p) H, ⟨ds.length, rfl, Nat.zero_le _, z0.1, z0.2.1⟩, ?_⟩
  rintro n mm H ⟨rfl, hn, C, l⟩
  by_cases lt : n < ds.length
  · refine .inr ⟨wk.go n (m.push p) H _ l C lt, fun H' => CR K H' (m.push p) [.lst ((ds.take (n + 1)).flatMap fun d => (es d).map (f d))] ∧ Le m H1 (m.push p) H', fun H' w => ⟨ds.length - (n + 1), by omega, rfl, lt, w⟩, fun x H2 y => ?_⟩
    obtain ⟨d, hd, C2, l2, rx⟩ := wk.yld n (m.push p) H _ x H2 l C lt y
    have dm := List.mem_of_getElem? hd
    have S2 : SR K ((L2.wipe σ [i, j]).set i (some x)) H2 (m.push p) (((ρ.set j none).set i none).set i (some d)) [.lst ((ds.take n).flatMap fun d => (es d).map (f d))] := (S0.step (l.trans l2) C2).set rx
    refine ⟨?_, m.push p, _, _, fun t c' => t = es d ∧ c' = [.lst ((ds.take n).flatMap fun d => (es d).map (f d))], S2, hj d dm _ _ ⟨rfl, rfl⟩, fun t c' J1 H4 m4 ⟨et, ec⟩ C4 wk1 l4 => ?_⟩
    · show ((((σ.set j none).set i none).set i (some x)).set j none).set i none = (σ.set j none).set i none
      by_cases ij : i = j
      · subst ij; simp [List.set_set]
      · rw [List.set_set, List.set_comm (some x) none ij, List.set_set, List.set_set]
    subst et ec
    have em := CR.same (by simp [Ad.push, ix0]) C4 l4
    subst em
    have grow : (ds.take (n + 1)).flatMap (fun d => (es d).map (f d)) = (ds.take n).flatMap (fun d => (es d).map (f d)) ++ (es d).map (f d) := by
      rw [List.take_add_one, hd]; simp
    have lim : ((ds.take n).flatMap fun d => (es d).map (f d)).length + (es d).length ≤ sizeLine := by
      have h1 : ((ds.take (n + 1)).flatMap fun d => (es d).map (f d)).length ≤ (ds.flatMap fun d => (es d).map (f d)).length := by
        conv => rhs; rw [← List.take_append_drop (n + 1) ds, List.flatMap_append, List.length_append]
        exact Nat.le_add_right _ _
      rw [grow, List.length_append, List.length_map] at h1
      omega
    refine ⟨fun n1 k H => k = (es d).length - n1 ∧ n1 ≤ (es d).length ∧ CR K H (m.push p) [.lst ((ds.take n).flatMap (fun d => (es d).map (f d)) ++ ((es d).take n1).map (f d))] ∧ Le (m.push p) H4 (m.push p) H, ⟨_, rfl, Nat.zero_le _, by simpa using C4, Le.refl _ _⟩, ?_⟩
    rintro n1 k H5 ⟨rfl, hn1, C5, l5⟩
    by_cases lt1 : n1 < (es d).length
    · refine .inr ⟨wk1.go n1 (m.push p) H5 _ l5 C5 lt1, fun H' => CR K H' (m.push p) [.lst ((ds.take n).flatMap (fun d => (es d).map (f d)) ++ ((es d).take (n1 + 1)).map (f d))] ∧ Le (m.push p) H4 (m.push p) H', fun H' w => ⟨(es d).length - (n1 + 1), by omega, rfl, lt1, w⟩, fun x1 H6 y1 => ?_⟩
      obtain ⟨e, hee, C6, l6, rx1⟩ := wk1.yld n1 (m.push p) H5 _ x1 H6 l5 C5 lt1 y1
      have S3 := (S2.step (l4.trans (l5.trans l6)) C6).wipe j
      have S4 := S3.set (i := j) rx1
      rw [show ((((ρ.set j none).set i none).set i (some d)).set j none).set j (some e) = (((ρ.set j none).set i none).set i (some d)).set j (some e) from List.set_set ..] at S4
      refine ⟨?_, m.push p, _, _, fun t c' => t = f d e ∧ c' = [.lst ((ds.take n).flatMap (fun d => (es d).map (f d)) ++ ((es d).take n1).map (f d))], S4, (he d dm e (List.mem_of_getElem? hee)).2 _ _ ⟨rfl, rfl⟩, fun t c' u H7 m7 ⟨et, ec⟩ C7 R7 l7 => ?_⟩
      · show (((((L2.wipe σ [i, j]).set i (some x)).set j none).set j (some x1)).set j none) = ((L2.wipe σ [i, j]).set i (some x)).set j none
        rw [List.set_set, List.set_set]
      subst et ec
      have em := CR.same (by simp [Ad.push, ix0]) C7 l7
      subst em
      obtain ⟨a, h5, xs, h6, h7⟩ := C7.at_ 0 _ rfl
      rw [last] at h5; cases h5
      have hx := rlen h7
      have zl : xs.length < sizeLine := by
        rw [hx, List.length_append, List.length_map, List.length_take]; omega
      have z := cell_put (o := .lst (xs ++ [u])) (ce := .lst (((ds.take n).flatMap (fun d => (es d).map (f d)) ++ ((es d).take n1).map (f d)) ++ [f d e])) C7 last ⟨_, upd_same, by show RL _ _ (hid (m.push p) _) _ _; rw [hid_mut inp]; exact RL.append h7 ⟨u, [], rfl, R7, rfl⟩⟩
      refine ⟨xs, h6, zl, ?_, (l5.trans (l6.trans l7)).trans z.2⟩
      have z1 := z.1
      rw [List.take_add_one, hee, Option.toList_some, List.map_append, ← List.append_assoc]
      exact z1
    · have e1 : n1 = (es d).length := by omega
      subst e1
      rw [List.take_length] at C5
      exact .inl ⟨wk1.stop _ (m.push p) H5 _ l5 C5 (Nat.le_refl _), by rw [grow]; exact C5, (l.trans (l2.trans l4)).trans l5⟩
  · have en : n = ds.length := by omega
    subst en
    rw [List.take_length] at C
    obtain ⟨C', _, ⟨xs, h4, h5⟩, hp1, hp2⟩ := CR.pop (c := []) C rfl
    exact .inl ⟨wk.stop _ (m.push p) H _ l C (Nat.le_refl _), q p H C' ⟨p, xs, rfl, by rw [hid_of ⟨hp1, hp2⟩]; exact h4, RL.low ex_pop (low_push C'.len) _ xs (okDs_flat fun d hd e he' => (he d hd e he').1) h5⟩ ⟨fun _ _ e => e, l.ex.trans ex_pop, rfl, l.hk' ex_pop, fun _ h => .inl h, l.al⟩⟩
section
variable {X : Cx} {iter iter1 elt : Expr} {te : TD} {pos tp tp1 : Pos} {ti tj : TDs} {scope : Scope} {x y : Str} {i j : Nat}
theorem pd_lc2 (hc : X.calm = true) (hN : X.N.Nodup) (hi : PID X (.Name x tp) iter ti) (ok : blkC X.N X.env.scope scope [(x, i), (y, j)] = true)
    (hg : ∀ (s : Shared) (H : Hp) (C : Addr) (cl : List (Str × Addr)) (fp : List Addr), PG (X.blk s H scope (compEnvC scope cl C X.env) fp) (.Name x tp) (gName i))
    (hi1 : ∀ (s : Shared) (H : Hp) (C : Addr) (cl : List (Str × Addr)) (fp : List Addr), PID (X.blk s H scope (compEnvC scope cl C X.env) fp) (.Name y tp1) iter1 tj)
    (hg1 : ∀ (s : Shared) (H : Hp) (C : Addr) (cl : List (Str × Addr)) (fp : List Addr), PG (X.blk s H scope (compEnvC scope cl C X.env) fp) (.Name y tp1) (gName j))
    (he : ∀ (s : Shared) (H : Hp) (C : Addr) (cl : List (Str × Addr)) (fp : List Addr), PD (X.blk s H scope (compEnvC scope cl C X.env) fp) elt te) (hs : ∀ x, foldedSetIterable iter X.env x = pure x := by intro _; rfl) (hs1 : ∀ env x, foldedSetIterable iter1 env x = pure x := by intro _ _; rfl) :
    PD X (.ListComp elt [⟨.Name x tp, iter, [], 0⟩, ⟨.Name y tp1, iter1, [], 0⟩] scope pos) (dLc2 ti i tj j te) :=
  PE.imp (pe_lc2 (own := [(x, i), (y, j)]) (vs1 := [j]) (te := lift X.K te) (wi1 := liftI X.K tj) hc hN hi (blkOk_by ok) (by simp) hg (fun _ _ _ _ _ => pts_nil) (fun s H C cl fp => hi1 s H C cl fp) hg1 (fun _ _ _ _ _ => pts_nil) (fun s H C cl fp => he s H C cl fp) hs hs1) fun σ H Q ⟨m, ρ, c, Φ, S, h, q⟩ =>
    ⟨m, ρ, c, _, S, h, fun ds c1 J H1 m1 ⟨es, f, ec, h1, h2, h3, h4⟩ C1 wk L1 => by
      subst ec
      exact lc2_walk wk (S.step L1 C1) h1 h2 h3 fun p H' C' R' l' => q _ [] _ H' m1 h4 C' R' (L1.trans l')⟩
end
end Cw

namespace Cw
open PySem PySem.Spec PyProof.Rows L2 PySem.Froz

/-! ### len(set(t)), sorted(set(l)) -/
def kD : Key → D
  | .inl i => .int i
  | .inr x => .str x
def keyD (k : List Key) : D := .tup (k.map kD)
theorem rl_keys {K : PySem.W.Frag} {ix : List Addr} {H : Hp} : ∀ {k : List Key} {xs : List V}, RL K ix H (k.map kD) xs → xs = k.map kV
  | [], _, h => h
  | .inl i :: k, _, ⟨x, r, e, h1, h2⟩ => by subst e; rw [rl_keys h2]; cases h1; rfl
  | .inr z :: k, _, ⟨x, r, e, h1, h2⟩ => by subst e; rw [rl_keys h2]; cases h1; rfl
theorem rl_rows {K : PySem.W.Frag} {ix : List Addr} {H : Hp} : ∀ {ks : List (List Key)} {xs : List V}, RL K ix H (ks.map keyD) xs → ∃ ms : List (Addr × List Key), xs = ms.map (fun m => .ref m.1) ∧ ms.map (·.2) = ks ∧ ∀ m ∈ ms, SqT K H m.1 (m.2.map kV)
  | [], _, h => ⟨[], h, rfl, fun m z => absurd z (by simp)⟩
  | k :: ks, _, ⟨x, r, e, ⟨b, ys, ex, h1, h2⟩, h3⟩ => by
    subst e ex
    obtain ⟨ms, e1, e2, e3⟩ := rl_rows h3
    have ey := rl_keys h2
    subst ey
    exact ⟨(b, k) :: ms, by rw [e1]; rfl, by rw [List.map_cons, e2], fun m z => by
      rcases List.mem_cons.mp z with e | z
      · subst e; exact h1
      · exact e3 m z⟩
theorem txts_eq {K : PySem.W.Frag} {ix : List Addr} {H : Hp} : ∀ {ys : List Str} {xs : List V}, RL K ix H (ys.map D.str) xs → xs = ys.map V.str
  | [], _, h => h
  | z :: ys, _, ⟨x, r, e, h1, h2⟩ => by subst e; rw [txts_eq h2]; cases h1; rfl
def dLenSet (te : TD) : TD := fun ρ c Φ => te ρ c fun d c1 => ∃ ks : List (List Key), d = .tup (ks.map keyD) ∧ ks.Nodup ∧ ks.length < 64 ∧ Φ (.int ks.length) c1
def dSortL (te : TD) : TD := fun ρ c Φ => te ρ c fun d c1 => ∃ ys : List Str, d = .lst (ys.map .str) ∧ ys.length < 64 ∧ ∀ zs : List Str, zs.Nodup → sortedS zs = true → (∀ x, x ∈ zs ↔ x ∈ ys) → Φ (.lst (zs.map .str)) c1
section
variable {X : Cx} {e : Expr} {te : TD} {pos pp p1 p2 : Pos}
theorem pd_lenSet (hu : X.A.units + 64 < cLine) (hc : X.calm = true) (he : PD X e te) (hm : X.mg "len" = none) (hm2 : X.mg "set" = none) (hg : Gl X "len" := by rfl) (hg2 : Gl X "set" := by rfl)
    (h1 : starEach [e] X.env = (false, eval e X.env) :: starEach [] X.env := by rfl) (h2 : (backTo p1 (starEach [] X.env)).any (·.1) = false := by rfl)
    (h3 : starEach [.Call (.Name "set" p2) [e] [] p1] X.env = (false, eval (.Call (.Name "set" p2) [e] [] p1) X.env) :: starEach [] X.env := by rfl) (h4 : (backTo pos (starEach [] X.env)).any (·.1) = false := by rfl) :
    PD X (.Call (.Name "len" pp) [.Call (.Name "set" p2) [e] [] p1] [] pos) (dLenSet te) :=
  PE.imp (pe_callB call_lenSz hg hm boot_len (pa_cons (pe_callTy (call_setMx hc hu) hg2 hm2 boot_set (pa_cons he pa_nil h1) (by decide) (by decide) h1 h2) pa_nil h3) (by decide) (by decide) h3 h4) fun σ H Q ⟨m, ρ, c, Φ, S, h, q⟩ =>
    ⟨m, ρ, c, _, S, h, fun d c1 u H1 m1 ⟨ks, ed, nd, few, hΦ⟩ C1 R1 L1 => by
      subst ed
      obtain ⟨l, xs, eu, s1, s2⟩ := R1
      obtain ⟨ms, e1, e2, e3⟩ := rl_rows s2
      subst eu e1 e2
      rw [List.length_map] at few hΦ
      exact ⟨l, ms, rfl, ex_t (ex_hid m1 H1) s1, fun k hk => ex_t (ex_hid m1 H1) (e3 k hk), nd, few, fun a ha => ⟨a, ms.length, rfl, upd_same, few, q _ c1 _ _ m1 hΦ (C1.new ha) rfl (L1.trans (Le.new ha C1))⟩⟩⟩
theorem pd_sortL (hu : X.A.units + 64 < cLine) (hc : X.calm = true) (he : PD X e te) (hm : X.mg "sorted" = none) (hm2 : X.mg "set" = none) (hg : Gl X "sorted" := by rfl) (hg2 : Gl X "set" := by rfl)
    (h1 : starEach [e] X.env = (false, eval e X.env) :: starEach [] X.env := by rfl) (h2 : (backTo p1 (starEach [] X.env)).any (·.1) = false := by rfl)
    (h3 : starEach [.Call (.Name "set" p2) [e] [] p1] X.env = (false, eval (.Call (.Name "set" p2) [e] [] p1) X.env) :: starEach [] X.env := by rfl) (h4 : (backTo pos (starEach [] X.env)).any (·.1) = false := by rfl) :
    PD X (.Call (.Name "sorted" pp) [.Call (.Name "set" p2) [e] [] p1] [] pos) (dSortL te) :=
  PE.imp (pe_callB (call_sortTx hc) hg hm boot_sorted (pa_cons (pe_callTy (call_setTx hc hu) hg2 hm2 boot_set (pa_cons he pa_nil h1) (by decide) (by decide) h1 h2) pa_nil h3) (by decide) (by decide) h3 h4) fun σ H Q ⟨m, ρ, c, Φ, S, h, q⟩ =>
    ⟨m, ρ, c, _, S, h, fun d c1 u H1 m1 ⟨ys, ed, few, hΦ⟩ C1 R1 L1 => by
      subst ed
      obtain ⟨l, xs, eu, s1, s2⟩ := R1
      have ex : xs = ys.map .str := txts_eq s2
      subst eu ex
      exact ⟨l, ys, rfl, .inl (.inl (ex_hid m1 H1 _ _ s1)), few, fun a z mz ml ha => ⟨a, z, rfl, upd_same, by omega, fun zs b nd mb so hb => by
        have C2 := C1.new (o := TxO X.prog X.w a z) ha
        have L2 := Le.new (o := TxO X.prog X.w a z) ha C1
        exact q _ c1 _ _ m1 (hΦ zs nd so fun x => (mb x).trans (mz x)) (C2.new hb) (RR.newL C2 hb (rl_txts zs)) ((L1.trans L2).trans (Le.new hb C2))⟩⟩⟩
end
/-! ### bool(x) of an object without a truth of its own -/
section
variable {prog : Program} {w : World} {A : Around} {E : Value → Shared → Prop} {s : Shared} {K : PySem.W.Frag} {x C : Addr} {ox : Obj} {od : Option Obj}
theorem tru_plain {Q : Bool → Shared → Prop} (X : K.In s.heap) (I : PySem.W.InstAt s.heap x ox C od) (hs : PySem.W.findIn K (.ref C) "__bool__" = some none) (hl : PySem.W.findIn K (.ref C) "__len__" = some none) (q : Q true s) : wpAny (model prog w) A (truthy (.ref x)) Q E s := by
  unfold truthy
  refine wpAny_bind (m := callSpecial? (.ref x) (Str.ofString "__bool__")) (wpAny_bind (wpAny_bind (I.type.here ((PySem.W.looks_findIn X hs).here (wpAny_pure ?_)))))
  refine wpAny_bind (wpAny_bind (I.type.here ((PySem.W.looks_findIn X hl).here ?_)))
  exact wp_if_pos (by rfl) (wpAny_pure q)
end
section
variable {X : Cx} {C : Addr} {e : Expr} {te : TD} {pos p : Pos}
theorem call_boolP (hn : PySem.W.findIn X.K (.ref C) "__bool__" = some none) (hs : PySem.W.findIn X.K (.ref C) "__len__" = some none) : CallR X (.type "bool") (fun xs H Q => ∃ a dx fs, xs = [.ref a] ∧ H a = some (.ins C dx fs) ∧ Q (.bl true) H) := by
  intro pins s σ H xs us Q I r ⟨a, dx, fs, ex, ha, q⟩
  subst ex
  obtain rfl := Vals.ref1 r
  obtain ⟨mA, J, _⟩ := ins_get I.hok ha
  obtain ⟨od, J, _⟩ := J.look
  exact bool_tru (tru_plain I.kIn J hn hs ⟨.bl true, H, I, rfl, q⟩)
def dBoolP (C : Addr) (te : TD) : TD := fun ρ c Φ => te ρ c fun d c1 => ∃ ns ds, d = .ins C ns ds ∧ Φ (.bl true) c1
theorem pd_boolP (hn : PySem.W.findIn X.K (.ref C) "__bool__" = some none) (hs : PySem.W.findIn X.K (.ref C) "__len__" = some none) (he : PD X e te) (hm : X.mg "bool" = none) (hg : Gl X "bool" := by rfl) (h1 : starEach [e] X.env = (false, eval e X.env) :: starEach [] X.env := by rfl) (h2 : (backTo pos (starEach [] X.env)).any (·.1) = false := by rfl) :
    PD X (.Call (.Name "bool" p) [e] [] pos) (dBoolP C te) := PE.imp (pe_callTy (call_boolP hn hs) hg hm (by decide +kernel) (pa_cons he pa_nil h1) (by decide) (by decide) h1 h2) fun σ H Q ⟨m, ρ, c, Φ, S, h, q⟩ =>
    ⟨m, ρ, c, _, S, h, fun d c1 u H1 m1 ⟨ns, ds, ed, hΦ⟩ C1 R1 L1 => by
      subst ed
      obtain ⟨a, dx, fs, eu, h3, _, _⟩ := R1
      subst eu
      exact ⟨a, dx, fs, rfl, ex_hid m1 H1 _ _ h3, q _ c1 _ H1 m1 hΦ C1 rfl L1⟩⟩
end
end Cw

namespace Cw
open PySem PySem.Spec PyProof.Rows L2 PySem.Froz

/-! ### t[::-1] of a tuple -/
section
variable {prog : Program} {w : World} {A : Around} {E : Value → Shared → Prop} {s : Shared}
theorem applied_rev {sl : Addr} {vs : Value} {n : Nat} {Q : Int × Int × Nat → Shared → Prop} (hs : s.heap.IsSliceOf sl .none .none vs) (ps : IsPart vs (some (-1))) (q : Q ((n : Int) - 1, -1, n) s) :
    wpAny (model prog w) A (Builtin.Slice.sliceApplied (.ref sl) (pure (n : Int))) Q E s := by
  obtain ⟨os, hos, hcs, hds⟩ := id hs
  unfold Builtin.Slice.sliceApplied Builtin.Slice.sliceFields
  refine wpAny_bind (wpAny_bind (wpAny_field hos hds (x := Value.none) rfl (wpAny_bind (wpAny_field hos hds (x := Value.none) rfl (wpAny_bind (wpAny_field hos hds (x := vs) rfl (wpAny_pure ?_)))))))
  refine wpAny_bind (HT.slicePart_ ps ?_)
  show wpAny _ _ (if ((-1 : Int) == 0) = true then _ else _) _ _ s
  rw [if_neg (by decide)]
  refine wpAny_bind (HT.slicePart_ .none (wpAny_bind (HT.slicePart_ .none (wpAny_bind (wpAny_pure ?_)))))
  show wpAny _ _ (pure ((n : Int) - 1, (-1 : Int), Builtin.Slice.slicePlaces ((n : Int) - 1) (-1) (-1))) _ _ s
  have e : Builtin.Slice.slicePlaces ((n : Int) - 1) (-1) (-1) = n := by
    unfold Builtin.Slice.slicePlaces
    rw [if_neg (by decide)]
    by_cases h : (n : Int) - 1 > -1
    · rw [if_pos h, show (- -1 : Int) = 1 from rfl, Int.ediv_one]; omega
    · rw [if_neg h]; omega
  rw [e]
  exact wpAny_pure q
theorem pick_rev (xs : Array Value) : ((List.range xs.size).filterMap fun (k : Nat) => xs[(((xs.size : Int) - 1) + (k : Int) * (-1)).toNat]?) = xs.toList.reverse := by
  have e : ∀ k ∈ List.range xs.size, xs[(((xs.size : Int) - 1) + (k : Int) * (-1)).toNat]? = some ((xs.toList.reverse)[k]?.getD .none) := fun k hk => by
    have hk := List.mem_range.mp hk
    have h1 : (((xs.size : Int) - 1) + (k : Int) * (-1)).toNat = xs.size - 1 - k := by omega
    rw [h1, List.getElem?_reverse (by rw [Array.length_toList]; exact hk), Array.length_toList, Array.getElem?_toList, Array.getElem?_eq_getElem (by omega)]
    rfl
  have key : ∀ l : List Nat, (∀ k ∈ l, k < xs.size) → l.filterMap (fun (k : Nat) => xs[(((xs.size : Int) - 1) + (k : Int) * (-1)).toNat]?) = l.map fun k => (xs.toList.reverse)[k]?.getD .none := by
    intro l
    induction l with
    | nil => intro _; rfl
    | cons k l ih =>
      intro h
      rw [List.filterMap_cons_some (f := fun (k : Nat) => xs[(((xs.size : Int) - 1) + (k : Int) * (-1)).toNat]?) (e k (List.mem_range.mpr (h k List.mem_cons_self))), ih fun j hj => h j (List.mem_cons_of_mem _ hj)]; rfl
  rw [key _ fun k hk => List.mem_range.mp hk]
  apply List.ext_getElem
  · simp
  · intro k h1 h2
    rw [List.getElem_map, List.getElem_range, List.getElem?_eq_getElem h2]; rfl
theorem getItem_rev {t sl : Addr} {items : Array Value} {vs : Value} {Q : Value → Shared → Prop} (ht : IsTup s.heap t items) (hs : s.heap.IsSliceOf sl .none .none vs) (ps : IsPart vs (some (-1)))
    (q : Q (.ref s.heap.objs.size) { s with heap := s.heap.push { cls := .type "tuple", data := .seq items.toList.reverse.toArray } }) (hz : items.size ≤ sizeLine) : wpAny (model prog w) A (getItem (.ref t) (.ref sl)) Q E s := by
  have lim : sizeOk (.seq items.toList.reverse.toArray) := by
    show items.toList.reverse.toArray.size ≤ sizeLine
    rw [List.size_toArray, List.length_reverse, Array.length_toList]; exact hz
  obtain ⟨os, hos, hcs, hds⟩ := id hs
  have ty : s.TypeIs (.ref sl) "slice" := ⟨os, hos, hcs⟩
  unfold getItem
  try with_reducible refine wpAny_holding ?_
  first | refine wpAny_bind (wpAny_pure ?_) | skip
  refine wpAny_bind (wpAny_sequenceKey ht.typeIs (by decide) (wpAny_bind (wpAny_callSpecial?_slot (name := Str.ofString "__getitem__") ht.typeIs PyProof.Rows.slot_tuple_getitem (wpAny_call_entry PyProof.Rows.slot_tuple_getitem ht.typeIs entry_tuple_getitem ?_ (args_tuple_getitem _ _)))))
  show wpAny _ _ (Builtin.Tuple.tupleItemsOf (.ref t) >>= _) _ _ s
  refine wpAny_bind (tupleItemsOf_ ht (wpAny_bind (wpAny_typeOf ty ?_)))
  rw [if_pos (by decide)]
  refine wpAny_bind (applied_rev hs ps ?_)
  have no : ¬ (((items.size : Int) - 1 == 0 && (-1 : Int) == 1 && items.size == items.size) = true) := by
    rw [show ((-1 : Int) == 1) = false from rfl, Bool.and_false, Bool.false_and]; decide
  show wpAny _ _ (if ((items.size : Int) - 1 == 0 && (-1 : Int) == 1 && items.size == items.size) = true then _ else _) _ _ s
  rw [if_neg no, pick_rev]
  first
    | exact wpAny_bind (m := Builtin.Tuple.tupleExact _) (wpAny_newObj_type (wpAny_pure ⟨_, rfl, wpAny_pure q⟩) lim)
    | exact wpAny_bind (m := Builtin.Tuple.tupleExact _) (wpAny_newObj_type (wpAny_bind (wpAny_pure (wpAny_pure ⟨_, rfl, wpAny_pure q⟩))) lim)
    | exact wpAny_bind (wpAny_bind (m := Builtin.Tuple.tupleExact _) (wpAny_newObj_type (wpAny_pure (wpAny_pure ⟨_, rfl, wpAny_pure q⟩)) lim))
    | exact wpAny_bind (wpAny_bind (m := Builtin.Tuple.tupleExact _) (wpAny_newObj_type (wpAny_pure ⟨_, rfl, wpAny_pure q⟩) lim))
end
theorem RL.reverse {K : PySem.W.Frag} {m : List Addr} {H : Hp} : ∀ {ds : List D} {xs : List V}, RL K m H ds xs → RL K m H ds.reverse xs.reverse
  | [], _, h => by cases (show _ = [] from h); exact rfl
  | d :: ds, _, ⟨x, r, e, h1, h2⟩ => by
    subst e
    rw [List.reverse_cons, List.reverse_cons]
    exact RL.append (RL.reverse h2) ⟨x, [], rfl, h1, rfl⟩
def dRevT (te : TD) : TD := fun ρ c Φ => te ρ c fun d c1 => ∃ ds, d = .tup ds ∧ Φ (.tup ds.reverse) c1
section
variable {X : Cx} {e : Expr} {te : TD} {k : Nat} {p1 p2 p3 pos : Pos}
theorem pd_revT (he : PD X e te) : PD X (.Subscript e (.Slice none none (some (.UnaryOp .USub (.Constant (.int 1) k p1) p2)) p3) pos) (dRevT te) := by
  refine PE.imp (t := fun σ H Q => lift X.K te σ H fun x H1 => ∃ a xs, x = .ref a ∧ SqT X.K H1 a xs ∧ ∀ p, H1 p = none → Q (.ref p) (upd H1 p (.tup xs.reverse))) ⟨fun pins s σ H Q I h => ?_⟩ fun σ H Q ⟨m, ρ, c, Φ, S, h, q⟩ =>
    ⟨m, ρ, c, _, S, h, fun d c1 u H1 m1 ⟨ds, ed, hΦ⟩ C1 R1 L1 => by
      subst ed
      obtain ⟨a, xs, eu, h1, h2⟩ := R1
      exact ⟨a, xs, eu, ex_t (ex_hid m1 H1) h1, fun p hp => q _ c1 _ _ m1 hΦ (C1.new hp) (RR.newT C1 hp (RL.reverse h2)) (L1.trans (Le.new hp C1))⟩⟩
  refine Subscript_ (thn (he.run pins s σ H _ I h) fun v s1 ⟨x, H1, I1, r1, a, xs, ex, hx, q⟩ => ?_)
  subst ex
  cases r1
  have st : PO X (some (.UnaryOp .USub (.Constant (.int 1) k p1) p2)) (tPart (tUn (rU fun i => .int (-i)) (tC (.int 1)))) := po_some (pe_un un_neg pe_int)
  refine wpAny_Slice (thn (po_none.run pins s1 σ H1 (fun o Hz => o = none ∧ Hz = H1) I1 ⟨rfl, rfl⟩) fun vl s2 ⟨l, H2, I2, pl, el, e2⟩ => ?_)
  subst el e2
  refine thn (po_none.run pins s2 σ H2 (fun o Hz => o = none ∧ Hz = H2) I2 ⟨rfl, rfl⟩) fun vu s3 ⟨u, H3, I3, pu, eu, e3⟩ => ?_
  subst eu e3
  refine thn (st.run pins s3 σ H3 (fun o Hz => o = some (-1) ∧ Hz = H3) I3 ⟨1, rfl, -1, rfl, rfl, rfl⟩) fun vs s4 ⟨o, H4, I4, ps, eo, e4⟩ => ?_
  subst eo e4
  cases pl
  cases pu
  have I5 : Inv X pins σ H4 { s4 with heap := s4.heap.push { cls := .type "slice", data := .fields #[.none, .none, vs] } } := I4.kept (t' := s4.toks) fun b ob e => Heap.get?_push_of_some _ e
  obtain ⟨its, r, ht, hz⟩ := I5.tuple hx
  have len := r.length
  refine tail_any (ops := [.ref a, .ref s4.heap.objs.size]) ht.typeIs PyProof.Rows.slot_tuple_getitem.lookup (getItem_rev ht (Heap.IsSliceOf.new _ .none .none vs) ps ?_ (by rw [List.size_toArray]; omega)) (by with_unfolding_all rfl)
  exact ⟨.ref _, _, I5.laid (t' := s4.toks) (o := .tup xs.reverse) (fun b ob e => Heap.get?_push_of_some _ e) (Nat.le_refl _) ⟨by rw [List.length_reverse]; exact hz, _, r.reverse, ⟨_, Heap.get?_push_size _ rfl, rfl, _, rfl⟩⟩, rfl, q _ (I5.hok.fresh (Nat.le_refl _))⟩
end
end Cw

namespace Cw
open PySem PySem.Spec PyProof.Rows L2

/-! ### a def called by keywords alone, in any order -/
def perm {α : Type} (is : List Nat) (xs : List α) : List α := is.filterMap fun i => xs[i]?
theorem vals_get : ∀ {vs : List V} {us : List Value} (i : Nat), Vals vs us → (vs[i]? = none ∧ us[i]? = none) ∨ ∃ v u, vs[i]? = some v ∧ us[i]? = some u ∧ RelV v u
  | [], us, i, h => by cases h; exact .inl ⟨by simp, by simp⟩
  | v :: vs, us, 0, h => by
    cases h with
    | cons h1 h2 => exact .inr ⟨_, _, rfl, rfl, h1⟩
  | v :: vs, us, i + 1, h => by
    cases h with
    | cons h1 h2 => simpa using vals_get i h2
theorem vals_perm {vs : List V} {us : List Value} (h : Vals vs us) : ∀ is : List Nat, Vals (perm is vs) (perm is us)
  | [] => .nil
  | i :: is => by
    unfold perm
    rcases vals_get i h with ⟨e1, e2⟩ | ⟨v, u, e1, e2, r⟩
    · rw [List.filterMap_cons_none e1, List.filterMap_cons_none e2]; exact vals_perm h is
    · rw [List.filterMap_cons_some e1, List.filterMap_cons_some e2]; exact .cons r (vals_perm h is)
theorem rl_perm {K : PySem.W.Frag} {m : List Addr} {H : Hp} {ds : List D} {xs : List V} (h : RL K m H ds xs) : ∀ is : List Nat, RL K m H (perm is ds) (perm is xs)
  | [] => rfl
  | i :: is => by
    unfold perm
    cases e : ds[i]? with
    | none =>
      have e2 : xs[i]? = none := by
        rw [List.getElem?_eq_none_iff] at e ⊢
        rw [← RL.length h]; exact e
      rw [List.filterMap_cons_none e, List.filterMap_cons_none e2]; exact rl_perm h is
    | some d =>
      obtain ⟨x, e2, r⟩ := RL.get h e
      rw [List.filterMap_cons_some e, List.filterMap_cons_some e2]
      exact ⟨x, _, rfl, r, rl_perm h is⟩
section
variable {X : Cx} {CX : CXT} {k np : Nat} {f : Addr} {fd : FuncData} {ps ks : List Str} {S : Pm} {E : XK} {x : Str} {p pos : Pos} {kws : List Keyword} {tks : TDs} {sp : Sp} {tk : TA} {g : List Value → List Value → List Value} {gV : List V → List V → List V}
theorem pe_callN0 (F : FnOk X.prog X.w X.K X.mg X.base CX k f fd ps sp) (hr : Room k X.A) (hg : Gl X x) (hm : X.mg x = some (.ref f)) (hk : PySem.W.keepIn X.K (.ref f) = true) (hb : KBn X.K fd ps 0 ks g gV) (hx : Passes CX X E)
    (hkw : PK X kws tk) (hall : (backToKw pos (keywordEach kws X.env)).all (·.1.isSome) = true := by rfl) (hks : (backToKw pos (keywordEach kws X.env)).filterMap (·.1) = ks := by rfl)
    (hdb : (x == ("__debug__" : Str)) = false := by decide)
    (hpl : ((backTo pos (starEach [] X.env)).any (·.1) || (backToKw pos (keywordEach kws X.env)).any (·.1.isNone)) = false := by rfl) :
    PE X (.Call (.Name x p) [] kws pos) (tCallN 0 ks.length sp gV E tNil tk) := by
  refine ⟨fun pins s σ H Q I h => ?_⟩
  refine wpAny_Call_Name_kw (ld_glob I hg hm ?_ hdb)
  refine PySem.W.callWith_KW0 (h₀ := X.base) I.ok.mod.kin hk hall ?_ hpl
  refine thn (hkw.run pos pins s σ H _ I h) fun ws s2 ⟨zs, H2, I2, rz, l1, l2, q2⟩ => ⟨I2.kIn, ?_⟩
  rw [hks]
  exact run_fnN (us := []) (vs := []) F hr hb hx I2 .nil rz rfl l2 q2
def dCallPK (S : Pm) (np n : Nat) (is : List Nat) (t : TDs) : TD := fun ρ c Φ => t ρ c fun ds c1 => ds.length = n ∧ (perm is ds).length = np ∧ callP S (perm is ds) c1 Φ
theorem pd_callPK {is : List Nat} (F : FnOk X.prog X.w X.K X.mg X.base CX k f fd ps (spD X.K 0 np S)) (hr : Room k X.A) (hm : X.mg x = some (.ref f)) (hk : PySem.W.keepIn X.K (.ref f) = true) (hb : KBn X.K fd ps 0 ks (fun _ ws => perm is ws) (fun _ ws => perm is ws)) (hx : Passes CX X E)
    (hkw : PK X kws (liftA X.K tks)) (hg : Gl X x := by rfl) (hall : (backToKw pos (keywordEach kws X.env)).all (·.1.isSome) = true := by rfl) (hks : (backToKw pos (keywordEach kws X.env)).filterMap (·.1) = ks := by rfl)
    (hdb : (x == ("__debug__" : Str)) = false := by decide)
    (hpl : ((backTo pos (starEach [] X.env)).any (·.1) || (backToKw pos (keywordEach kws X.env)).any (·.1.isNone)) = false := by rfl) :
    PD X (.Call (.Name x p) [] kws pos) (dCallPK S np ks.length is tks) := PE.imp (pe_callN0 F hr hg hm hk hb hx hkw hall hks hdb hpl) fun σ H Q ⟨m, ρ, c, Φ, S', h, q⟩ => by
  show liftA X.K tks σ H _
  exact ⟨m, ρ, c, _, S', h, fun ds c1 vs H1 m1 ⟨hn, hl, hc⟩ C1 R1 L1 => ⟨rfl, by rw [← RL.length R1]; exact hn, sp_pure C1 (rl_perm R1 is) hl hc (KQ.le (K := X.K) q L1)⟩⟩
end

/-! ### str * int -/
theorem op_mul_str {X : Cx} : OpR X (binaryOp .Mult) (fun x y H Q => ∃ i n, x = .str i ∧ y = .int n ∧ MulOk i n ∧ Q (.str (Txt.mul i n)) H) := by
  intro pins s σ H x y v u Q I rx ry h
  obtain ⟨i, n, rfl, rfl, hz, q⟩ := h
  obtain ⟨t, rfl⟩ := rx
  obtain ⟨t', rfl⟩ := ry
  exact SB.mul hz fun t' tk => ⟨.str (Txt.mul i n), H, I.tok _, ⟨_, rfl⟩, q⟩
def fMulS : F2 := fun x y c Φ => match x, y with
  | .str x, .int n => MulOk x n ∧ Φ (.str (Txt.mul x n)) c
  | _, _ => False
section
variable {X : Cx} {a b : Expr} {ta tb : TD} {pos : Pos}
theorem pd_mulS (ha : PD X a ta) (hb : PD X b tb) : PD X (.BinOp a .Mult b pos) (dBin fMulS ta tb) := PE.imp (pe_op op_mul_str ha hb) fun σ H Q h => lift_bin (by
  intro x y c Φ h H m u v Cc r1 r2 Q k
  cases x <;> cases y <;> first | exact h.elim | skip
  cases r1; cases r2
  exact ⟨_, _, rfl, rfl, h.1, k.pure Cc h.2 rfl⟩) h
end

/-! ### s[::-1] of a str -/
def revStr (z : Str) : Str := ⟨z.cps.toList.reverse.toArray⟩
theorem sidx_rev (n : Nat) : Builtin.Str.strSliceIndices none none (-1) n = (List.range n).map fun k => n - 1 - k := by
  unfold Builtin.Str.strSliceIndices
  show sliceRange ((n : Int) - 1) (-1) (-1) = _
  unfold sliceRange
  have e : (if (-1 : Int) > 0 then (if (n : Int) - 1 < -1 then (-1 - ((n : Int) - 1) + -1 - 1) / -1 else 0) else (if (n : Int) - 1 > -1 then ((n : Int) - 1 - -1 - -1 - 1) / (- -1) else 0)) = (n : Int) := by
    rw [if_neg (by decide)]
    by_cases h : (n : Int) - 1 > -1
    · rw [if_pos h, show (- -1 : Int) = 1 from rfl, Int.ediv_one]; omega
    · rw [if_neg h]; omega
  rw [e]
  show (List.range ((n : Int)).toNat).map _ = _
  rw [Int.toNat_natCast]
  refine List.map_congr_left fun k hk => ?_
  have := List.mem_range.mp hk
  omega
theorem pick_revS (z : Str) : ((Builtin.Str.strSliceIndices none none (-1) z.length).filterMap (z.cps[·]?)) = z.cps.toList.reverse := by
  rw [sidx_rev, List.filterMap_map]
  have hz : z.length = z.cps.size := rfl
  have e : ∀ k ∈ List.range z.length, ((z.cps[·]?) ∘ fun k => z.length - 1 - k) k = some ((z.cps.toList.reverse)[k]?.getD 0) := fun k hk => by
    have hk := List.mem_range.mp hk
    show z.cps[z.length - 1 - k]? = _
    rw [List.getElem?_reverse (by rw [Array.length_toList]; omega), Array.length_toList, Array.getElem?_toList, hz, Array.getElem?_eq_getElem (by omega)]
    rfl
  have key : ∀ l : List Nat, (∀ k ∈ l, k < z.length) → l.filterMap ((z.cps[·]?) ∘ fun k => z.length - 1 - k) = l.map fun k => (z.cps.toList.reverse)[k]?.getD 0 := by
    intro l
    induction l with
    | nil => intro _; rfl
    | cons k l ih =>
      intro h
      rw [List.filterMap_cons_some (f := (z.cps[·]?) ∘ fun k => z.length - 1 - k) (e k (List.mem_range.mpr (h k List.mem_cons_self))), ih fun j hj => h j (List.mem_cons_of_mem _ hj)]; rfl
  rw [key _ fun k hk => List.mem_range.mp hk]
  apply List.ext_getElem
  · simp [hz]
  · intro k h1 h2
    rw [List.getElem_map, List.getElem_range, List.getElem?_eq_getElem h2]; rfl
def dRevS (te : TD) : TD := fun ρ c Φ => te ρ c fun d c1 => ∃ z, d = .str z ∧ z.length ≤ sizeLine ∧ Φ (.str (revStr z)) c1
section
variable {X : Cx} {e : Expr} {te : TD} {k : Nat} {p1 p2 p3 pos : Pos}
theorem pd_revS (he : PD X e te) : PD X (.Subscript e (.Slice none none (some (.UnaryOp .USub (.Constant (.int 1) k p1) p2)) p3) pos) (dRevS te) := by
  refine PE.imp (t := fun σ H Q => lift X.K te σ H fun x H1 => ∃ z, x = .str z ∧ z.length ≤ sizeLine ∧ Q (.str (revStr z)) H1) ⟨fun pins s σ H Q I h => ?_⟩ fun σ H Q ⟨m, ρ, c, Φ, S, h, q⟩ =>
    ⟨m, ρ, c, _, S, h, fun d c1 u H1 m1 ⟨z, ed, hz, hΦ⟩ C1 R1 L1 => by
      subst ed
      cases (show u = _ from R1)
      exact ⟨z, rfl, hz, q _ c1 _ _ m1 hΦ C1 rfl L1⟩⟩
  refine Subscript_ (thn (he.run pins s σ H _ I h) fun v s1 ⟨x, H1, I1, r1, z, ex, hz, q⟩ => ?_)
  subst ex
  obtain ⟨t, rfl⟩ := r1
  have st : PO X (some (.UnaryOp .USub (.Constant (.int 1) k p1) p2)) (tPart (tUn (rU fun i => .int (-i)) (tC (.int 1)))) := po_some (pe_un un_neg pe_int)
  refine wpAny_Slice (thn (po_none.run pins s1 σ H1 (fun o Hz => o = none ∧ Hz = H1) I1 ⟨rfl, rfl⟩) fun vl s2 ⟨l, H2, I2, pl, el, e2⟩ => ?_)
  subst el e2
  refine thn (po_none.run pins s2 σ H2 (fun o Hz => o = none ∧ Hz = H2) I2 ⟨rfl, rfl⟩) fun vu s3 ⟨u, H3, I3, pu, eu, e3⟩ => ?_
  subst eu e3
  refine thn (st.run pins s3 σ H3 (fun o Hz => o = some (-1) ∧ Hz = H3) I3 ⟨1, rfl, -1, rfl, rfl, rfl⟩) fun vs s4 ⟨o, H4, I4, ps, eo, e4⟩ => ?_
  subst eo e4
  cases pl
  cases pu
  have I5 : Inv X pins σ H4 { s4 with heap := s4.heap.push { cls := .type "slice", data := .fields #[.none, .none, vs] } } := I4.kept (t' := s4.toks) fun b ob e => Heap.get?_push_of_some _ e
  obtain ⟨os, hos, hcs, hds⟩ := Heap.IsSliceOf.new s4.heap .none .none vs
  obtain ⟨q2, e2, e3⟩ := IsPart.raw ps
  subst e2
  refine tail_any (ops := [.str z t, .ref s4.heap.objs.size]) (typeIs_str _ _ _) F.slot_str_getitem.lookup (wpAny_getItem_str_slice (l := none) (u := none) (st := q2) ⟨os, hos, hcs, hds⟩ (by rw [e3]; rfl) ?_) (by with_unfolding_all rfl)
  show Made.post (if (((q2.map (·.1)).getD 1 == 1) && (Builtin.Str.strSliceIndices none none ((q2.map (·.1)).getD 1) z.length).length == z.length) = true then Made.val (.str z t)
    else Made.str ⟨((Builtin.Str.strSliceIndices none none ((q2.map (·.1)).getD 1) z.length).filterMap (z.cps[·]?)).toArray⟩) (EP X pins σ Q) _
  rw [e3]
  show Made.post (if (false && _) = true then _ else _) _ _
  rw [Bool.false_and, if_neg (by decide)]
  show Made.post (Made.str ⟨((Builtin.Str.strSliceIndices none none (-1) z.length).filterMap (z.cps[·]?)).toArray⟩) _ _
  rw [pick_revS]
  refine ⟨?_, .str (revStr z), H4, I5.tok _, ⟨_, rfl⟩, q⟩
  show z.cps.toList.reverse.toArray.size ≤ sizeLine
  rw [List.size_toArray, List.length_reverse, Array.length_toList]; exact hz
end
end Cw

namespace Cw
open PySem PySem.Spec PyProof.Rows L2

/-! ### for over a mutable list that no turn changes -/
def forK (k : Nat) (all : List D) (g : TGD) (tb : TSD) (De : DEnds) : List D → Env → List Cell → Prop
  | [], ρ, c => c[k]? = some (.lst all) ∧ De.nx ρ c
  | d :: ds, ρ, c => c[k]? = some (.lst all) ∧ g d ρ c fun ρ1 c1 => tb ⟨forK k all g tb De ds, De.rt, De.nx, forK k all g tb De ds⟩ ρ1 c1
def dForC (ta : TD) (g : TGD) (tb : TSD) : TSD := fun De ρ c => ta ρ c fun x c1 => ∃ k all, x = .cell k ∧ c1[k]? = some (.lst all) ∧ forK k all g tb De all ρ c1
theorem forK_inv {k : Nat} {all : List D} {g : TGD} {tb : TSD} {De : DEnds} (I : List D → Env → List Cell → Prop) (at_ : ∀ ds ρ c, I ds ρ c → c[k]? = some (.lst all)) (fin : ∀ ρ c, I [] ρ c → De.nx ρ c)
    (step : ∀ d ds ρ c (F : Env → List Cell → Prop), (∀ ρ c, I ds ρ c → F ρ c) → I (d :: ds) ρ c → g d ρ c fun ρ1 c1 => tb ⟨F, De.rt, De.nx, F⟩ ρ1 c1) : ∀ ds ρ c, I ds ρ c → forK k all g tb De ds ρ c
  | [], ρ, c, h => ⟨at_ _ _ _ h, fin ρ c h⟩
  | d :: ds, ρ, c, h => ⟨at_ _ _ _ h, step d ds ρ c _ (fun ρ c h => forK_inv I at_ fin step ds ρ c h) h⟩
section
variable {X : Cx} {tg iter : Expr} {ta : TD} {pos : Pos}
theorem psd_forC {body : List Stmt} {g : TGD} {tb : TSD} (hp : PassesOwn (model X.prog X.w) X.A X.env X.xe) (hc : X.calm = true) (hi : PD X iter ta) (hg : PGD X tg g) (hb : PSDs X body tb) (hs : ∀ x, foldedSetIterable iter X.env x = pure x := by intro _; rfl) :
    PSD X (.For tg iter body [] pos) (dForC ta g tb) := PS.imp (ps_for hp hc (pi_list hi) hg hb hs) fun Dn σ H ⟨m, ρ, c, De, S, h, n, r, b, kk⟩ =>
  ⟨m, ρ, c, _, S, h, fun x c1 v H1 m1 hx C1 R1 L1 => by
    obtain ⟨k, all, rfl, hk, hf⟩ := hx
    obtain ⟨a, ha, rfl⟩ := R1
    have here : ∀ {m' H' c'}, Le m1 H1 m' H' → CR X.K H' m' c' → c'[k]? = some (.lst all) → ∃ xs, H' a = some (.lst xs) ∧ RRL X.K H' m' all xs := fun {m' H' c'} l C e => by
      obtain ⟨b, h1, xs, h2, h3⟩ := C.at_ k _ e
      rw [l.pre k a ha] at h1; cases h1
      exact ⟨xs, h2, h3⟩
    obtain ⟨xs1, hx1, _⟩ := here (Le.refl _ _) C1 hk
    refine ⟨a, rfl, ⟨xs1, SqL.of hx1⟩, fun i mm σ' H' => mm = all.length - i ∧ i ≤ all.length ∧ ∃ m' ρ' c', Le m1 H1 m' H' ∧ SR X.K σ' H' m' ρ' c' ∧ forK k all g tb De (all.drop i) ρ' c',
     ⟨all.length, by simp, Nat.zero_le _, m1, ρ, c1, Le.refl _ _, S.step L1 C1, by simpa using hf⟩, ?_⟩
    rintro i mm σ' H' ⟨rfl, hi, m', ρ', c', l, S', hf⟩
    by_cases hlt : i < all.length
    · have e : all.drop i = all[i] :: all.drop (i + 1) := List.drop_eq_getElem_cons hlt
      rw [e] at hf
      obtain ⟨hk', hf⟩ := hf
      obtain ⟨xs, hxa, rx⟩ := here l S'.cr hk'
      have hd : all[i]? = some all[i] := List.getElem?_eq_getElem hlt
      obtain ⟨z, hz, rz⟩ := RL.get rx hd
      refine .inr ⟨⟨xs, z, SqL.of hxa, hz⟩, fun σ2 H2 => ∃ m2 ρ2 c2, Le m1 H1 m2 H2 ∧ SR X.K σ2 H2 m2 ρ2 c2 ∧ forK k all g tb De (all.drop (i + 1)) ρ2 c2, fun σ2 H2 ⟨m2, ρ2, c2, l2, S2, h2⟩ => ⟨all.length - (i + 1), by omega, rfl, hlt, m2, ρ2, c2, l2, S2, h2⟩, fun x H2 y => ?_⟩
      obtain ⟨rfl, y⟩ := y
      have := y xs (SqL.of hxa)
      rw [hz] at this; cases this
      have L2 := L1.trans l
      refine ⟨m', ρ', c', all[i], _, S', rz, hf, fun σ3 H3 m3 ρ3 c3 h3 S3 l3 => ?_⟩
      have L3 := L2.trans l3
      refine ⟨m3, ρ3, c3, _, S3, h3, fun σ4 H4 m4 ρ4 c4 h4 S4 l4 => ?_, r.le L3, fun σ4 H4 m4 ρ4 c4 h4 S4 l4 => n σ4 H4 m4 ρ4 c4 h4 S4 (L3.trans l4), fun σ4 H4 m4 ρ4 c4 h4 S4 l4 => ?_⟩
      · exact ⟨m4, ρ4, c4, l.trans (l3.trans l4), S4, h4⟩
      · exact ⟨m4, ρ4, c4, l.trans (l3.trans l4), S4, h4⟩
    · have ei : i = all.length := by omega
      subst ei
      rw [List.drop_length] at hf
      obtain ⟨hk', hf⟩ := hf
      obtain ⟨xs, hxa, rx⟩ := here l S'.cr hk'
      exact .inl ⟨⟨xs, SqL.of hxa, by rw [rlen rx]; exact Nat.le_refl _⟩, n σ' H' m' ρ' c' hf S' (L1.trans l)⟩⟩
end

/-! ### name += e -/
def dAug (i : Nat) (te : TD) (f : F2) : TSD := fun De ρ c => ∃ x, ρ[i]? = some (some x) ∧ te ρ c fun y c1 => f (vw c1 x) (vw c1 y) c1 fun z c2 => De.nx (ρ.set i (some z)) c2
section
variable {X : Cx} {te : TD} {e : Expr} {pos pos' : Pos} {x : Str} {i : Nat}
theorem psd_aug {op : Operator} {f : F2} {r : TIp} (ho : PIp X op r) (l : L2f X.K f r) (hN : X.N.Nodup) (he : PD X e te) (hi : X.N[i]? = some x := by rfl) (hx : Loc X.env.scope x := by first | exact Or.inl rfl | exact Or.inr rfl)
    (hf : X.fn x = true ∨ X.env.scope.names.lookup x = some .local := by first | exact .inl rfl | exact .inr rfl) : PSD X (.AugAssign (.Name x pos') op e pos) (dAug i te f) :=
  PS.imp (ps_aug hN hi hx he ho hf) fun Dn σ H ⟨m, ρ, c, De, S, ⟨d, hd, h⟩, n, r, b, k⟩ => by
    obtain ⟨v, hv, rv⟩ := S.sl i d hd
    refine ⟨v, hv, m, ρ, c, _, S, h, fun y c1 w H1 m1 hy C1 R1 L1 => ?_⟩
    exact l _ _ c1 _ hy H1 m1 v w C1 (W.vw C1 (L1.r rv)) (W.vw C1 R1) _ fun z c2 u H2 m2 hz C2 R2 L2 => n _ H2 m2 _ c2 hz ((S.step (L1.trans L2) C2).set R2) (L1.trans L2)
def fIAdd : F2 := fun x y c Φ => match x, y with
  | .int i, .int j => Φ (.int (i + j)) c
  | _, _ => False
def fISub : F2 := fun x y c Φ => match x, y with
  | .int i, .int j => Φ (.int (i - j)) c
  | _, _ => False
theorem psd_iadd (hN : X.N.Nodup) (he : PD X e te) (hi : X.N[i]? = some x := by rfl) (hx : Loc X.env.scope x := by first | exact Or.inl rfl | exact Or.inr rfl)
    (hf : X.fn x = true ∨ X.env.scope.names.lookup x = some .local := by first | exact .inl rfl | exact .inr rfl) : PSD X (.AugAssign (.Name x pos') .Add e pos) (dAug i te fIAdd) :=
  psd_aug ip_add (by
    intro x y c Φ h H m u v Cc r1 r2 Q k
    cases x <;> cases y <;> first | exact h.elim | skip
    cases r1; cases r2
    exact ⟨_, _, rfl, rfl, k.pure Cc h rfl⟩) hN he hi hx hf
theorem psd_isub (hN : X.N.Nodup) (he : PD X e te) (hi : X.N[i]? = some x := by rfl) (hx : Loc X.env.scope x := by first | exact Or.inl rfl | exact Or.inr rfl)
    (hf : X.fn x = true ∨ X.env.scope.names.lookup x = some .local := by first | exact .inl rfl | exact .inr rfl) : PSD X (.AugAssign (.Name x pos') .Sub e pos) (dAug i te fISub) :=
  psd_aug ip_sub (by
    intro x y c Φ h H m u v Cc r1 r2 Q k
    cases x <;> cases y <;> first | exact h.elim | skip
    cases r1; cases r2
    exact ⟨_, _, rfl, rfl, k.pure Cc h rfl⟩) hN he hi hx hf
end

/-! ### while -/
def dWhile (tc : TDt) (tb : TSD) : TSD := fun De ρ c => ∃ W : Nat → Env → List Cell → Prop, (∃ n, W n ρ c) ∧ ∀ n ρ c, W n ρ c → tc ρ c fun b c1 => match b with
  | true => ∃ N : Env → List Cell → Prop, (∀ ρ' c', N ρ' c' → ∃ n', n' < n ∧ W n' ρ' c') ∧ tb ⟨N, De.rt, De.nx, N⟩ ρ c1
  | false => De.nx ρ c1
section
variable {X : Cx} {e : Expr} {pos : Pos} {tc : TDt} {tb : TSD} {body : List Stmt}
theorem psd_while (hp : PassesOwn (model X.prog X.w) X.A X.env X.xe) (hc : PDt X e tc) (hb : PSDs X body tb) : PSD X (.While e body [] pos) (dWhile tc tb) :=
  PS.imp (ps_while hp hc hb) fun Dn σ H ⟨m, ρ, c, De, S, ⟨W, ⟨n0, w0⟩, hW⟩, n, r, b, k⟩ => by
    refine ⟨fun j σ' H' => ∃ m' ρ' c', Le m H m' H' ∧ SR X.K σ' H' m' ρ' c' ∧ W j ρ' c', ⟨n0, m, ρ, c, Le.refl _ _, S, w0⟩, ?_⟩
    rintro j σ' H' ⟨m', ρ', c', l, S', w⟩
    refine ⟨m', ρ', c', _, S', hW j ρ' c' w, fun bo c1 H1 m1 h1 C1 L1 => ?_⟩
    have L' := l.trans L1
    cases bo with
    | false => dsimp only; rw [if_neg (by decide)]; exact n _ H1 m1 _ c1 h1 (S'.step L1 C1) L'
    | true =>
      dsimp only
      rw [if_pos rfl]
      obtain ⟨N, hN, ht⟩ := h1
      refine ⟨fun σ2 H2 => ∃ m2 ρ2 c2, Le m H m2 H2 ∧ SR X.K σ2 H2 m2 ρ2 c2 ∧ N ρ2 c2, fun σ2 H2 ⟨m2, ρ2, c2, l2, S2, h2⟩ => ?_, m1, ρ', c1, _, S'.step L1 C1, ht, fun σ4 H4 m4 ρ4 c4 h4 S4 l4 => ⟨m4, ρ4, c4, L'.trans l4, S4, h4⟩, r.le L', fun σ4 H4 m4 ρ4 c4 h4 S4 l4 => n σ4 H4 m4 ρ4 c4 h4 S4 (L'.trans l4), fun σ4 H4 m4 ρ4 c4 h4 S4 l4 => ⟨m4, ρ4, c4, L'.trans l4, S4, h4⟩⟩
      obtain ⟨n', hn, w'⟩ := hN ρ2 c2 h2
      exact ⟨n', hn, m2, ρ2, c2, l2, S2, w'⟩
end
end Cw

namespace Cw
open PySem PySem.Spec PyProof.Rows L2
open PySem.Sem (wp)

/-! ### enumerate of a tuple -/
theorem draws_tuple {prog : Program} {w : World} {A : Around} (hh : A.handled = none) (it l : Addr) (hne : l ≠ it) (items : Array Value) :
    Draws prog w A it [it, l] items.size (fun i v => items[i]? = some v) (fun i h => h.IsTupleIter it l i ∧ h.IsTuple l items) where
  live := fun _ _ st => let ⟨o, ho, _⟩ := st.1; ⟨o, ho⟩
  frame := fun _ _ _ st hk => ⟨st.1.at fun o e => hk it (by simp) o e, let ⟨o, ho, r⟩ := st.2; ⟨o, hk l (by simp) o ho, r⟩⟩
  item := fun i s Q E hi st hQ => by
    refine RZ.nextOf_tuple_item st.1 st.2 (x := items[i]) (by simp [hi]) fun h' hit' hs' => ?_
    exact hQ _ h' s.toks (by simp [hi]) ⟨hit', st.2.extBut hs'.extBut hne⟩ hs'
  done := fun s Q E st hE => RZ.nextOf_tuple_end hh st.1 st.2 (by simp) hE
theorem meets_enumerate_newT (l : Addr) (items : Array Value) :
    Meets (Builtin.«enumerate.__new__» ⟨[.type "enumerate", .ref l], []⟩) (fun _ R s => s.heap.IsTuple l items ∧
      R (.ok (.ret (.ref (s.heap.push { cls := .type "tuple_iterator", data := .fields #[.ref l, .int 0 0] }).objs.size)))
        { s with heap := (s.heap.push { cls := .type "tuple_iterator", data := .fields #[.ref l, .int 0 0] }).push { cls := .type "enumerate", data := .fields #[.none, .bool false, .ref s.heap.objs.size, rawInt 0, .none, .none] } }) :=
  .of_wp fun prog w A R s h => by
    obtain ⟨hp, g, d, tk, os⟩ := s; obtain ⟨hl, h⟩ := h
    have hsub := sub_enumerate
    have hL : Heap.IsTuple (Shared.heap ⟨hp, g, d, tk, os⟩) l items := hl
    wp_walk using wpAny_pyIter_tuple hL
    refine wpAny_stack_any fun st => wpAny_pure ?_
    split
    · rename_i c _ _ _ _ _
      cases (c == Value.type "enumerate")
      · wp_walk using wpAny_pyIter_tuple hL
        exact ⟨_, rfl, h⟩
      · wp_walk using wpAny_pyIter_tuple hL
        exact ⟨_, rfl, h⟩
    · wp_walk using wpAny_pyIter_tuple hL
      exact ⟨_, rfl, h⟩
section
variable {prog : Program} {w : World} {A : Around} {E : Value → Shared → Prop} {s : Shared}
theorem call_enumerate_tuple {l : Addr} {items : Array Value} {Q : Value → Shared → Prop} (hL : s.heap.IsTuple l items)
    (h : ∀ h', IsEnum h' (s.heap.objs.size + 1) s.heap.objs.size 0 .none → h'.IsTupleIter s.heap.objs.size l 0 → h'.objs.size = s.heap.objs.size + 2 →
      (∀ b o, s.heap.get? b = some o → h'.get? b = some o) → Q (.ref (s.heap.objs.size + 1)) { s with heap := h' }) :
    wpAny (model prog w) A (call (.type "enumerate") [.ref l]) Q E s := by
  refine callType_new F.called_enumerate (by decide) (F.typeCall_enumerate_1 _) (F.newCall_enumerate_1 _) (fun obj => F.args_object_init_2 obj _) F.entry_enumerate_new
    (meets_enumerate_newT l items) ⟨hL, ?_⟩
  have hz : (s.heap.push { cls := .type "tuple_iterator", data := .fields #[.ref l, .int 0 0] }).objs.size = s.heap.objs.size + 1 := Heap.size_push ..
  show _ ∧ _
  rw [hz]
  have he : IsEnum ((s.heap.push { cls := .type "tuple_iterator", data := .fields #[.ref l, .int 0 0] }).push
      { cls := .type "enumerate", data := .fields #[.none, .bool false, .ref s.heap.objs.size, rawInt 0, .none, .none] }) (s.heap.objs.size + 1) s.heap.objs.size 0 .none := by
    have := Heap.get?_push_size (s.heap.push { cls := .type "tuple_iterator", data := .fields #[.ref l, .int 0 0] })
      (o := { cls := .type "enumerate", data := .fields #[.none, .bool false, .ref s.heap.objs.size, rawInt 0, .none, .none] }) rfl
    rw [hz] at this; exact this
  refine ⟨⟨_, he, rfl⟩, h _ he ⟨_, Heap.get?_push_of_some _ (Heap.get?_push_size _ rfl), rfl, rfl⟩ (by rw [Heap.size_push, hz]) fun b o x => Heap.get?_push_of_some _ (Heap.get?_push_of_some _ x)⟩
end
section
variable {prog : Program} {w : World} {A : Around} {E : Value → Shared → Prop} {s : Shared}
theorem pyNext_enumT_end {e it l : Addr} {i : Nat} {items : Array Value} {old : Value} {Q : Option Value → Shared → Prop} (hh : A.handled = none)
    (he : IsEnum s.heap e it i old) (hit : s.heap.IsTupleIter it l i) (hl : s.heap.IsTuple l items) (hx : items[i]? = none)
    (hQ : ∀ h', Heap.ExtBut it s.heap h' → Q none { s with heap := h' }) : wpAny (model prog w) A (pyNext (.ref e)) Q E s := by
  have hT : s.TypeIs (.ref e) "enumerate" := ⟨_, he, rfl⟩
  unfold pyNext
  refine wpAny_bind (wpAny_attempt (wpAny_callSpecial?_slot (name := Str.ofString "__next__") hT F.slot_enumerate_next
    (wpAny_call_entry F.slot_enumerate_next hT F.entry_enumerate_next ?_ (F.args_enumerate_next_1 _))))
  show wpAny _ _ (field (.ref e) 2 >>= _) _ _ _
  refine wpAny_bind (wpAny_field he rfl (x := .ref it) rfl ?_)
  refine wpAny_bind (RZ.nextOf_tuple_end hh hit hl hx fun h' x he' hx' => ?_)
  obtain ⟨o, ho, hc⟩ := hx'
  refine wpAny_bind (wpAny_isInstance (T := "StopIteration") (b := true) ⟨o, ho, hc⟩ isSubtype_stop ?_)
  exact wpAny_pure (hQ _ he')
end
def IteT (K : PySem.W.Frag) (a : Addr) : It :=
  ⟨fun i H => ∃ (xs : List V) (x : V), SqT K H a xs ∧ xs[i]? = some x, fun i H v H' => ∃ T x, v = .ref T ∧ H T = none ∧ H' = upd H T (.tup [.int (i : Nat), x]) ∧ ∀ xs, SqT K H a xs → xs[i]? = some x, fun i H => ∃ xs : List V, SqT K H a xs ∧ xs.length ≤ i⟩
theorem turn_enumT {P : Program} {w : World} {K : PySem.W.Frag} {elts : List Expr} {kk : Nat} {tpos : Pos} (a e it : Addr) (hai : a ≠ it) (hae : a ≠ e) :
    Turn P w K (.Tuple elts kk tpos) (IteT K a) [e, it] e (fun i h => (∃ old, IsEnum h e it ((i : Nat) : Int) old) ∧ h.IsTupleIter it a i ∧ e ≠ it) where
  mem := by simp
  obj := fun i h st b hb => by
    obtain ⟨⟨old, he⟩, ⟨o, ho, hc, hd⟩, _⟩ := st
    have e' : b = e ∨ b = it := by simpa using hb
    rcases e' with z | z
    · rw [z]; exact ⟨_, he, fun v q => nomatch q⟩
    · rw [z]; exact ⟨o, ho, fun v q => by rw [hd] at q; cases q⟩
  keep := fun i h h' st k => let ⟨⟨old, he⟩, hi, hne⟩ := st; ⟨⟨old, k e (by simp) _ he⟩, hi.at fun o q => k it (by simp) o q, hne⟩
  item := by
    intro X hP hw hK hc i pins s σ H E I hf st hg
    subst hP hw hK
    obtain ⟨⟨old, he⟩, hit, hne⟩ := st
    obtain ⟨xs, x, hq, hx⟩ := hg
    obtain ⟨its, rv, p, hz⟩ := I.tuple hq
    obtain ⟨u, hu, ru⟩ := rv.get hx
    have hel : e < s.heap.objs.size := Heap.lt_size he
    have hil : it < s.heap.objs.size := by obtain ⟨_, q, _⟩ := hit; exact Heap.lt_size q
    have D := draws_tuple (prog := X.prog) (w := X.w) (A := X.A.in1) (I.ok.hd hc) it a hai its.toArray
    have hlt : i < its.toArray.size := by
      have := (List.getElem?_eq_some_iff.mp hu).1
      simpa using this
    refine wpAny_pyNext_enum_itemD (D := D) he ⟨hit, show s.heap.IsTuple a its.toArray from p⟩ hlt hne (by simp [hne, Ne.symm hae]) fun x' h' tk hx' ho hit' hT hsz hk => ?_
    have ex : x' = u := by
      have h1 : its.toArray[i]? = some x' := hx'
      have h2 : its.toArray[i]? = some u := by simpa using hu
      rw [h2] at h1; exact (Option.some.inj h1).symm
    subst ex
    refine ⟨_, rfl, wpAny_letOwnedTupleGo_enum (s := { s with heap := h', toks := tk + 1 }) ho fun h'' he' sb => ?_⟩
    have hT2 : h''.get? s.heap.objs.size = some { cls := .type "tuple", data := .seq #[.int i tk, x'] } := (sb.2 _ (Nat.ne_of_gt hel)).trans hT
    have new : ObjOk X.prog X.w (upd H s.heap.objs.size (.tup [.int (i : Nat), x])) h'' s.heap.objs.size (.tup [.int (i : Nat), x]) :=
      ⟨by show 2 ≤ sizeLine; decide, [.int i tk, x'], .cons ⟨_, rfl⟩ (.cons ru .nil), ⟨_, hT2, rfl, _, rfl⟩⟩
    have I1 : Inv X pins σ (upd H s.heap.objs.size (.tup [.int (i : Nat), x])) { s with heap := h'', toks := tk + 1 } :=
      I.turnedNew (ch := [e, it]) (fun b ob hb q => (sb.2 b (fun z => hb (by simp [z]))).trans (hk b ob (fun z => hb (by simp [z])) (fun z => hb (by simp [z])) q)) hf (Nat.le_refl _) new
    refine ⟨.ref s.heap.objs.size, _, I1, rfl, ⟨_, x, rfl, I.hok.fresh (Nat.le_refl _), rfl, fun ys hy => by rw [I.tuple_inj hy hq]; exact hx⟩, ⟨⟨x', ?_⟩, hit'.1.at fun o q => (sb.2 it (Ne.symm hne)).trans q, hne⟩, fun b hb => ?_⟩
    · have e1 : ((i + 1 : Nat) : Int) = (i : Int) + 1 := by omega
      rw [e1]; exact he'
    · have hb' : b < s.heap.objs.size := by
        have e' : b = e ∨ b = it := by simpa using hb
        rcases e' with z | z
        · rw [z]; exact hel
        · rw [z]; exact hil
      rw [upd_ne (Nat.ne_of_lt hb')]
      exact (hf b hb).1
  done := by
    intro X hP hw hK hc i pins s σ H E I hf st hg
    subst hP hw hK
    obtain ⟨⟨old, he⟩, hit, hne⟩ := st
    obtain ⟨xs, hq, hx⟩ := hg
    obtain ⟨its, rv, p, hz⟩ := I.tuple hq
    obtain ⟨f0, f1, f2, f3, f4, f5⟩ := hf it (by simp)
    have hl := rv.length
    exact pyNext_enumT_end (I.ok.hd hc) he hit (show s.heap.IsTuple a its.toArray from p) (by simp; omega) fun h' eb => ⟨rfl, I.turned (t' := s.toks) (fun b o hb q => eb b o hb q) f0 f1 f3 f4 f5⟩
  self := fun A i s Q E st h => let ⟨⟨_, he⟩, _⟩ := st; wpAny_pyIter_enum he h

def iEnumT (K : PySem.W.Frag) (te : TE) : TI := fun σ H R => te σ H fun v H1 => ∃ a xs, v = .ref a ∧ SqT K H1 a xs ∧ R (IteT K a) H1
theorem pi_enumT {X : Cx} {e : Expr} {te : TE} {p pos tpos : Pos} {elts : List Expr} {kk : Nat} (hg : Gl X "enumerate") (hm : X.mg "enumerate" = none) (he0 : PE X e te) (hs : starEach [e] X.env = (false, eval e X.env) :: starEach [] X.env := by rfl) :
    PI X (.Tuple elts kk tpos) (.Call (.Name "enumerate" p) [e] [] pos) (iEnumT X.K te) := by
  refine ⟨fun pins s σ H R I h => ?_⟩
  have ha : PA X [e] (tCons te tNil) := pa_cons he0 pa_nil hs
  refine Call_ (ld_blt I hg hm boot_enumerate (PyProof.Rows.callWith_type1 (thn (ha.run pos pins s σ H (fun vs H1 => ∃ v, vs = [v] ∧ ∃ a xs, v = .ref a ∧ SqT X.K H1 a xs ∧ R (IteT X.K a) H1) I ?_) fun us s1 ⟨vs, H1, I1, r1, q1⟩ => ?_) (hs.trans rfl) rfl))
  · show te σ H fun x H1 => ∃ v, [x] = [v] ∧ ∃ a xs, v = .ref a ∧ SqT X.K H1 a xs ∧ R (IteT X.K a) H1
    have e : (fun x H1 => ∃ v, [x] = [v] ∧ ∃ a xs, v = V.ref a ∧ SqT X.K H1 a xs ∧ R (IteT X.K a) H1) = fun x H1 => ∃ a xs, x = V.ref a ∧ SqT X.K H1 a xs ∧ R (IteT X.K a) H1 := by
      funext x H1
      apply propext
      constructor
      · rintro ⟨v, ev, h⟩; cases ev; exact h
      · intro h; exact ⟨x, rfl, h⟩
    rw [e]; exact h
  obtain ⟨v, ev, a, xs, ex, hq, q⟩ := q1
  subst ev ex
  cases r1 with
  | cons r rr =>
    cases rr
    cases r
    obtain ⟨its, rv, p', hz⟩ := I1.tuple hq
    have hal : a < s1.heap.objs.size := by obtain ⟨_, q, _⟩ := p'; exact Heap.lt_size q
    refine call_enumerate_tuple (show s1.heap.IsTuple a its.toArray from p') fun h' he hit hsz hk => wpAny_pyIter_enum he ?_
    have I2 : Inv X pins σ H1 { s1 with heap := h' } := I1.kept (t' := s1.toks) hk
    refine ⟨s1.heap.objs.size + 1, [s1.heap.objs.size + 1, s1.heap.objs.size], _, _, H1, rfl, I2, turn_enumT a (s1.heap.objs.size + 1) s1.heap.objs.size (Nat.ne_of_lt hal) (Nat.ne_of_lt (Nat.lt_succ_of_lt hal)), ⟨⟨.none, he⟩, hit, Nat.succ_ne_self _⟩, fun b hb => ?_, q⟩
    have e' : b = s1.heap.objs.size + 1 ∨ b = s1.heap.objs.size := by simpa using hb
    have hle : s1.heap.objs.size ≤ b := by
      rcases e' with z | z
      · rw [z]; exact Nat.le_add_right _ _
      · rw [z]; exact Nat.le_refl _
    exact I1.fpOk hle (I1.hok.fresh hle)
/-- the pairs (place, item) -/
def pairsOf (ds : List D) : List D := (List.range ds.length).map fun i => .tup [.int (i : Nat), ds.getD i .non]
theorem pairs_len (ds : List D) : (pairsOf ds).length = ds.length := by simp [pairsOf]
theorem walks_enumT {K : PySem.W.Frag} {m : Ad} {H : Hp} {a : Addr} {ds : List D} {xs : List V} (h : SqT K (hid m H) a xs) (r : RRL K H m ds xs) : Walks K (IteT K a) m H (pairsOf ds) where
  go := fun i m' H' c' l C hi => by
    rw [pairs_len] at hi
    obtain ⟨d, x, _, h2, _⟩ := RL.at r hi
    exact ⟨xs, x, ex_t (l.ex.trans (ex_hid m' H')) h, h2⟩
  stop := fun i m' H' c' l C hi => ⟨xs, ex_t (l.ex.trans (ex_hid m' H')) h, by rw [rlen r]; rw [pairs_len] at hi; exact hi⟩
  yld := fun i m' H' c' x H2 l C hi ⟨T, z, ex, hT, eH, y⟩ => by
    rw [pairs_len] at hi
    subst ex eH
    obtain ⟨d, u, h1, h2, h3⟩ := RL.at r hi
    have := y xs (ex_t (l.ex.trans (ex_hid m' _)) h)
    rw [h2] at this; cases this
    have L2 := Le.new (o := .tup [.int (i : Nat), z]) hT C
    refine ⟨.tup [.int (i : Nat), d], ?_, C.new hT, L2, T, [.int (i : Nat), z], rfl, .inl (.inl (new_at hT C)), ⟨_, _, rfl, rfl, _, _, rfl, L2.r (l.r h3), rfl⟩⟩
    unfold pairsOf
    rw [List.getElem?_map, List.getElem?_range hi]
    show some (D.tup [.int (i : Nat), ds.getD i .non]) = _
    rw [List.getD_eq_getElem?_getD, h1]; rfl
def dEnumT (te : TD) : TDs := fun ρ c Φ => te ρ c fun x c1 => match x with
  | .tup ds => Φ (pairsOf ds) c1
  | _ => False
section
variable {X : Cx} {e : Expr} {te : TD} {p pos tpos : Pos} {elts : List Expr} {kk : Nat}
theorem pid_enumT (h : PD X e te) (hm : X.mg "enumerate" = none) (hg : Gl X "enumerate" := by rfl) (hs : starEach [e] X.env = (false, eval e X.env) :: starEach [] X.env := by rfl) :
    PID X (.Tuple elts kk tpos) (.Call (.Name "enumerate" p) [e] [] pos) (dEnumT te) := PI.imp (pi_enumT hg hm h hs) fun σ H R ⟨m, ρ, c, Φ, S, h, q⟩ =>
  ⟨m, ρ, c, _, S, h, fun d c1 v H1 m1 hx C1 R1 L1 => by
    cases d <;> first | exact hx.elim | skip
    obtain ⟨a, xs, rfl, h1, h2⟩ := R1
    exact ⟨a, xs, rfl, ex_t (ex_hid m1 H1) h1, q _ c1 _ H1 m1 hx C1 (walks_enumT h1 h2) L1⟩⟩
end
end Cw

namespace Cw
open PySem PySem.Spec PyProof.Rows L2

/-! ### {k: v for x in ..}, keys texts or ints, each once -/
/-- the cells behind a turn's part: the new dict the last -/
def innerD (n : Nat) (ks : List Key) (acc : List D) (y : D) (c : List Cell) (Q : List Cell → Prop) : Prop := c[n]? = some (.dct ks acc) ∧ match Nat.beq c.length (n + 1) with
  | true => Q (c.take n)
  | false => okCs (n + 1) (c.take (n + 1)) = true ∧ okD (n + 1) y = true ∧ Q (c.take n)
theorem innerD_ok {K : PySem.W.Frag} {H H4 : Hp} {m m4 : Ad} {c3 : List Cell} {n : Nat} {ks : List Key} {acc : List D} {y : D} {v : V} {Q : List Cell → Prop} (hn : m.ix.length = n + 1) (h : innerD n ks acc y c3 Q) (C4 : CR K H4 m4 c3) (r : RR K H4 m4 y v) (l4 : Le m H m4 H4) :
    CR K H4 m (c3.take n ++ [.dct ks acc]) ∧ RR K H4 m y v ∧ Le m H m H4 ∧ Q (c3.take n) ∧ (c3.take n).length = n := by
  obtain ⟨h1, h2⟩ := h
  have hlt := (List.getElem?_eq_some_iff.mp h1).1
  have ht : c3.take (n + 1) = c3.take n ++ [.dct ks acc] := by
    rw [List.take_add_one, h1]; rfl
  cases e : Nat.beq c3.length (n + 1) with
  | true =>
    rw [e] at h2
    have e1 := beq_t e
    have em := CR.same (by rw [hn]; exact e1) C4 l4
    subst em
    have : c3 = c3.take n ++ [.dct ks acc] := by rw [← ht, List.take_of_length_le (by omega)]
    rw [← this]
    exact ⟨C4, r, l4, h2, by rw [List.length_take]; omega⟩
  | false =>
    rw [e] at h2
    obtain ⟨a, b, c⟩ := CR.letgo hn C4 r l4 h2.1 h2.2.1
    rw [ht] at a
    exact ⟨a, b, c, h2.2.2, by rw [List.length_take]; omega⟩
def dcD (i : Nat) (tt : TDt) (tk tv : TD) : List D → List Key → List D → Env → List Cell → (List Key → List D → List Cell → Prop) → Prop
  | [], ks, acc, _, c, Φ => okCs c.length c = true ∧ okDs c.length acc = true ∧ Φ ks acc c
  | d :: ds, ks, acc, ρ, c, Φ => tt (ρ.set i (some d)) (c ++ [.dct ks acc]) fun b c2 => match b with
    | true => tk (ρ.set i (some d)) c2 fun y c3 => tv (ρ.set i (some d)) c3 fun z c4 => ∃ k, y = kD k ∧ k ∉ ks ∧ acc.length < sizeLine ∧ innerD c.length ks acc z c4 fun c5 => dcD i tt tk tv ds (ks ++ [k]) (acc ++ [z]) ρ c5 Φ
    | false => innerD c.length ks acc .non c2 fun c4 => dcD i tt tk tv ds ks acc ρ c4 Φ
def dDc (ti : TDs) (i : Nat) (tt : TDt) (tk tv : TD) : TD := fun ρ c Φ => ti ρ c fun ds c1 => dcD i tt tk tv ds [] [] ρ c1 fun ks xs c2 => Φ (.dct ks xs) c2
theorem kv_none {kvs : List (Key × V)} {k : Key} (h : k ∉ kvs.map (·.1)) : valV kvs k = none := by
  unfold valV
  rw [List.find?_eq_none.mpr]
  · rfl
  · intro p hp e
    have e := of_decide_eq_true e
    exact h (List.mem_map.mpr ⟨p, hp, e⟩)
theorem kD_v {K : PySem.W.Frag} {H : Hp} {m : Ad} {k : Key} {v : V} (h : RR K H m (kD k) v) : v = kV k := by
  cases k <;> exact h
theorem dc_walk {K : PySem.W.Frag} {J : It} {m : Ad} {H1 : Hp} {ds : List D} {σ : L2.St} {ρ : Env} {c : List Cell} {i : Nat} {tt : TDt} {tk tv : TD} {Φ : List Key → List D → List Cell → Prop} {Qd : Addr → Hp → Prop} (wk : Walks K J m H1 ds) (S : SR K σ H1 m ρ c) (h : dcD i tt tk tv ds [] [] ρ c Φ)
    (q : ∀ p ks xs c' H', Φ ks xs c' → CR K H' m c' → RR K H' m (.dct ks xs) (.ref p) → Le m H1 m H' → Qd p H') : ∀ p, H1 p = none → ∃ W : Nat → Nat → Hp → Prop, (∃ mm, W 0 mm (upd H1 p (.dK []))) ∧ ∀ j mm H, W j mm H →
      (J.stop j H ∧ Qd p H) ∨ (J.go j H ∧ ∃ Nx : Hp → Prop, (∀ H', Nx H' → ∃ m', m' < mm ∧ W (j + 1) m' H') ∧ ∀ x H', J.yld j H x H' → gName i x (wipe σ [i]) H' fun σ2 H2 => wipe σ2 [i] = wipe σ [i] ∧ liftT K tt σ2 H2 fun b H3 =>
        if b = true then lift K tk σ2 H3 fun y H4 => lift K tv σ2 H4 fun z H5 => ∃ kvs k, y = kV k ∧ H5 p = some (.dK kvs) ∧ kvs.length < sizeLine ∧ Nx (upd H5 p (.dK (putK kvs k z))) else Nx H3) := by
  intro p hp
  have z0 := cell_new (ce := .dct [] []) (o := .dK []) S.cr hp ⟨[], upd_same, rfl, rfl⟩
  refine ⟨fun j mm H => mm = ds.length - j ∧ j ≤ ds.length ∧ ∃ c' ks acc, c'.length = c.length ∧ CR K H (m.push p) (c' ++ [.dct ks acc]) ∧ Le m H1 (m.push p) H ∧ dcD i tt tk tv (ds.drop j) ks acc ρ c' Φ,
    ⟨ds.length, by simp, Nat.zero_le _, c, [], [], rfl, z0.1, z0.2.1, by simpa using h⟩, ?_⟩
  rintro j mm H ⟨rfl, hj, c', ks, acc, hl, C, l, hf⟩
  by_cases hlt : j < ds.length
  · refine .inr ⟨wk.go j (m.push p) H _ l C hlt, fun H' => ∃ c' ks acc, c'.length = c.length ∧ CR K H' (m.push p) (c' ++ [.dct ks acc]) ∧ Le m H1 (m.push p) H' ∧ dcD i tt tk tv (ds.drop (j + 1)) ks acc ρ c' Φ, fun H' w => ⟨ds.length - (j + 1), by omega, rfl, hlt, w⟩, fun x H2 y => ?_⟩
    obtain ⟨d, hd, C2, l2, rx⟩ := wk.yld j (m.push p) H _ x H2 l C hlt y
    have e : ds.drop j = d :: ds.drop (j + 1) := by
      rw [List.drop_eq_getElem_cons hlt]
      congr 1
      have := List.getElem?_eq_getElem hlt
      rw [hd] at this
      exact (Option.some.inj this).symm
    rw [e] at hf
    have L2 := l.trans l2
    have S2 : SR K ((wipe σ [i]).set i (some x)) H2 (m.push p) (ρ.set i (some d)) (c' ++ [.dct ks acc]) := (S.step L2 C2).blk rx
    refine ⟨by rw [wipe1, wipe1, List.set_set, List.set_set], m.push p, _, _, _, S2, hf, fun b c2 H3 m3 hb C3 l3 => ?_⟩
    have hmn : (m.push p).ix.length = c'.length + 1 := by
      have := C2.len
      simp at this
      exact this
    cases b with
    | false =>
      dsimp only
      rw [if_neg (by decide)]
      obtain ⟨z1, _, z2, z3, z4⟩ := innerD_ok (v := .non) hmn hb C3 rfl l3
      exact ⟨c2.take c'.length, ks, acc, by rw [z4, hl], z1, L2.trans z2, z3⟩
    | true =>
      dsimp only
      rw [if_pos rfl]
      refine ⟨m3, _, c2, _, S2.step l3 C3, hb, fun y c3 v H4 m4 hy C4 R4 l4 => ⟨m4, _, c3, _, S2.step (l3.trans l4) C4, hy, fun z c4 v5 H5 m5 hz C5 R5 l5 => ?_⟩⟩
      obtain ⟨k, ek, hk, hsz, hin⟩ := hz
      subst ek
      have ev := kD_v R4
      obtain ⟨z1, z5, z2, z3, z4⟩ := innerD_ok hmn hin C5 R5 ((l3.trans l4).trans l5)
      obtain ⟨a, h5, kvs, h6, h7, h8⟩ := z1.at_ c'.length (.dct ks acc) (by rw [List.getElem?_append_right (by omega), z4]; simp)
      have last : (m.push p).ix[c'.length]? = some p := by
        show (m.ix ++ [p])[c'.length]? = some p
        rw [hl, ← S.cr.len]; simp
      rw [last] at h5; cases h5
      have hkl : kvs.length = acc.length := by have := rlen h8; rw [List.length_map] at this; exact this
      refine ⟨kvs, k, ev, h6, by rw [hkl]; exact hsz, ?_⟩
      have hm : p ∈ (m.push p).ix := List.mem_of_getElem? last
      have hput : putK kvs k v5 = kvs ++ [(k, v5)] := putK_new v5 (kv_none (by rw [h7]; exact hk))
      rw [hput]
      have z := cell_put (o := .dK (kvs ++ [(k, v5)])) (ce := .dct (ks ++ [k]) (acc ++ [z])) z1 last ⟨_, upd_same, by rw [List.map_append, h7]; rfl, by
        show RL _ _ (hid (m.push p) _) _ _
        rw [hid_mut hm, List.map_append]
        exact RL.append h8 ⟨v5, [], rfl, z5, rfl⟩⟩
      have ec : ∀ z', (c4.take c'.length ++ [Cell.dct ks acc]).set c'.length (.dct (ks ++ [k]) (acc ++ [z'])) = c4.take c'.length ++ [.dct (ks ++ [k]) (acc ++ [z'])] := fun z' => by
        rw [List.set_append_right _ _ (by omega), z4]; simp
      rw [ec] at z
      exact ⟨c4.take c'.length, ks ++ [k], _, by rw [z4, hl], z.1, (L2.trans z2).trans z.2, z3⟩
  · have ej : j = ds.length := by omega
    subst ej
    rw [List.drop_length] at hf
    obtain ⟨h1, h2, h3⟩ := hf
    obtain ⟨C', _, ⟨kvs, h4, h6, h5⟩, hp1, hp2⟩ := C.pop h1
    refine .inl ⟨wk.stop _ (m.push p) H _ l C (Nat.le_refl _), q p ks acc c' H h3 C' ⟨p, kvs, rfl, .inl (by rw [hid_of ⟨hp1, hp2⟩]; exact h4), h6, RL.low ex_pop (low_push C'.len) acc _ h2 h5⟩ ⟨fun _ _ e => e, l.ex.trans ex_pop, rfl, l.hk' ex_pop, fun _ h => .inl h, l.al⟩⟩
section
variable {X : Cx} {iter kx vx : Expr} {tk tv : TD} {tt : TDt} {pos pp tp : Pos} {ti : TDs} {ifs : List Expr} {scope : Scope} {x : Str} {i : Nat}
theorem pd_dc (hc : X.calm = true) (hN : X.N.Nodup) (hi : PID X (.Name x tp) iter ti) (ok : blkC X.N X.env.scope scope [(x, i)] = true)
    (hg : ∀ (s : Shared) (H : Hp) (C : Addr) (cl : List (Str × Addr)) (fp : List Addr), PG (X.blk s H scope (compEnvC scope cl C X.env) fp) (.Name x tp) (gName i))
    (ht : ∀ (s : Shared) (H : Hp) (C : Addr) (cl : List (Str × Addr)) (fp : List Addr), PTD (X.blk s H scope (compEnvC scope cl C X.env) fp) ifs tt)
    (hk : ∀ (s : Shared) (H : Hp) (C : Addr) (cl : List (Str × Addr)) (fp : List Addr), PD (X.blk s H scope (compEnvC scope cl C X.env) fp) kx tk)
    (he : ∀ (s : Shared) (H : Hp) (C : Addr) (cl : List (Str × Addr)) (fp : List Addr), PD (X.blk s H scope (compEnvC scope cl C X.env) fp) vx tv) (hs : ∀ x, foldedSetIterable iter X.env x = pure x := by intro _; rfl) :
    PD X (.DictComp kx vx [⟨.Name x tp, iter, ifs, 0⟩] scope pos) (dDc ti i tt tk tv) :=
  PE.imp (pe_dc (own := [(x, i)]) hc hN hi (blkOk_by ok) hg ht hk he hs) fun σ H Q ⟨m, ρ, c, Φ, S, h, q⟩ =>
    ⟨m, ρ, c, _, S, h, fun ds c1 J H1 m1 hx C1 wk L1 => dc_walk wk (S.step L1 C1) hx fun p ks xs c' H' h' C' R' l' => q _ c' _ H' m1 h' C' R' (L1.trans l')⟩
end

theorem innerD_same {c : List Cell} {ks : List Key} {acc : List D} {y : D} {Q : List Cell → Prop} (q : Q c) : innerD c.length ks acc y (c ++ [.dct ks acc]) Q := by
  refine ⟨by simp, ?_⟩
  have e : Nat.beq (c ++ [Cell.dct ks acc]).length (c.length + 1) = true := by
    rw [List.length_append]; exact Nat.beq_refl _
  rw [e]
  show Q _
  rw [List.take_left']
  · exact q
  · rfl
theorem dc_map {α : Type} {i : Nat} {tk tv : TD} {ρ : Env} {c : List Cell} {Φ : List Key → List D → List Cell → Prop} (d : α → D) (key : α → Key) (val : α → D) (hc : okCs c.length c = true) : ∀ (xs : List α) (ks : List Key) (acc : List D),
    (∀ x ∈ xs, okD c.length (val x) = true ∧ ∀ ks acc (Ψ : D → List Cell → Prop), (Ψ (kD (key x)) (c ++ [.dct ks acc]) → tk (ρ.set i (some (d x))) (c ++ [.dct ks acc]) Ψ) ∧ (Ψ (val x) (c ++ [.dct ks acc]) → tv (ρ.set i (some (d x))) (c ++ [.dct ks acc]) Ψ)) →
    (ks ++ xs.map key).Nodup → okDs c.length acc = true → acc.length + xs.length ≤ sizeLine → Φ (ks ++ xs.map key) (acc ++ xs.map val) c → dcD i dYes tk tv (xs.map d) ks acc ρ c Φ
  | [], ks, acc, _, _, h, _, q => ⟨hc, h, by simpa using q⟩
  | x :: xs, ks, acc, he, nd, h, hl, q => by
    have hl' : acc.length + (xs.length + 1) ≤ sizeLine := hl
    obtain ⟨hk, ht⟩ := he x List.mem_cons_self
    have nd' : (ks ++ key x :: xs.map key).Nodup := nd
    show tk _ _ _
    refine (ht ks acc _).1 ?_
    refine (ht ks acc _).2 ⟨key x, rfl, fun z => ?_, by omega, innerD_same ?_⟩
    · rw [List.nodup_append] at nd'
      exact nd'.2.2 _ z _ List.mem_cons_self rfl
    · refine dc_map d key val hc xs _ _ (fun y hy => he y (List.mem_cons_of_mem _ hy)) (by rw [List.append_assoc]; exact nd') (okDs_app h (okDs_one hk)) (by rw [List.length_append]; show acc.length + 1 + xs.length ≤ _; omega) ?_
      rw [List.append_assoc, List.append_assoc]
      exact q
/-- y = {k: v for x in ..} -/
theorem sw_trueD {kx vx : Expr} {gs : List Comprehension} {scope : Scope} {pos py : Pos} {y : Str} {l : Nat} {env : PySem.Env} (hk : env.scope.kind = .function) (hy : env.scope.names.lookup y = some .local) (hl : (py.line == pos.line) = true)
    (ha : (scope.names.any fun (n, k) => n == y && (k == .local || k == .cell)) = false) : swapsWith (.DictComp kx vx gs scope pos) (some (.Name y py)) l env = pure true := by
  have ky : env.kindOf y = some .local := hy
  have hb : env.blockKind = .function := by unfold PySem.Env.blockKind; rw [hk]; rfl
  unfold swapsWith
  simp only [hb, ky, ha, Expr.pos, hl]
  rfl
theorem ps_setDc {X : Cx} {i : Nat} {y : Str} {py : Pos} {kx vx tg iter : Expr} {ifs : List Expr} {scope : Scope} {own : List (Str × Nat)} {pos spos : Pos} {wi : TI} {g : TG} {tt : TT} {tk tv : TE} (hc : X.calm = true) (hN : X.N.Nodup) (hy : X.N[i]? = some y) (hyl : X.env.scope.names.lookup y = some .local)
    (hsw : swapsWith (.DictComp kx vx [⟨tg, iter, ifs, 0⟩] scope pos) (some (.Name y py)) spos.line X.env = pure true) (hi : PI X tg iter wi) (ok : BlkOk X.N X.env.scope scope own)
    (hg : ∀ (s : Shared) (H : Hp) (C : Addr) (cl : List (Str × Addr)) (fp : List Addr), PG (X.blk s H scope (compEnvC scope cl C X.env) fp) tg g) (ht : ∀ (s : Shared) (H : Hp) (C : Addr) (cl : List (Str × Addr)) (fp : List Addr), PTs (X.blk s H scope (compEnvC scope cl C X.env) fp) ifs tt)
    (hk : ∀ (s : Shared) (H : Hp) (C : Addr) (cl : List (Str × Addr)) (fp : List Addr), PE (X.blk s H scope (compEnvC scope cl C X.env) fp) kx tk)
    (he : ∀ (s : Shared) (H : Hp) (C : Addr) (cl : List (Str × Addr)) (fp : List Addr), PE (X.blk s H scope (compEnvC scope cl C X.env) fp) vx tv) (hs : ∀ x, foldedSetIterable iter X.env x = pure x := by intro _; rfl) :
    PS X (.Assign [.Name y py] (.DictComp kx vx [⟨tg, iter, ifs, 0⟩] scope pos) spos) (tAsg (tDc wi g tt tk tv (own.map (·.2))) (gName i)) := by
  refine ⟨fun pins s σ H D I h => ?_⟩
  rw [exec_Assign_Name_used _ _ _ _ hsw]
  refine wpAny_bind (wpAny_standAt (wpAny_bind ?_))
  show wpAny _ X.A (do let _ ← comprehension (.DictComp kx vx [⟨tg, iter, ifs, 0⟩] scope pos) scope X.env (firstIterPos [⟨tg, iter, ifs, 0⟩] pos) newDict false (eval iter X.env) (some (assign (.Name y py) X.env))) _ _ s
  have h : tDc wi g tt tk tv (own.map (·.2)) σ H (fun x H1 => gName i x σ H1 D.nx) := h
  refine wpAny_bind (thn (dc_core (Qf := fun _ s' => SP X pins D .next s') hc hN I hi ok hg ht hk he hs h fun L C s' m H' I' q hn f => ?_) fun _ s' hq => wpAny_pure (wpAny_pure hq))
  show wpAny _ _ (assign (.Name y py) X.env (.ref L)) _ _ _
  refine wpAny_assign_Name (store_ok2 (v := V.ref L) I' hN hy (.inl hyl) rfl (fun s2 I2 ⟨a, sb, ha⟩ => ?_) (.inr hyl))
  obtain ⟨f0, f1, f2, f3, f4, f5⟩ := f
  have haC : C ≠ a := by
    rcases ha with z | z
    · rw [z]; exact f1
    · exact fun e => f4 y a z e.symm
  refine ⟨m, hn.sameBut sb haC, fun h3 sb3 => ?_⟩
  exact ⟨_, H', I2.turned (t' := s2.toks) (fun b o hb e => (sb3.2 b hb).trans e) f0 f1 f3 f4 f5, q⟩
section
variable {X : Cx} {iter kx vx : Expr} {tk tv : TD} {tt : TDt} {pos pp tp : Pos} {ti : TDs} {ifs : List Expr} {scope : Scope} {x y : Str} {i j : Nat}
theorem psd_setDc {spos py : Pos} (hc : X.calm = true) (hN : X.N.Nodup) (hy : X.N[j]? = some y) (hyl : X.env.scope.names.lookup y = some .local)
    (hsw : swapsWith (.DictComp kx vx [⟨.Name x tp, iter, ifs, 0⟩] scope pos) (some (.Name y py)) spos.line X.env = pure true)
    (hi : PID X (.Name x tp) iter ti) (ok : blkC X.N X.env.scope scope [(x, i)] = true)
    (hg : ∀ (s : Shared) (H : Hp) (C : Addr) (cl : List (Str × Addr)) (fp : List Addr), PG (X.blk s H scope (compEnvC scope cl C X.env) fp) (.Name x tp) (gName i))
    (ht : ∀ (s : Shared) (H : Hp) (C : Addr) (cl : List (Str × Addr)) (fp : List Addr), PTD (X.blk s H scope (compEnvC scope cl C X.env) fp) ifs tt)
    (hk : ∀ (s : Shared) (H : Hp) (C : Addr) (cl : List (Str × Addr)) (fp : List Addr), PD (X.blk s H scope (compEnvC scope cl C X.env) fp) kx tk)
    (he : ∀ (s : Shared) (H : Hp) (C : Addr) (cl : List (Str × Addr)) (fp : List Addr), PD (X.blk s H scope (compEnvC scope cl C X.env) fp) vx tv) (hs : ∀ x, foldedSetIterable iter X.env x = pure x := by intro _; rfl) :
    PSD X (.Assign [.Name y py] (.DictComp kx vx [⟨.Name x tp, iter, ifs, 0⟩] scope pos) spos) (dSet j (dDc ti i tt tk tv)) :=
  PS.imp (ps_setDc (i := j) (own := [(x, i)]) hc hN hy hyl hsw hi (blkOk_by ok) hg ht hk he hs) fun Dn σ H ⟨m, ρ, c, De, S, h, n, r, b, k⟩ =>
    ⟨m, ρ, c, _, S, h, fun ds c1 J H1 m1 hx C1 wk L1 => dc_walk wk (S.step L1 C1) hx fun p ks xs c' H' h' C' R' l' => n _ H' m1 _ c' h' ((S.step (L1.trans l') C').set R') (L1.trans l')⟩
end

/-! ### d[k] -/
def lookD : List Key → List D → Key → Option D
  | k :: ks, d :: ds, q => if k = q then some d else lookD ks ds q
  | _, _, _ => none
theorem look_val {K : PySem.W.Frag} {m : List Addr} {H : Hp} : ∀ {kvs : List (Key × V)} {ds : List D} {q : Key} {d : D}, RL K m H ds (kvs.map (·.2)) → lookD (kvs.map (·.1)) ds q = some d → ∃ v, valV kvs q = some v ∧ R K m H d v
  | [], _, _, _, _, e => by cases e
  | (k, w) :: kvs, [], _, _, _, e => by cases e
  | (k, w) :: kvs, d :: ds, q, d', ⟨x, r, e1, h1, h2⟩, e => by
    cases e1
    have e : (if k = q then some d else lookD (kvs.map (·.1)) ds q) = some d' := e
    by_cases h : k = q
    · rw [if_pos h] at e; cases e
      exact ⟨w, by unfold valV; rw [List.find?_cons_of_pos (by simpa using h)]; rfl, h1⟩
    · rw [if_neg h] at e
      obtain ⟨v, h3, h4⟩ := look_val h2 e
      exact ⟨v, by
        have : valV ((k, w) :: kvs) q = valV kvs q := by
          unfold valV; rw [List.find?_cons_of_neg (by simpa using h)]
        rw [this]; exact h3, h4⟩
def dDGet (td ty : TD) : TD := fun ρ c Φ => td ρ c fun x c1 => ty ρ c1 fun y c2 => ∃ ks ds k d, vw c2 x = .dct ks ds ∧ y = kD k ∧ lookD ks ds k = some d ∧ Φ d c2
section
variable {X : Cx} {o i : Expr} {pos : Pos} {td ty : TD} {k : Nat}
theorem pd_dget (hr : Room k X.A) (hd : PD X o td) (hy : PD X i ty) (hs : NoSl i := by intro _ _; rfl) : PD X (.Subscript o i pos) (dDGet td ty) :=
  PE.imp (pe_dget (by have := hr.un; omega) hd hy hs) fun σ H Q ⟨m, ρ, c, Φ, S, h, q⟩ =>
    ⟨m, ρ, c, _, S, h, fun x c1 u H1 m1 hx C1 R1 L1 => ⟨m1, ρ, c1, _, S.step L1 C1, hx, fun y c2 v H2 m2 hy C2 R2 L2 => by
      obtain ⟨ks, ds, k, d, e1, e2, e3, hΦ⟩ := hy
      subst e2
      have ev := kD_v R2
      subst ev
      have w := W.vw C2 (L2.r R1)
      rw [e1] at w
      obtain ⟨a, kvs, rfl, h1, h2, h3⟩ := w
      subst h2
      obtain ⟨w, h4, h5⟩ := look_val h3 e3
      exact ⟨a, w, rfl, by rw [← h4]; exact .inl ⟨kvs, k, h1, rfl, rfl⟩, q _ c2 _ H2 m2 hΦ C2 h5 (L1.trans L2)⟩⟩⟩
end
end Cw

namespace Cw
open PySem PySem.Spec PyProof.Rows L2
section
variable {X : Cx}
def rReprA (K : PySem.W.Frag) : List V → Hp → VK → Prop := fun xs H Q => ∃ v d, xs = [v] ∧ Dp K H v d ∧ Showy d ∧ Q (.str d.shown) H
theorem call_reprA (hg : X.A.guards = some []) (hu : X.A.units + 64 < cLine) : CallR X (.builtin "repr") (rReprA X.K) := by
  intro pins s σ H xs us Q I r h
  obtain ⟨v, d, rfl, hd, S, q⟩ := h
  cases r with
  | cons r rr =>
    cases rr
    cases d with
    | none =>
      cases hd; cases r
      exact PySem.P.repr_of_none ⟨.str "None", H, I.tok _, ⟨_, rfl⟩, by have := q; rw [PyData.shown_none] at this; exact this⟩
    | bool b =>
      cases hd; cases r
      exact PySem.P.repr_of_bool ⟨.str (if b then "True" else "False"), H, I.tok _, ⟨_, by cases b <;> rfl⟩, by have := q; rw [PyData.shown_bool] at this; exact this⟩
    | int i =>
      cases hd
      obtain ⟨t, rfl⟩ := r
      have hs : i.natAbs.log2 < 1920 := of_decide_eq_true S.sh
      exact PySem.P.repr_of_int hs ⟨.str (toString i), H, I.tok _, ⟨_, rfl⟩, by have := q; rw [PyData.shown_int] at this; exact this⟩
    | str x =>
      cases hd
      obtain ⟨t, rfl⟩ := r
      have hz := S.sz
      rw [PyData.shown_str] at hz
      exact PySem.P.repr_of_str ⟨.str (reprText x), H, I.tok _, ⟨_, rfl⟩, by have := q; rw [PyData.shown_str] at this; exact this⟩ hz
    | list ds =>
      obtain ⟨as, w1⟩ := Dp.reads I (.list ds) v _ hd r
      cases hd
      cases r
      have := S.dp
      exact PySem.repr_of_reads' (h₀ := s.heap) w1 S.sh (fun z => by rw [S.nd] at z; cases z) hg (by omega) (fun _ _ e => e) (fun h' u tk k => ⟨.str (PyData.list ds).shown, H, I.kept k, ⟨u, rfl⟩, q⟩) S.sz
    | tuple ds =>
      obtain ⟨as, w1⟩ := Dp.reads I (.tuple ds) v _ hd r
      cases hd
      cases r
      have := S.dp
      exact PySem.repr_of_reads' (h₀ := s.heap) w1 S.sh (fun z => by rw [S.nd] at z; cases z) hg (by omega) (fun _ _ e => e) (fun h' u tk k => ⟨.str (PyData.tuple ds).shown, H, I.kept k, ⟨u, rfl⟩, q⟩) S.sz
    | dict _ => cases hd
end
def fReprA : F1 := fun x c Φ => ∃ p, D.py x = some p ∧ Showy p ∧ Φ (.str p.shown) c
theorem l1_reprA {K : PySem.W.Frag} : L1f K fReprA (fun u H Q => rReprA K [u] H Q) := by
  intro x c Φ h H m u C r Q q
  obtain ⟨p, h1, h2, h3⟩ := h
  exact ⟨u, p, rfl, W.dp r h1, h2, q.pure C h3 rfl⟩
section
variable {X : Cx} {e : Expr} {ta : TD} {pos pp : Pos}
theorem pd_reprA (hgu : X.A.guards = some []) (hu : X.A.units + 64 < cLine) (ha : PD X e ta) (hm : X.mg "repr" = none) (hg : Gl X "repr" := by rfl) (he : starEach [e] X.env = (false, eval e X.env) :: starEach [] X.env := by rfl) (hpl : (backTo pos (starEach [] X.env)).any (·.1) = false := by rfl) :
    PD X (.Call (.Name "repr" pp) [e] [] pos) (dCB (un1 fReprA) (dCons ta dNil)) := pd_B1 (call_reprA hgu hu) l1_reprA (by decide +kernel) (by decide) (by decide) ha hg hm he hpl
end
/-! ### a + b, lists, as a new mutable list; list * int -/
def dAddM (ta tb : TD) : TD := fun ρ c Φ => ta ρ c fun x c1 => tb ρ c1 fun y c2 => ∃ xs ys, vw c2 x = .lst xs ∧ vw c2 y = .lst ys ∧ xs.length + ys.length ≤ sizeLine ∧ Φ (.cell c2.length) (c2 ++ [.lst (xs ++ ys)])
section
variable {X : Cx} {a b : Expr} {ta tb : TD} {pos : Pos}
theorem pd_addM (ha : PD X a ta) (hb : PD X b tb) : PD X (.BinOp a .Add b pos) (dAddM ta tb) := PE.imp (pe_op op_cat ha hb) fun σ H Q ⟨m, ρ, c, Φ, S, h, q⟩ =>
  ⟨m, ρ, c, _, S, h, fun x c1 u H1 m1 hx C1 R1 L1 => ⟨m1, ρ, c1, _, S.step L1 C1, hx, fun y c2 v H2 m2 hy C2 R2 L2 => by
    obtain ⟨xs, ys, e1, e2, hl, hΦ⟩ := hy
    have w1 := W.vw C2 (L2.r R1)
    have w2 := W.vw C2 R2
    rw [e1] at w1
    rw [e2] at w2
    obtain ⟨p1, us, rfl, h1, r1⟩ := w1
    obtain ⟨p2, ws, rfl, h2, r2⟩ := w2
    refine ⟨p1, p2, us, ws, rfl, rfl, h1, h2, by rw [rlen r1, rlen r2]; exact hl, fun p hp => ?_⟩
    have z := cell_new (ce := .lst (xs ++ ys)) (o := .lst (us ++ ws)) C2 hp ⟨us ++ ws, upd_same, by
      show RL _ _ (hid (m2.push p) _) _ _
      rw [hid_app hp]; exact RL.append (RL.mono (Ex.refl _) push_pre _ _ r1) (RL.mono (Ex.refl _) push_pre _ _ r2)⟩
    exact q _ _ _ _ _ hΦ z.1 z.2.2 ((L1.trans L2).trans z.2.1)⟩⟩
def fMulL : F2 := fun x y c Φ => match x, y with
  | .lst ds, .int n => -(2 ^ 63) ≤ n ∧ n < 2 ^ 63 ∧ ds.length * n.toNat ≤ sizeLine ∧ Φ (.lst (List.replicate n.toNat ds).flatten) c
  | _, _ => False
theorem rl_rep {K : PySem.W.Frag} {m : List Addr} {H : Hp} {ds : List D} {xs : List V} (h : RL K m H ds xs) : ∀ n : Nat, RL K m H (List.replicate n ds).flatten (List.replicate n xs).flatten
  | 0 => rfl
  | n + 1 => by rw [List.replicate_succ, List.replicate_succ, List.flatten_cons, List.flatten_cons]; exact RL.append h (rl_rep h n)
theorem pd_mulL (ha : PD X a ta) (hb : PD X b tb) : PD X (.BinOp a .Mult b pos) (dBin fMulL ta tb) := PE.imp (pe_op op_rep ha hb) fun σ H Q h => lift_bin (by
  intro x y c Φ h H m u v Cc r1 r2 Q k
  cases x <;> cases y <;> first | exact h.elim | skip
  obtain ⟨h1, h2, h3, h4⟩ := h
  obtain ⟨p, xs, rfl, hp, rx⟩ := r1
  cases r2
  exact ⟨p, _, xs, rfl, rfl, hp, h1, h2, by rw [rlen rx]; exact h3, fun t ht => KQ.newL (X := X) k Cc h4 (rl_rep rx _) ht⟩) h
end
/-! ### a def that knows of no repr around it, nothing mutable handed in -/
section
variable {X : Cx} {k np : Nat} {f : Addr} {fd : FuncData} {ps : List Str} {S : Pm} {E : XK} {x : Str} {p pos : Pos} {e : Expr} {es : List Expr} {tas : TDs}
theorem pd_callPG (F : FnG X.prog X.w X.K X.mg X.base k f fd ps (spD X.K 0 np S)) (hgu : X.A.guards = some []) (hr : Room k X.A) (hm : X.mg x = some (.ref f)) (hk : PySem.W.keepIn X.K (.ref f) = true) (hb : Binds X.K fd ps []) (hx : Passes CX0 X E)
    (ha : PDs X (e :: es) tas) (hg : Gl X x := by rfl) (hdb : (x == ("__debug__" : Str)) = false := by decide) (he : starEach (e :: es) X.env = (false, eval e X.env) :: starEach es X.env := by rfl) (hpl : (backTo pos (starEach es X.env)).any (·.1) = false := by rfl) :
    PD X (.Call (.Name x p) (e :: es) [] pos) (dCallP S np tas) := PE.imp (pe_callG F hgu hr hg hm hk hb hx ha hdb he hpl) fun σ H Q ⟨m, ρ, c, Φ, S', h, q⟩ =>
    ⟨m, ρ, c, _, S', h, fun ds c1 vs H1 m1 ⟨hl, hc⟩ C1 R1 L1 => by show spD _ _ _ _ (_ ++ []) _ _ _; rw [List.append_nil]; exact sp_pure C1 R1 hl hc (KQ.le (K := X.K) q L1)⟩
end
end Cw

namespace Cw
open PySem PySem.Spec PyProof.Rows L2
/-! ### tuple * int, also by 0 and 1 -/
def rMulT (K : PySem.W.Frag) : V → V → Hp → VK → Prop := fun x y H Q => ∃ l k xs, x = .ref l ∧ y = .int k ∧ SqT K H l xs ∧ xs ≠ [] ∧ 0 ≤ k ∧ k ≤ 1000 ∧ xs.length ≤ 1000 ∧ (k = 1 → Q (.ref l) H) ∧ (k ≠ 1 → ∀ p, H p = none → Q (.ref p) (upd H p (.tup (List.replicate k.toNat xs).flatten)))
theorem op_mulT {X : Cx} : OpR X (binaryOp .Mult) (rMulT X.K) := by
  intro pins s σ H x y v u Q I rx ry h
  obtain ⟨l, k, xs, rfl, rfl, hT, hne, h0, h1, hz, q1, q2⟩ := h
  by_cases h2 : 2 ≤ k
  · exact op_repT pins s σ H _ _ v u Q I rx ry ⟨l, k, xs, rfl, rfl, hT, hne, h2, h1, hz, q2 (by omega)⟩
  cases rx
  obtain ⟨t, rfl⟩ := ry
  obtain ⟨its, r, it, hs⟩ := Inv.tuple I hT
  have it' := it
  obtain ⟨⟨cls, dd, data, sl⟩, ho, hc, n, hd⟩ := it
  have hc : cls = _ := hc
  have hd : data = _ := hd
  subst hc
  subst hd
  have hty : s.TypeIs (.ref l) "tuple" := ⟨_, ho, rfl⟩
  refine wpAny_binaryOp_repeat_ref (T := "tuple") (U := "int") (by decide) hty (fun s' => typeIs_int _ _ _) noFill_tuple_mul F.fills_int_mul F.slot_int_rmul repeat_tuple F.slot_int_index.lookup ?_
  refine call_meets F.slot_int_rmul (typeIs_int _ _ _) F.entry_int_rmul (F.args_int_rmul_2 _ _) (int_rmul_tuple k t l its.toArray n dd sl) ⟨ho, rfl, hty, ?_⟩
  refine wpAny_call_entry F.slot_tuple_mul hty F.entry_tuple_mul ?_ (F.args_tuple_mul_2 _ _)
  have h01 : k = 0 ∨ k = 1 := by omega
  obtain ⟨y, ys, rfl⟩ : ∃ y ys, its = y :: ys := by
    cases its with
    | nil => exact absurd (by cases r; rfl) hne
    | cons y ys => exact ⟨y, ys, rfl⟩
  rcases h01 with rfl | rfl
  · refine wpAny_bind (m := asIndex _) (wpAny_pure ?_)
    refine wpAny_bind (m := Builtin.Tuple.tupleItemsOf _) (wpAny_tupleItemsOf ho rfl ?_)
    refine wpAny_bind (m := Builtin.Tuple.tupleExact #[]) (wpAny_newObj_type ?_)
    refine wpAny_pure ?_
    refine ⟨_, rfl, .ref s.heap.objs.size, upd H s.heap.objs.size (.tup []), I.laid (t' := s.toks) (fun b u h => Heap.get?_push_of_some _ h) (Nat.le_refl _) ?_, rfl, q2 (by decide) _ (I.hok.fresh (Nat.le_refl _))⟩
    exact ⟨Nat.zero_le _, [], .nil, IsTup.new _ _⟩
  · refine wpAny_bind (m := asIndex _) (wpAny_pure ?_)
    refine wpAny_bind (m := Builtin.Tuple.tupleItemsOf _) (wpAny_tupleItemsOf ho rfl ?_)
    refine wpAny_bind (m := Builtin.Tuple.tupleIsExact _) (wpAny_bind (wpAny_typeOf hty (wpAny_pure ?_)))
    refine wpAny_bind (m := rule _) (wpAny_rule ?_)
    exact wpAny_pure ⟨_, rfl, .ref l, H, I, rfl, q1 rfl⟩
/-! the reading -/
def fMulT : F2 := fun x y c Φ => match x, y with
  | .tup ds, .int n => ds ≠ [] ∧ 0 ≤ n ∧ n ≤ 1000 ∧ ds.length ≤ 1000 ∧ Φ (.tup (List.replicate n.toNat ds).flatten) c
  | _, _ => False
section
variable {X : Cx} {a b : Expr} {ta tb : TD} {pos : Pos}
theorem pd_mulT (ha : PD X a ta) (hb : PD X b tb) : PD X (.BinOp a .Mult b pos) (dBin fMulT ta tb) := PE.imp (pe_op op_mulT ha hb) fun σ H Q h => lift_bin (by
  intro x y c Φ h H m u v Cc r1 r2 Q k
  cases x <;> cases y <;> first | exact h.elim | skip
  obtain ⟨h1, h2, h3, h4, h5⟩ := h
  cases r2
  obtain ⟨p, xs, rfl, hp, rx⟩ := r1
  refine ⟨p, _, xs, rfl, rfl, ex_t (ex_hid m H) hp, fun z => h1 (by have := rlen rx; rw [z] at this; exact List.eq_nil_of_length_eq_zero this.symm), h2, h3, by rw [rlen rx]; exact h4, fun e => ?_, fun _ t ht => KQ.newT (X := X) k Cc h5 (rl_rep rx _) ht⟩
  subst e
  have z : (List.replicate (1 : Int).toNat ‹List D›).flatten = ‹List D› := by show ([_] : List (List D)).flatten = _; rw [List.flatten_cons]; exact List.append_nil _
  rw [z] at h5
  exact k.pure Cc h5 ⟨p, xs, rfl, hp, rx⟩) h
end
end Cw

namespace Cw
open PySem PySem.Spec PyProof.Rows L2

/-! ### a dict is locked, and unlocked -/
structure Exr (H H' : Hp) : Prop where
  rd : ∀ a u, (∀ od w, u ≠ .frz od w) → Rd H a u → Rd H' a u
  pl : ∀ a o, H a = some o → (∀ kvs, o ≠ .dK kvs) → (∀ od w, o ≠ .frz od w) → H' a = some o
theorem exr_t {K : PySem.W.Frag} {H H' : Hp} {a : Addr} {xs : List V} (e : Exr H H') (h : SqT K H a xs) : SqT K H' a xs := by
  rcases h with h | h
  · exact .inl (e.rd a _ (fun _ _ z => nomatch z) h)
  · exact .inr h
theorem exr_l {K : PySem.W.Frag} {H H' : Hp} {a : Addr} {xs : List V} (e : Exr H H') (h : SqL K H a xs) : SqL K H' a xs := by
  rcases h with h | h
  · exact .inl (e.rd a _ (fun _ _ z => nomatch z) h)
  · exact .inr h
section
variable {K : PySem.W.Frag} {m : List Addr} {H H' : Hp}
mutual
theorem R.mor (e : Exr H H') : ∀ (d : D) (v : V), R K m H d v → R K m H' d v
  | .non, _, h => h
  | .bl _, _, h => h
  | .int _, _, h => h
  | .str _, _, h => h
  | .tup ds, _, ⟨a, xs, e1, h1, h2⟩ => ⟨a, xs, e1, exr_t e h1, RL.mor e ds xs h2⟩
  | .lst ds, _, ⟨a, xs, e1, h1, h2⟩ => ⟨a, xs, e1, e.pl a _ h1 (fun _ z => nomatch z) (fun _ _ z => nomatch z), RL.mor e ds xs h2⟩
  | .fl ds, _, ⟨a, xs, e1, h1, h2⟩ => ⟨a, xs, e1, exr_l e h1, RL.mor e ds xs h2⟩
  | .cell k, _, ⟨a, h1, h2⟩ => ⟨a, h1, h2⟩
  | .ins _ _ ds, _, ⟨a, dx, fs, e1, h1, h2, h3⟩ => ⟨a, dx, fs, e1, e.pl a _ h1 (fun _ z => nomatch z) (fun _ _ z => nomatch z), h2, RL.mor e ds _ h3⟩
  | .dct _ ds, _, ⟨a, kvs, e1, h1, h2, h3⟩ => ⟨a, kvs, e1, e.rd a _ (fun _ _ z => nomatch z) h1, h2, RL.mor e ds _ h3⟩
  | .dcT _ ds, _, ⟨a, kvs, e1, h1, h2, h3⟩ => ⟨a, kvs, e1, e.pl a _ h1 (fun _ z => nomatch z) (fun _ _ z => nomatch z), h2, RL.mor e ds _ h3⟩
  | .exc _ dd _ _ ds, _, ⟨fs, e1, h1, h5, h6⟩ => ⟨fs, e1, e.pl dd _ h1 (fun _ z => nomatch z) (fun _ _ z => nomatch z), h5, RL.mor e ds _ h6⟩
  | .raw _, _, h => h
theorem RL.mor (e : Exr H H') : ∀ (ds : List D) (xs : List V), RL K m H ds xs → RL K m H' ds xs
  | [], _, h => h
  | d :: ds, _, ⟨x, r, e1, h1, h2⟩ => ⟨x, r, e1, R.mor e d x h1, RL.mor e ds r h2⟩
end
end
theorem exr_lock {H : Hp} {a : Addr} {od : Obj} {kvs : List (Key × V)} (h : H a = some (.dK kvs)) : Exr H (upd H a (.frz od (.dK kvs))) := by
  refine ⟨fun b u hu r => ?_, fun b o e hk hf => ?_⟩
  · by_cases hb : b = a
    · subst hb
      rcases r with r | ⟨o, r⟩
      · rw [h] at r; cases r
        exact .inr ⟨od, upd_same⟩
      · rw [h] at r; cases r
    · rcases r with r | ⟨o, r⟩
      · exact .inl (by rw [upd_ne hb]; exact r)
      · exact .inr ⟨o, by rw [upd_ne hb]; exact r⟩
  · by_cases hb : b = a
    · subst hb; rw [h] at e; cases e; exact absurd rfl (hk kvs)
    · rw [upd_ne hb]; exact e
theorem exr_unlock {H : Hp} {a : Addr} {od : Obj} {kvs : List (Key × V)} (h : H a = some (.frz od (.dK kvs))) : Exr H (upd H a (.dK kvs)) := by
  refine ⟨fun b u hu r => ?_, fun b o e hk hf => ?_⟩
  · by_cases hb : b = a
    · subst hb
      rcases r with r | ⟨o, r⟩
      · rw [h] at r; cases r; exact absurd rfl (hu od _)
      · rw [h] at r; cases r
        exact .inl upd_same
    · rcases r with r | ⟨o, r⟩
      · exact .inl (by rw [upd_ne hb]; exact r)
      · exact .inr ⟨o, by rw [upd_ne hb]; exact r⟩
  · by_cases hb : b = a
    · subst hb; rw [h] at e; cases e; exact absurd rfl (hf od _)
    · rw [upd_ne hb]; exact e
section
variable {K : PySem.W.Frag} {m m' : Ad} {H H' : Hp} {σ : L2.St} {ρ : Env} {c c' : List Cell} {a : Addr} {u : HO}
theorem exr_hid (ha : a ∉ m.ix ∧ a ∉ m.hd) (e : ∀ G : Hp, G a = hid m H a → Exr G (upd G a u)) : Exr (hid m H) (hid m (upd H a u)) := by
  rw [hid_upd ha]; exact e _ rfl
theorem TabK.mor {P : Addr} {q : Str} (t : TabK m H P q) (hP : P ≠ a) (e : Exr (hid m H) (hid m (upd H a u))) : TabK m (upd H a u) P q := by
  obtain ⟨ps, h1, h2, h3⟩ := t
  exact ⟨ps, by rw [upd_ne hP]; exact h1, h2, fun pos cv hc => let ⟨c, e1, e2⟩ := h3 pos cv hc; ⟨c, e1, e.pl c _ e2 (fun _ z => nomatch z) (fun _ _ z => nomatch z)⟩⟩
theorem CR.mor (C : CR K H m c) (ha : a ∉ m.ix ∧ a ∉ m.hd) (e : Exr (hid m H) (hid m (upd H a u))) : CR K (upd H a u) m c := by
  refine ⟨C.len, C.nd, fun k ce h => ?_, fun b hb => ?_, C.dj, fun q hq => ⟨(C.tk q hq).1, (C.tk q hq).2.mor (fun z => ha.2 (z ▸ (C.tk q hq).1)) e⟩⟩
  · obtain ⟨b, h1, h2⟩ := C.at_ k ce h
    have hb : b ≠ a := fun z => ha.1 (by rw [← z]; exact List.mem_of_getElem? h1)
    refine ⟨b, h1, ?_⟩
    cases ce with
    | lst ds => obtain ⟨xs, h3, h4⟩ := h2; exact ⟨xs, by rw [upd_ne hb]; exact h3, RL.mor e ds _ h4⟩
    | obj C' ns ds => obtain ⟨dx, fs, h3, h4, h5⟩ := h2; exact ⟨dx, fs, by rw [upd_ne hb]; exact h3, h4, RL.mor e ds _ h5⟩
    | dct ks ds => obtain ⟨kvs, h3, h4, h5⟩ := h2; exact ⟨kvs, by rw [upd_ne hb]; exact h3, h4, RL.mor e ds _ h5⟩
    | dcT ks ds => obtain ⟨kvs, h3, h4, h5⟩ := h2; exact ⟨kvs, by rw [upd_ne hb]; exact h3, h4, RL.mor e ds _ h5⟩
  · by_cases hb' : b = a
    · subst hb'; exact absurd hb ha.2
    · rw [upd_ne hb']; exact C.hs b hb
theorem SR.mor (S : SR K σ H m ρ c) (ha : a ∉ m.ix ∧ a ∉ m.hd) (e : Exr (hid m H) (hid m (upd H a u))) : SR K σ (upd H a u) m ρ c :=
  ⟨S.cr.mor ha e, S.len, fun i d h => let ⟨v, h1, h2⟩ := S.sl i d h; ⟨v, h1, R.mor e d v h2⟩⟩
end

/-! ### {k: v for x in d}, d a dict that stands -/
theorem walks_keys {K : PySem.W.Frag} {m : Ad} {H : Hp} {a : Addr} {od : Obj} {kvs : List (Key × V)} (h : hid m H a = some (.frz od (.dK kvs))) : Walks K (Itk a od kvs) m H ((kvs.map (·.1)).map kD) where
  go := fun i m' H' c' l C hi => ⟨(hid_some (l.ex a _ h)).2, by simpa using hi⟩
  stop := fun i m' H' c' l C hi => ⟨(hid_some (l.ex a _ h)).2, by simpa using hi⟩
  yld := fun i m' H' c' x H2 l C hi ⟨e, k, v, hk, hx⟩ => by
    subst e; subst hx
    refine ⟨kD k, ?_, C, Le.refl _ _, ?_⟩
    · rw [List.map_map, List.getElem?_map, hk]; rfl
    · cases k <;> rfl
def dDcK (i j : Nat) (tk tv : TD) : TD := fun ρ c Φ => ∃ ks ds, ρ[i]? = some (some (.dct ks ds)) ∧ dcD j dYes tk tv (ks.map kD) [] [] ρ c fun ls xs c2 => Φ (.dct ls xs) c2
section
variable {X : Cx} {kx vx : Expr} {tk tv : TD} {pos pp tp : Pos} {scope : Scope} {x y : Str} {i j : Nat}
theorem pd_dcK (hc : X.calm = true) (hN : X.N.Nodup) (ok : blkC X.N X.env.scope scope [(x, j)] = true)
    (hg : ∀ (s : Shared) (H : Hp) (C : Addr) (cl : List (Str × Addr)) (fp : List Addr), PG (X.blk s H scope (compEnvC scope cl C X.env) fp) (.Name x tp) (gName j))
    (hk : ∀ (s : Shared) (H : Hp) (C : Addr) (cl : List (Str × Addr)) (fp : List Addr), PD (X.blk s H scope (compEnvC scope cl C X.env) fp) kx tk)
    (he : ∀ (s : Shared) (H : Hp) (C : Addr) (cl : List (Str × Addr)) (fp : List Addr), PD (X.blk s H scope (compEnvC scope cl C X.env) fp) vx tv)
    (hy : X.N[i]? = some y := by rfl) (hv : Vis X.env.scope y := by first | exact Or.inl rfl | exact Or.inr (Or.inl rfl) | exact Or.inr (Or.inr rfl)) (hd : (y == ("__debug__" : Str)) = false := by decide)
    (hcd : (y == ("__classdict__" : Str)) = false := by decide) (hs : ∀ z, foldedSetIterable (.Name y pp) X.env z = pure z := by intro _; rfl) :
    PD X (.DictComp kx vx [⟨.Name x tp, .Name y pp, [], 0⟩] scope pos) (dDcK i j tk tv) := by
  have base := pe_dc (pos := pos) (own := [(x, j)]) (tt := liftT X.K dYes) (tk := lift X.K tk) (tv := lift X.K tv) hc hN (pi_keys (tg := .Name x tp) (pe_var (pos := pp) hy hv hd hcd)) (blkOk_by ok) hg (fun s H C cl fp => ptd_nil) hk he hs
  refine ⟨fun pins s σ H Q I ⟨m, ρ, c, Φ, S, ⟨ks, ds, e1, h⟩, q⟩ => ?_⟩
  obtain ⟨v, e2, a, kvs, rfl, h1, h2, h3⟩ := S.sl i _ e1
  subst h2
  rcases h1 with h1 | ⟨od, h1⟩
  · -- not locked yet
    have hna := (hid_some h1).1
    have hH := (hid_some h1).2
    refine (pe_lock base).run pins s σ H Q I ⟨a, .dK kvs, hH, trivial, fun od => ?_⟩
    have el : Exr (hid m H) (hid m (upd H a (.frz od (.dK kvs)))) := exr_hid hna fun G e => exr_lock (e.trans h1)
    have S1 := S.mor hna el
    have hl : hid m (upd H a (.frz od (.dK kvs))) a = some (.frz od (.dK kvs)) := by rw [hid_upd hna, upd_same]
    refine ⟨.ref a, e2, a, od, rfl, .inl ⟨kvs, upd_same, dc_walk (walks_keys hl) S1 h fun p ls xs c' H' h' C' R' l' => ?_⟩⟩
    have ha' := (hid_some (l'.ex a _ hl)).2
    have eu : Exr (hid m H') (hid m (upd H' a (.dK kvs))) := exr_hid hna fun G e => exr_unlock (e.trans (l'.ex a _ hl))
    refine ⟨ha', q (.dct ls xs) c' (.ref p) _ m h' (C'.mor hna eu) (R.mor eu _ _ R') ⟨fun _ _ e => e, fun b o e => ?_, rfl, fun b hb => ?_, fun _ h => .inl h, fun b hb => ?_⟩⟩
    · by_cases hb : b = a
      · subst hb; rw [h1] at e; cases e
        rw [hid_upd hna, upd_same]
      · rw [hid_upd hna, upd_ne hb]
        exact l'.ex b o (by rw [hid_upd hna, upd_ne hb]; exact e)
    · have hb' : b ≠ a := fun z => hna.2 (by rw [← z]; exact hb)
      rcases l'.hk b hb with z | ⟨⟨ps, ps', y1, y2⟩, y3⟩
      · exact .inl (by rw [upd_ne hb', z, upd_ne hb'])
      · exact .inr ⟨⟨ps, ps', by rw [upd_ne hb'] at y1; exact y1, by rw [upd_ne hb']; exact y2⟩, fun q t => (y3 q (t.mor hb' el)).mor hb' eu⟩
    · by_cases hb' : b = a
      · subst hb'; rw [upd_same] at hb; cases hb
      · rw [upd_ne hb'] at hb
        have := l'.al b hb
        rw [upd_ne hb'] at this; exact this
  · have hH := (hid_some h1).2
    refine base.run pins s σ H Q I ⟨.ref a, e2, a, od, rfl, .inl ⟨kvs, hH, dc_walk (walks_keys h1) S h fun p ls xs c' H' h' C' R' l' => q (.dct ls xs) c' (.ref p) H' m h' C' R' l'⟩⟩
end

/-! ### [e for a, b, .. in ..] -/
section
variable {α : Type}
def setAll : List Nat → List α → List (Option α) → List (Option α)
  | i :: is, x :: xs, ρ => setAll is xs (ρ.set i (some x))
  | _, _, ρ => ρ
theorem setAll_out {j : Nat} : ∀ {is : List Nat} {xs : List α} {ρ : List (Option α)}, j ∉ is → (setAll is xs ρ)[j]? = ρ[j]?
  | [], _, _, _ => rfl
  | _ :: _, [], _, _ => rfl
  | i :: is, x :: xs, ρ, h => by
    have h1 : i ≠ j := fun e => h (by rw [e]; exact List.mem_cons_self)
    have h2 : j ∉ is := fun m => h (List.mem_cons_of_mem _ m)
    show (setAll is xs (ρ.set i (some x)))[j]? = _
    rw [setAll_out h2, List.getElem?_set_ne h1]
theorem setAll_length : ∀ (is : List Nat) (xs : List α) (ρ : List (Option α)), (setAll is xs ρ).length = ρ.length
  | [], _, _ => rfl
  | _ :: _, [], _ => rfl
  | i :: is, x :: xs, ρ => by
    show (setAll is xs (ρ.set i (some x))).length = _
    rw [setAll_length, List.length_set]
end
def wipeE (ρ : Env) : List Nat → Env
  | [] => ρ
  | v :: vs => (wipeE ρ vs).set v none
theorem wipe_in {σ : L2.St} {j : Nat} : ∀ {vs : List Nat}, j ∈ vs → (wipe σ vs)[j]? = if j < σ.length then some none else none
  | v :: vs, h => by
    unfold wipe
    by_cases hv : v = j
    · subst hv
      rw [List.getElem?_set_self']
      by_cases hl : v < σ.length
      · rw [if_pos hl, List.getElem?_eq_getElem (by rw [wipe_length]; exact hl)]; rfl
      · rw [if_neg hl, List.getElem?_eq_none (by rw [wipe_length]; omega)]; rfl
    · rw [List.getElem?_set_ne hv]
      exact wipe_in ((List.mem_cons.mp h).resolve_left fun e => hv e.symm)
theorem wipe_setAll {σ : L2.St} {is : List Nat} {xs : List V} : wipe (setAll is xs (wipe σ is)) is = wipe σ is := by
  apply List.ext_getElem?
  intro j
  by_cases hj : j ∈ is
  · rw [wipe_in hj, wipe_in hj, setAll_length, wipe_length]
  · rw [wipe_out hj, setAll_out hj]
section
variable {K : PySem.W.Frag} {H : Hp} {m : Ad} {ρ : Env} {c : List Cell} {σ : L2.St}
theorem SR.wipes (S : SR K σ H m ρ c) : ∀ is : List Nat, SR K (L2.wipe σ is) H m (wipeE ρ is) c
  | [] => S
  | i :: is => by
    have S' := SR.wipes S is
    refine ⟨S'.cr, by unfold L2.wipe wipeE; rw [List.length_set, List.length_set]; exact S'.len, fun j d e => ?_⟩
    unfold wipeE at e
    by_cases hj : i = j
    · subst hj
      have hl := (List.getElem?_eq_some_iff.mp e).1
      rw [List.length_set] at hl
      rw [List.getElem?_set_self hl] at e
      cases e
    · rw [List.getElem?_set_ne hj] at e
      obtain ⟨w, h1, h2⟩ := S'.sl j d e
      exact ⟨w, by unfold L2.wipe; rw [List.getElem?_set_ne hj]; exact h1, h2⟩
theorem SR.setAlls : ∀ {is : List Nat} {es : List D} {xs : List V} {σ : L2.St} {ρ : Env}, SR K σ H m ρ c → RRL K H m es xs → SR K (Cw.setAll is xs σ) H m (Cw.setAll is es ρ) c
  | [], _, _, _, _, S, _ => S
  | _ :: _, [], _, _, _, S, r => by cases (show _ = [] from r); exact S
  | i :: is, e :: es, _, σ', ρ', S, ⟨x, r, e1, h1, h2⟩ => by
    subst e1
    show SR K (Cw.setAll is r (σ'.set i (some x))) H m (Cw.setAll is es (ρ'.set i (some e))) c
    exact SR.setAlls (S.set h1) h2
end
def gNms : List Nat → TGs
  | [] => gNil
  | i :: is => gCons (gName i) (gNms is)
theorem gNms_run {Q : L2.St → Hp → Prop} {H : Hp} : ∀ {is : List Nat} {xs : List V} {σ : L2.St}, xs.length = is.length → Q (setAll is xs σ) H → gNms is xs σ H Q
  | [], [], _, _, q => ⟨rfl, q⟩
  | [], _ :: _, _, h, _ => by cases h
  | _ :: _, [], _, h, _ => by cases h
  | i :: is, x :: xs, σ, h, q => ⟨x, xs, rfl, gNms_run (by simpa using h) q⟩
def lcT (is : List Nat) (tt : TDt) (te : TD) : List D → List D → Env → List Cell → (List D → List Cell → Prop) → Prop
  | [], acc, _, c, Φ => okCs c.length c = true ∧ okDs c.length acc = true ∧ Φ acc c
  | d :: ds, acc, ρ, c, Φ => ∃ es, d = .tup es ∧ es.length = is.length ∧ tt (setAll is es (wipeE ρ is)) (c ++ [.lst acc]) fun b c2 => match b with
    | true => te (setAll is es (wipeE ρ is)) c2 fun y c3 => acc.length < sizeLine ∧ inner c.length acc y c3 fun c4 => lcT is tt te ds (acc ++ [y]) ρ c4 Φ
    | false => inner c.length acc .non c2 fun c4 => lcT is tt te ds acc ρ c4 Φ
def dLcT (ti : TDs) (is : List Nat) (tt : TDt) (te : TD) : TD := fun ρ c Φ => ti ρ c fun ds c1 => lcT is tt te ds [] ρ c1 fun xs c2 => Φ (.lst xs) c2
theorem lcT_walk {K : PySem.W.Frag} {J : It} {m : Ad} {H1 : Hp} {ds : List D} {σ : L2.St} {ρ : Env} {c : List Cell} {is : List Nat} {tt : TDt} {te : TD} {Φ : List D → List Cell → Prop} {Qd : Addr → Hp → Prop} (wk : Walks K J m H1 ds) (S : SR K σ H1 m ρ c) (h : lcT is tt te ds [] ρ c Φ)
    (q : ∀ p xs c' H', Φ xs c' → CR K H' m c' → RR K H' m (.lst xs) (.ref p) → Le m H1 m H' → Qd p H') : ∀ p, H1 p = none → ∃ W : Nat → Nat → Hp → Prop, (∃ mm, W 0 mm (upd H1 p (.lst []))) ∧ ∀ j mm H, W j mm H →
      (J.stop j H ∧ Qd p H) ∨ (J.go j H ∧ ∃ Nx : Hp → Prop, (∀ H', Nx H' → ∃ m', m' < mm ∧ W (j + 1) m' H') ∧ ∀ x H', J.yld j H x H' → L2.gTup K is.length (gNms is) x (wipe σ is) H' fun σ2 H2 => wipe σ2 is = wipe σ is ∧ liftT K tt σ2 H2 fun b H3 =>
        if b = true then lift K te σ2 H3 fun y H4 => ∃ acc, H4 p = some (.lst acc) ∧ acc.length < sizeLine ∧ Nx (upd H4 p (.lst (acc ++ [y]))) else Nx H3) := by
  intro p hp
  have z0 := cell_new (ce := .lst []) (o := .lst []) S.cr hp ⟨[], upd_same, rfl⟩
  refine ⟨fun j mm H => mm = ds.length - j ∧ j ≤ ds.length ∧ ∃ c' acc, c'.length = c.length ∧ CR K H (m.push p) (c' ++ [.lst acc]) ∧ Le m H1 (m.push p) H ∧ lcT is tt te (ds.drop j) acc ρ c' Φ,
    ⟨ds.length, by simp, Nat.zero_le _, c, [], rfl, z0.1, z0.2.1, by simpa using h⟩, ?_⟩
  rintro j mm H ⟨rfl, hj, c', acc, hl, C, l, hf⟩
  by_cases hlt : j < ds.length
  · have wk' := wk
    refine .inr ⟨wk.go j (m.push p) H _ l C hlt, fun H' => ∃ c' acc, c'.length = c.length ∧ CR K H' (m.push p) (c' ++ [.lst acc]) ∧ Le m H1 (m.push p) H' ∧ lcT is tt te (ds.drop (j + 1)) acc ρ c' Φ, fun H' w => ⟨ds.length - (j + 1), by omega, rfl, hlt, w⟩, fun x H2 y => ?_⟩
    obtain ⟨d, hd, C2, l2, rx⟩ := wk.yld j (m.push p) H _ x H2 l C hlt y
    have e : ds.drop j = d :: ds.drop (j + 1) := by
      rw [List.drop_eq_getElem_cons hlt]
      congr 1
      have := List.getElem?_eq_getElem hlt
      rw [hd] at this
      exact (Option.some.inj this).symm
    rw [e] at hf
    have L2 := l.trans l2
    obtain ⟨es, ed, hes, hf⟩ := hf
    subst ed
    obtain ⟨a, xs, rfl, ht, rl⟩ := rx
    have hxs : xs.length = is.length := by rw [rlen rl, hes]
    have S2 : SR K (setAll is xs (wipe σ is)) H2 (m.push p) (setAll is es (wipeE ρ is)) (c' ++ [.lst acc]) := ((S.step L2 C2).wipes is).setAlls rl
    refine ⟨a, xs, rfl, ex_t (ex_hid _ _) ht, hxs, gNms_run hxs ⟨wipe_setAll, m.push p, _, _, _, S2, hf, fun b c2 H3 m3 hb C3 l3 => ?_⟩⟩
    have hmn : (m.push p).ix.length = c'.length + 1 := by
      have := C2.len
      simp at this
      exact this
    cases b with
    | false =>
      dsimp only
      rw [if_neg (by decide)]
      obtain ⟨z1, _, z2, z3, z4⟩ := inner_ok (v := .non) hmn hb C3 rfl l3
      exact ⟨c2.take c'.length, acc, by rw [z4, hl], z1, L2.trans z2, z3⟩
    | true =>
      dsimp only
      rw [if_pos rfl]
      refine ⟨m3, _, c2, _, S2.step l3 C3, hb, fun y c3 v H4 m4 hy C4 R4 l4 => ?_⟩
      obtain ⟨hsz, hin⟩ := hy
      obtain ⟨z1, z5, z2, z3, z4⟩ := inner_ok hmn hin C4 R4 (l3.trans l4)
      obtain ⟨a', h5, xs', h6, h7⟩ := z1.at_ c'.length (.lst acc) (by rw [List.getElem?_append_right (by omega), z4]; simp)
      have last : (m.push p).ix[c'.length]? = some p := by
        show (m.ix ++ [p])[c'.length]? = some p
        rw [hl, ← S.cr.len]; simp
      rw [last] at h5; cases h5
      refine ⟨xs', h6, by rw [rlen h7]; exact hsz, ?_⟩
      have hm : p ∈ (m.push p).ix := List.mem_of_getElem? last
      have z := cell_put (o := .lst (xs' ++ [v])) (ce := .lst (acc ++ [y])) z1 last ⟨_, upd_same, by show RL _ _ (hid (m.push p) _) _ _; rw [hid_mut hm]; exact RL.append h7 ⟨v, [], rfl, z5, rfl⟩⟩
      have ec : (c3.take c'.length ++ [Cell.lst acc]).set c'.length (.lst (acc ++ [y])) = c3.take c'.length ++ [.lst (acc ++ [y])] := by
        rw [List.set_append_right _ _ (by omega), z4]; simp
      rw [ec] at z
      exact ⟨c3.take c'.length, acc ++ [y], by rw [z4, hl], z.1, (L2.trans z2).trans z.2, z3⟩
  · have ej : j = ds.length := by omega
    subst ej
    rw [List.drop_length] at hf
    obtain ⟨h1, h2, h3⟩ := hf
    obtain ⟨C', _, ⟨xs, h4, h5⟩, hp1, hp2⟩ := C.pop h1
    refine .inl ⟨wk.stop _ (m.push p) H _ l C (Nat.le_refl _), q p acc c' H h3 C' ⟨p, xs, rfl, by rw [hid_of ⟨hp1, hp2⟩]; exact h4, RL.low ex_pop (low_push C'.len) acc xs h2 h5⟩ ⟨fun _ _ e => e, l.ex.trans ex_pop, rfl, l.hk' ex_pop, fun _ h => .inl h, l.al⟩⟩
section
variable {X : Cx} {iter elt : Expr} {te : TD} {tt : TDt} {pos tp : Pos} {ti : TDs} {ifs : List Expr} {scope : Scope} {own : List (Str × Nat)} {elts : List Expr} {kk : Nat}
theorem pd_lcT (hc : X.calm = true) (hN : X.N.Nodup) (hi : PID X (.Tuple elts kk tp) iter ti) (ok : blkC X.N X.env.scope scope own = true)
    (hg : ∀ (s : Shared) (H : Hp) (C : Addr) (cl : List (Str × Addr)) (fp : List Addr), PG (X.blk s H scope (compEnvC scope cl C X.env) fp) (.Tuple elts kk tp) (L2.gTup X.K (own.map (·.2)).length (gNms (own.map (·.2)))))
    (ht : ∀ (s : Shared) (H : Hp) (C : Addr) (cl : List (Str × Addr)) (fp : List Addr), PTD (X.blk s H scope (compEnvC scope cl C X.env) fp) ifs tt)
    (he : ∀ (s : Shared) (H : Hp) (C : Addr) (cl : List (Str × Addr)) (fp : List Addr), PD (X.blk s H scope (compEnvC scope cl C X.env) fp) elt te) (hs : ∀ x, foldedSetIterable iter X.env x = pure x := by intro _; rfl) :
    PD X (.ListComp elt [⟨.Tuple elts kk tp, iter, ifs, 0⟩] scope pos) (dLcT ti (own.map (·.2)) tt te) :=
  PE.imp (pe_lc (own := own) (te := lift X.K te) (tt := liftT X.K tt) hc hN hi (blkOk_by ok) hg ht he hs) fun σ H Q ⟨m, ρ, c, Φ, S, h, q⟩ =>
    ⟨m, ρ, c, _, S, h, fun ds c1 J H1 m1 hx C1 wk L1 => lcT_walk wk (S.step L1 C1) hx fun p xs c' H' h' C' R' l' => q _ c' _ H' m1 h' C' R' (L1.trans l')⟩
end
theorem lcT_filter {is : List Nat} {tt : TDt} {te : TD} {ρ : Env} {c : List Cell} {Φ : List D → List Cell → Prop} (tu : D → List D) (g : D → Bool) (f : D → D) (hc : okCs c.length c = true) : ∀ (ds acc : List D),
    (∀ d ∈ ds, d = .tup (tu d) ∧ (tu d).length = is.length ∧ ∀ acc (Ψ : Bool → List Cell → Prop), okDs c.length acc = true → Ψ (g d) (c ++ [.lst acc]) → tt (setAll is (tu d) (wipeE ρ is)) (c ++ [.lst acc]) Ψ) →
    (∀ d ∈ ds, g d = true → okD c.length (f d) = true ∧ ∀ acc (Ψ : D → List Cell → Prop), okDs c.length acc = true → Ψ (f d) (c ++ [.lst acc]) → te (setAll is (tu d) (wipeE ρ is)) (c ++ [.lst acc]) Ψ) →
    okDs c.length acc = true → acc.length + ds.length ≤ sizeLine → Φ (acc ++ (ds.filter g).map f) c → lcT is tt te ds acc ρ c Φ
  | [], acc, _, _, h, _, q => ⟨hc, h, by simpa using q⟩
  | d :: ds, acc, ht, he, h, hl, q => by
    have hl' : acc.length + (ds.length + 1) ≤ sizeLine := hl
    obtain ⟨e1, e2, e3⟩ := ht d List.mem_cons_self
    refine ⟨tu d, e1, e2, e3 acc _ h ?_⟩
    cases hg : g d with
    | true =>
      show te _ _ _
      obtain ⟨hk, hte⟩ := he d List.mem_cons_self hg
      refine hte acc _ h ⟨by omega, inner_same ?_⟩
      refine lcT_filter tu g f hc ds _ (fun x hx => ht x (List.mem_cons_of_mem _ hx)) (fun x hx => he x (List.mem_cons_of_mem _ hx)) (okDs_app h (okDs_one hk)) (by rw [List.length_append]; show acc.length + 1 + ds.length ≤ _; omega) ?_
      rw [List.filter_cons_of_pos (by rw [hg])] at q
      simpa using q
    | false =>
      show inner _ _ _ _ _
      refine inner_same ?_
      refine lcT_filter tu g f hc ds _ (fun x hx => ht x (List.mem_cons_of_mem _ hx)) (fun x hx => he x (List.mem_cons_of_mem _ hx)) h (by omega) ?_
      rw [List.filter_cons_of_neg (by rw [hg]; decide)] at q
      exact q
end Cw

namespace Cw
open PySem PySem.Spec PyProof.Rows L2

/-! ### min(xs), max(xs) of a list of ints -/
theorem rl_ints {K : PySem.W.Frag} {m : List Addr} {H : Hp} : ∀ {ns : List Int} {xs : List V}, RL K m H (ns.map D.int) xs → xs = ns.map V.int
  | [], _, h => h
  | n :: ns, _, ⟨x, r, e1, h1, h2⟩ => by
    subst e1
    have := rl_ints h2
    subst this
    cases (show x = V.int n from h1)
    rfl
def fMin1 : F1 := fun x c Φ => ∃ ns : List Int, x = .lst (ns.map .int) ∧ 0 < ns.length ∧ ∀ m, m ∈ ns → (∀ y, y ∈ ns → m ≤ y) → Φ (.int m) c
def fMax1 : F1 := fun x c Φ => ∃ ns : List Int, x = .lst (ns.map .int) ∧ 0 < ns.length ∧ ∀ m, m ∈ ns → (∀ y, y ∈ ns → y ≤ m) → Φ (.int m) c
theorem l1_min1 {K : PySem.W.Frag} : L1f K fMin1 (fun u H Q => rMin K [u] H Q) := by
  intro x c Φ ⟨ns, e, hp, h⟩ H m u C r Q q
  subst e
  obtain ⟨a, xs, rfl, h1, h2⟩ := r
  have := rl_ints h2
  subst this
  exact ⟨a, ns, rfl, SqL.of h1, hp, fun m h3 h4 => q.pure C (h m h3 h4) rfl⟩
theorem l1_max1 {K : PySem.W.Frag} : L1f K fMax1 (fun u H Q => rMax K [u] H Q) := by
  intro x c Φ ⟨ns, e, hp, h⟩ H m u C r Q q
  subst e
  obtain ⟨a, xs, rfl, h1, h2⟩ := r
  have := rl_ints h2
  subst this
  exact ⟨a, ns, rfl, SqL.of h1, hp, fun m h3 h4 => q.pure C (h m h3 h4) rfl⟩
section
variable {X : Cx} {e e2 o a b : Expr} {ta tb : TD} {pos pp apos : Pos}
theorem pd_min1 (hc : X.calm = true) (ha : PD X e ta) (hm : X.mg "min" = none) (hg : Gl X "min" := by rfl) (he : starEach [e] X.env = (false, eval e X.env) :: starEach [] X.env := by rfl) (hpl : (backTo pos (starEach [] X.env)).any (·.1) = false := by rfl) :
    PD X (.Call (.Name "min" pp) [e] [] pos) (dCB (un1 fMin1) (dCons ta dNil)) := pd_B1 (cr_min hc) l1_min1 boot_min (by decide) (by decide) ha hg hm he hpl
theorem pd_max1 (hc : X.calm = true) (ha : PD X e ta) (hm : X.mg "max" = none) (hg : Gl X "max" := by rfl) (he : starEach [e] X.env = (false, eval e X.env) :: starEach [] X.env := by rfl) (hpl : (backTo pos (starEach [] X.env)).any (·.1) = false := by rfl) :
    PD X (.Call (.Name "max" pp) [e] [] pos) (dCB (un1 fMax1) (dCons ta dNil)) := pd_B1 (cr_max hc) l1_max1 boot_max (by decide) (by decide) ha hg hm he hpl

/-! ### xs + ys as a new list that stands -/
def fAddL : F2 := fun x y c Φ => match x, y with
  | .lst xs, .lst ys => xs.length + ys.length ≤ sizeLine ∧ Φ (.lst (xs ++ ys)) c
  | _, _ => False
theorem pd_addL (ha : PD X a ta) (hb : PD X b tb) : PD X (.BinOp a .Add b pos) (dBin fAddL ta tb) := PE.imp (pe_op op_cat ha hb) fun σ H Q h => lift_bin (by
  intro x y c Φ h H m u v C r1 r2 Q q
  cases x <;> cases y <;> first | exact h.elim | skip
  obtain ⟨p1, us, rfl, h1, q1⟩ := r1
  obtain ⟨p2, ws, rfl, h2, q2⟩ := r2
  refine ⟨p1, p2, us, ws, rfl, rfl, h1, h2, by rw [rlen q1, rlen q2]; exact h.1, fun p hp => ?_⟩
  exact KQ.newL (X := X) q C h.2 (RL.append q1 q2) hp) h
/-! ### xs[::-1] of a list -/
def dRevL (te : TD) : TD := fun ρ c Φ => te ρ c fun d c1 => match vw c1 d with
  | .lst ds => Φ (.lst ds.reverse) c1
  | _ => False
theorem pd_revL {k : Nat} {p1 p2 p3 : Pos} (he : PD X e ta) : PD X (.Subscript e (.Slice none none (some (.UnaryOp .USub (.Constant (.int 1) k p1) p2)) p3) pos) (dRevL ta) :=
  PE.imp (pe_revL he) fun σ H Q ⟨m, ρ, c, Φ, S, h, q⟩ => ⟨m, ρ, c, _, S, h, fun d c1 u H1 m1 hx C1 R1 L1 => by
    have w := W.vw C1 R1
    revert hx w
    generalize vw c1 d = d'
    intro hx w
    cases d' <;> first | exact hx.elim | skip
    obtain ⟨a, xs, rfl, h1, h2⟩ := w
    exact ⟨a, xs, rfl, SqL.of h1, fun p hp => KQ.newL (X := X) (KQ.le (K := X.K) q L1) C1 hx (RL.reverse h2) hp⟩⟩

/-! ### == of dicts of ints -/
def lookI : List Key → List Int → Key → Option Int
  | k :: ks, i :: is, q => if k = q then some i else lookI ks is q
  | _, _, _ => none
theorem lookI_val : ∀ {kvs : List (Key × V)} {is : List Int} {q : Key}, kvs.map (·.2) = is.map V.int → valV kvs q = (lookI (kvs.map (·.1)) is q).map V.int
  | [], is, q, h => by
    cases is with
    | nil => rfl
    | cons _ _ => cases h
  | (k, v) :: kvs, is, q, h => by
    cases is with
    | nil => cases h
    | cons i is =>
      injection h with h1 h2
      have h1 : v = V.int i := h1
      subst h1
      show _ = (if k = q then some i else lookI (kvs.map (·.1)) is q).map V.int
      by_cases e : k = q
      · rw [if_pos e]; unfold valV; rw [List.find?_cons_of_pos (by simpa using e)]; rfl
      · rw [if_neg e, ← lookI_val h2]; unfold valV; rw [List.find?_cons_of_neg (by simpa using e)]
/-- whether a dict's pairs stand in another one -/
def sameI (ls : List Key) (js : List Int) : List Key → List Int → Bool
  | k :: ks, i :: is => decide (lookI ls js k = some i) && sameI ls js ks is
  | _, _ => true
theorem hits_int {A : Around} {s : Shared} {kvs : List (Key × V)} {vb : List (Key × Value)} {js : List Int} (rb : KV kvs vb) (hj : kvs.map (·.2) = js.map V.int) : ∀ {ks : List (Key × V)} {va : List (Key × Value)} {is : List Int}, KV ks va → ks.map (·.2) = is.map V.int →
    (∀ k ∈ ks.map (·.1), ∃ j, lookI (kvs.map (·.1)) js k = some j) → PySem.W.KeqHits A s vb va (sameI (kvs.map (·.1)) js (ks.map (·.1)) is) := by
  intro ks va is ra
  unfold KV at ra
  induction ra generalizing is with
  | nil => intro _ _; exact .nil
  | @cons p q ps qs h t ih =>
    intro e hk
    cases is with
    | nil => cases e
    | cons i is =>
      injection e with e1 e2
      have e1 : p.2 = V.int i := e1
      obtain ⟨h1, h2⟩ := h
      obtain ⟨j, hjk⟩ := hk p.1 List.mem_cons_self
      have hv := lookI_val (q := p.1) hj
      rw [hjk] at hv
      have rr : RelO (some (V.int j)) (valueAt vb p.1) := by
        have := rb.val p.1
        rw [hv] at this; exact this
      obtain ⟨y, hy, ry⟩ := rr.some_of
      obtain ⟨k, v⟩ := q
      have h1' : p.1 = k := h1
      rw [h1'] at hy
      have h2 : RelV p.2 v := h2
      rw [e1] at h2
      obtain ⟨t1, rfl⟩ := (show ∃ t, v = Value.int i t from h2)
      obtain ⟨t2, rfl⟩ := (show ∃ t, y = Value.int j t from ry)
      have hd : sameI (kvs.map (·.1)) js (p.1 :: ps.map (·.1)) (i :: is) = ((i == j) && sameI (kvs.map (·.1)) js (ps.map (·.1)) is) := by
        show (decide (lookI (kvs.map (·.1)) js p.1 = some i) && _) = _
        rw [hjk]
        congr 1
        by_cases e : i = j
        · subst e; simp
        · rw [decide_eq_false (fun z => e (Option.some.inj z).symm)]; simp [e]
      show PySem.W.KeqHits A s vb ((k, _) :: qs) (sameI (kvs.map (·.1)) js (p.1 :: ps.map (·.1)) (i :: is))
      rw [hd]
      exact .hit hy (SeqAt.EqAt.int_int _ _ _ _) (ih e2 fun k' hk' => hk k' (List.mem_cons_of_mem _ hk'))
def rEqDI : R2 := fun x y H Q => ∃ a b ks ls is js, x = .ref a ∧ y = .ref b ∧ Rd H a (.dK ks) ∧ Rd H b (.dK ls) ∧ ks.map (·.2) = is.map V.int ∧ ls.map (·.2) = js.map V.int ∧ ks.length = ls.length ∧ (∀ k ∈ ks.map (·.1), ∃ j, lookI (ls.map (·.1)) js k = some j) ∧ Q (.bl (sameI (ls.map (·.1)) js (ks.map (·.1)) is)) H
theorem rd_ok {X : Cx} {pins : List (Addr × Obj)} {σ : L2.St} {H : Hp} {s : Shared} {a : Addr} {u : HO} (I : Inv X pins σ H s) (h : Rd H a u) : ObjOk X.prog X.w H s.heap a u := by
  rcases h with h | ⟨o, h⟩
  · exact I.hok a _ h
  · exact (show _ ∧ ObjOk X.prog X.w H s.heap a u from I.hok a _ h).2
theorem op_eqDI (hu : X.A.units < cLine) : OpR X (compareOp .Eq) rEqDI := by
  intro pins s σ H x y v u Q I rx ry h
  obtain ⟨a, b, ks, ls, is, js, rfl, rfl, ea, eb, hi, hj, hlen, hk, q⟩ := h
  obtain rfl : v = Value.ref a := rx
  obtain rfl : u = Value.ref b := ry
  obtain ⟨_, ya, va, ra, da⟩ := (show ObjOk X.prog X.w H s.heap a (.dK ks) from rd_ok I ea)
  obtain ⟨_, yb, vb, rb, db⟩ := (show ObjOk X.prog X.w H s.heap b (.dK ls) from rd_ok I eb)
  have hl : va.length = vb.length := by rw [← ra.length, ← rb.length]; exact hlen
  refine PySem.W.keq_eq (knd := mixKind X.prog X.w) (r := sameI (ls.map (·.1)) js (ks.map (·.1)) is) ya yb da db hu (fun _ => hits_int rb hj ra hi hk) (fin_bl I q (by simp [hl]))
def fEqDI : F2 := fun x y c Φ => ∃ ks ls is js, x = .dct ks (is.map .int) ∧ y = .dct ls (js.map .int) ∧ ks.length = ls.length ∧ (∀ k ∈ ks, ∃ j, lookI ls js k = some j) ∧ Φ (.bl (sameI ls js ks is)) c
theorem l2_eqDI {K : PySem.W.Frag} : L2f K fEqDI rEqDI := by
  intro x y c Φ ⟨ks, ls, is, js, e1, e2, hl, hk, h⟩ H m u v C r1 r2 Q q
  subst e1; subst e2
  obtain ⟨a, kvs, rfl, h1, h2, h3⟩ := r1
  obtain ⟨b, lvs, rfl, h4, h5, h6⟩ := r2
  subst h2; subst h5
  exact ⟨a, b, kvs, lvs, is, js, rfl, rfl, h1, h4, rl_ints h3, rl_ints h6, by simpa using hl, hk, q.pure C h rfl⟩
theorem pd_eqDI {k : Nat} (hr : Room k X.A) (ha : PD X a ta) (hb : PD X b tb) : PD X (.Compare a [.Eq] [b] pos) (dBin fEqDI ta tb) := PE.imp (pe_cmpR (op_eqDI (by have := hr.un; omega)) ha hb (nomark _)) fun σ H Q h => lift_bin l2_eqDI h

/-! ### xs[i] += e, xs a mutable list of the def -/
theorem get_list : PGet X (rIxL X.K) := by
  intro pins s σ H x y v u Q I rx ry h
  obtain ⟨p, xs, i, z, rfl, rfl, hq, he, q⟩ := h
  cases rx
  obtain ⟨t, rfl⟩ := ry
  obtain ⟨its, r, pl, hz⟩ := I.list hq
  obtain ⟨j, h1, h2, h3, h4, h5⟩ := atI_get he
  obtain ⟨w, ew, rw'⟩ := r.get h2
  have hl := r.length
  have hn := line63
  have fin : EP X pins σ Q w s := ⟨z, H, I, rw', q⟩
  by_cases h0 : 0 ≤ i
  · have hj : i.toNat = j := by
      rw [seqIndex_of h0 h5] at h1
      exact Option.some.inj h1
    exact wpAny_getItem_list pl.isList h0 (by omega) (by rw [hj]; simpa using ew) fin
  · have hj : (i + (its.toArray.size : Int)).toNat = j := by
      rw [seqIndex_neg (by omega) h4] at h1
      rw [List.size_toArray, ← hl]
      exact Option.some.inj h1
    exact wpAny_getItem_list_neg pl.isList (by omega) (by rw [List.size_toArray] <;> omega) (by omega) (by rw [hj]; simpa using ew) fin
def dAugS (to ti te : TD) : TSD := fun De ρ c => to ρ c fun o c1 => ti ρ c1 fun y c2 => ∃ k i ds j n, o = .cell k ∧ y = .int i ∧ c2[k]? = some (.lst ds) ∧ L2.atI ds i = some (.int n) ∧ ixN ds.length i = some j ∧ te ρ c2 fun z c3 => ∃ n', z = .int n' ∧ c3[k]? = some (.lst ds) ∧ De.nx ρ (c3.set k (.lst (ds.set j (.int (n + n')))))
theorem psd_augS {i : Expr} {ti te : TD} {tpos : Pos} (ho : PD X o ta) (hi : PD X i ti) (he : PD X e te)
    (ha : ∀ ov iv new, augStore i ov iv new = (do holding [new, ov, iv] (setItem ov iv new); release [new, ov, iv] []; pure .next) := by intros; rfl) : PSD X (.AugAssign (.Subscript o i tpos) .Add e pos) (dAugS ta ti te) :=
  PS.imp (ps_augS ho hi get_list he ip_add L2.set_list ha) fun Dn σ H ⟨m, ρ, c, De, S, h, n, r, b, kk⟩ =>
  ⟨m, ρ, c, _, S, h, fun x c1 u H1 m1 hx C1 R1 L1 => ⟨m1, ρ, c1, _, S.step L1 C1, hx, fun y c2 v H2 m2 hy C2 R2 l2 => by
    obtain ⟨k, i', ds, j, n', rfl, rfl, hk, hat, hj, hte⟩ := hy
    obtain ⟨a, h1, rfl⟩ := R1
    cases (show v = V.int i' from R2)
    obtain ⟨b', h2, xs, h3, h4⟩ := C2.at_ k _ hk
    rw [l2.pre k a h1] at h2; cases h2
    have hv : L2.atI xs i' = some (.int n') := by
      unfold L2.atI at hat ⊢
      rw [rlen h4]
      rw [hj] at hat ⊢
      have hat : ds[j]? = some (.int n') := hat
      obtain ⟨w, e1, e2⟩ := RL.get h4 hat
      cases (show w = V.int n' from e2)
      exact e1
    refine ⟨a, xs, i', _, rfl, rfl, SqL.of h3, hv, m2, ρ, c2, _, S.step (L1.trans l2) C2, hte, fun z c3 w H3 m3 hz C3 R3 L3 => ?_⟩
    obtain ⟨n2, rfl, hk3, hn⟩ := hz
    cases (show w = V.int n2 from R3)
    obtain ⟨b2, h5, ys, h6, h7⟩ := C3.at_ k _ hk3
    have hka := L3.pre k a (l2.pre k a h1)
    rw [hka] at h5; cases h5
    refine ⟨n', n2, rfl, rfl, a, ys, i', j, rfl, rfl, h6, by rw [rlen h7]; exact hj, ?_⟩
    have hm : a ∈ m3.ix := List.mem_of_getElem? hka
    have zz := cell_put (o := .lst (ys.set j (.int (n' + n2)))) (ce := .lst (ds.set j (.int (n' + n2)))) C3 hka ⟨_, upd_same, by show RL _ _ (hid m3 _) _ _; rw [hid_mut hm]; exact RL.set (d := D.int (n' + n2)) (x := V.int (n' + n2)) rfl j h7⟩
    exact n σ _ m3 ρ _ hn ((S.step ((L1.trans l2).trans L3) C3).step zz.2 zz.1) (((L1.trans l2).trans L3).trans zz.2)⟩⟩
/-! ### whether a list has items -/
def dTruL (ta : TD) : TDt := fun ρ c Φ => ta ρ c fun x c1 => match vw c1 x with
  | .lst ds => Φ (!ds.isEmpty) c1
  | _ => False
theorem pdt_truL (ha : PD X e ta) (he : ∀ whole, isTrue e X.env whole = (do let v ← whole; standAt e.pos; holding [v] (truthy v)) := by intro _; rfl) : PDt X e (dTruL ta) :=
  PT.imp (pt_truth ha he) fun σ H Q ⟨m, ρ, c, Φ, S, h, q⟩ => ⟨m, ρ, c, _, S, h, fun d c1 u H1 m1 hx C1 R1 L1 => by
    have w := W.vw C1 R1
    revert hx w
    generalize vw c1 d = d'
    intro hx w
    cases d' <;> first | exact hx.elim | skip
    obtain ⟨a, xs, rfl, h1, h2⟩ := w
    refine ⟨!xs.isEmpty, .inl ⟨xs, SqL.of h1, rfl⟩, ?_⟩
    have hl := rlen h2
    rename_i ds
    have : (!xs.isEmpty) = !ds.isEmpty := by
      cases xs <;> cases ds <;> first | rfl | (simp at hl)
    rw [this]
    exact q _ c1 H1 m1 hx C1 L1⟩

/-! ### o.m(e, ..), o an instance that stands -/
def dMeth (C : Addr) (f : Str) (S : Pm) (np : Nat) (ta : TD) (tas : TDs) : TD := fun ρ c Φ => ta ρ c fun x c1 => ∃ ns ds, x = .ins C ns ds ∧ lookF f ns ds = none ∧ tas ρ c1 fun es c2 => es.length + 1 = np ∧ callP S (x :: es) c2 Φ
theorem look_no {f : Str} : ∀ {fs : List (Str × V)} {ds : List D}, fs.length = ds.length → lookF f (fs.map (·.1)) ds = none → fs.lookup f = none
  | [], _, _, _ => rfl
  | (n, v) :: fs, [], h, _ => by cases h
  | (n, v) :: fs, d :: ds, h, e => by
    unfold lookF at e
    simp only [List.map_cons] at e
    by_cases hn : f = n
    · rw [if_pos hn] at e; cases e
    · rw [if_neg hn] at e
      have hb : (f == n) = false := by simpa using hn
      simp only [List.lookup, hb]
      exact look_no (by simpa using h) e
theorem pd_meth {CX : CXT} {k np : Nat} {f C : Addr} {fd : FuncData} {ps : List Str} {S : Pm} {E : XK} {m : Str} {es : List Expr} {tas : TDs} {pl : Sem Bool} (cl : Cls X.K C) (hf : PySem.W.findIn X.K (.ref C) m = some (some (.ref f))) (hfn : PySem.W.isFn X.K (.ref f) = true) (hkp : PySem.W.keepIn X.K (.ref f) = true)
    (F : FnOk X.prog X.w X.K X.mg X.base CX k f fd ps (spD X.K 0 np S)) (hr : Room k X.A) (hb : Binds X.K fd ps []) (hx : Passes CX X E) (ho : PD X o ta) (ha : PDs X (e :: es) tas)
    (hst : starEach (e :: es) X.env = (false, eval e X.env) :: starEach es X.env := by rfl) (hpl : (backTo pos (starEach es X.env)).any (·.1) = false := by rfl)
    (ht : eval (.Call (.Attribute o m apos) (e :: es) [] pos) X.env = (do
      let ov ← eval o X.env
      standAt apos.atName
      let (f, first) ← holding [ov] (getMethod ov m pl)
      callWith pos f first (backTo pos (starEach (e :: es) X.env)) (backToKw pos (keywordEach [] X.env))) := by rfl) :
    PD X (.Call (.Attribute o m apos) (e :: es) [] pos) (dMeth C m S np ta tas) :=
  PE.imp (pe_meth ho cl ⟨hf, hfn, hkp⟩ F hr hb .nil hx ha hst hpl ht) fun σ H Q ⟨m', ρ, c, Φ, S', h, q⟩ =>
  ⟨m', ρ, c, _, S', h, fun x c1 u H1 m1 hx C1 R1 L1 => by
    obtain ⟨ns, ds, rfl, hno, hx⟩ := hx
    obtain ⟨a, dx, fs, rfl, h1, h2, h3⟩ := W.of R1
    have hl : fs.length = ds.length := by have := rlen h3; rw [List.length_map] at this; exact this
    subst h2
    refine ⟨a, dx, fs, rfl, h1, look_no hl hno, m1, ρ, c1, _, S'.step L1 C1, hx, fun es' c2 vs H2 m2 hy C2 R2 L2 => ?_⟩
    show spD _ _ _ _ (_ :: (_ ++ [])) _ _ _
    rw [List.append_nil]
    have rr : RRL X.K H2 m2 (.ins C (fs.map (·.1)) ds :: es') (.ref a :: vs) := ⟨.ref a, vs, rfl, L2.r R1, R2⟩
    exact sp_pure C2 rr (by simpa using hy.1) hy.2 (KQ.le (K := X.K) q (L1.trans L2))⟩
end
end Cw

namespace Cw
open PySem PySem.Spec PyProof.Rows L2

/-! ### {k: [..] for x in ..}: the new dict is mutable, the values may be -/
def dcC (i : Nat) (tk tv : TD) (n : Nat) : List D → Env → List Cell → (List Cell → Prop) → Prop
  | [], _, C, Φ => Φ C
  | d :: ds, ρ, C, Φ => tk (ρ.set i (some d)) C fun y C1 => tv (ρ.set i (some d)) C1 fun z C2 => ∃ k ks acc, y = kD k ∧ C2[n]? = some (.dct ks acc) ∧ k ∉ ks ∧ acc.length < sizeLine ∧ dcC i tk tv n ds ρ (C2.set n (.dct (ks ++ [k]) (acc ++ [z]))) Φ
def dDcC (ti : TDs) (i : Nat) (tk tv : TD) : TD := fun ρ c Φ => ti ρ c fun ds c1 => dcC i tk tv c1.length ds ρ (c1 ++ [.dct [] []]) fun C => Φ (.cell c1.length) C
theorem dcC_walk {K : PySem.W.Frag} {J : It} {m : Ad} {H1 : Hp} {ds : List D} {σ : L2.St} {ρ : Env} {c : List Cell} {i : Nat} {tk tv : TD} {Φ : List Cell → Prop} {Qd : Addr → Hp → Prop} (wk : Walks K J m H1 ds) (S : SR K σ H1 m ρ c) (h : dcC i tk tv c.length ds ρ (c ++ [.dct [] []]) Φ)
    (q : ∀ p C H' m', Φ C → CR K H' m' C → m'.ix[c.length]? = some p → Le m H1 m' H' → Qd p H') : ∀ p, H1 p = none → ∃ W : Nat → Nat → Hp → Prop, (∃ mm, W 0 mm (upd H1 p (.dK []))) ∧ ∀ j mm H, W j mm H →
      (J.stop j H ∧ Qd p H) ∨ (J.go j H ∧ ∃ Nx : Hp → Prop, (∀ H', Nx H' → ∃ m', m' < mm ∧ W (j + 1) m' H') ∧ ∀ x H', J.yld j H x H' → gName i x (wipe σ [i]) H' fun σ2 H2 => wipe σ2 [i] = wipe σ [i] ∧ liftT K dYes σ2 H2 fun b H3 =>
        if b = true then lift K tk σ2 H3 fun y H4 => lift K tv σ2 H4 fun z H5 => ∃ kvs k, y = kV k ∧ H5 p = some (.dK kvs) ∧ kvs.length < sizeLine ∧ Nx (upd H5 p (.dK (putK kvs k z))) else Nx H3) := by
  intro p hp
  have z0 := cell_new (ce := .dct [] []) (o := .dK []) S.cr hp ⟨[], upd_same, rfl, rfl⟩
  have last : (m.push p).ix[c.length]? = some p := by
    show (m.ix ++ [p])[c.length]? = some p
    rw [← S.cr.len]; simp
  refine ⟨fun j mm H => mm = ds.length - j ∧ j ≤ ds.length ∧ ∃ m' C, Le (m.push p) (upd H1 p (.dK [])) m' H ∧ CR K H m' C ∧ dcC i tk tv c.length (ds.drop j) ρ C Φ,
    ⟨ds.length, by simp, Nat.zero_le _, m.push p, _, Le.refl _ _, z0.1, by simpa using h⟩, ?_⟩
  rintro j mm H ⟨rfl, hj, m', C, l, Cr, hf⟩
  have L := z0.2.1.trans l
  by_cases hlt : j < ds.length
  · refine .inr ⟨wk.go j m' H _ L Cr hlt, fun H' => ∃ m' C, Le (m.push p) (upd H1 p (.dK [])) m' H' ∧ CR K H' m' C ∧ dcC i tk tv c.length (ds.drop (j + 1)) ρ C Φ, fun H' w => ⟨ds.length - (j + 1), by omega, rfl, hlt, w⟩, fun x H2 y => ?_⟩
    obtain ⟨d, hd, C2, l2, rx⟩ := wk.yld j m' H _ x H2 L Cr hlt y
    have e : ds.drop j = d :: ds.drop (j + 1) := by
      rw [List.drop_eq_getElem_cons hlt]
      congr 1
      have := List.getElem?_eq_getElem hlt
      rw [hd] at this
      exact (Option.some.inj this).symm
    rw [e] at hf
    have S2 : SR K ((wipe σ [i]).set i (some x)) H2 m' (ρ.set i (some d)) C := (S.step (L.trans l2) C2).blk rx
    refine ⟨by rw [wipe1, wipe1, List.set_set, List.set_set], m', _, _, (fun b c2 => match b with
      | true => tk (ρ.set i (some d)) c2 fun y C1 => tv (ρ.set i (some d)) C1 fun z C2 => ∃ k ks acc, y = kD k ∧ C2[c.length]? = some (.dct ks acc) ∧ k ∉ ks ∧ acc.length < sizeLine ∧ dcC i tk tv c.length (ds.drop (j + 1)) ρ (C2.set c.length (.dct (ks ++ [k]) (acc ++ [z]))) Φ
      | false => False), S2, hf, fun b c2 H3 m3 hb C3 l3 => ?_⟩
    cases b with
    | false => exact hb.elim
    | true =>
      dsimp only
      rw [if_pos rfl]
      refine ⟨m3, _, c2, _, S2.step l3 C3, hb, fun y c3 v H4 m4 hy C4 R4 l4 => ⟨m4, _, c3, _, S2.step (l3.trans l4) C4, hy, fun z c4 v5 H5 m5 hz C5 R5 l5 => ?_⟩⟩
      obtain ⟨k, ks, acc, ek, hat, hk, hsz, hn⟩ := hz
      subst ek
      have ev := kD_v R4
      have lB := l.trans (l2.trans (l3.trans (l4.trans l5)))
      have hpn := lB.pre _ _ last
      obtain ⟨a, h5, kvs, h6, h7, h8⟩ := C5.at_ _ _ hat
      rw [hpn] at h5; cases h5
      have hkl : kvs.length = acc.length := by have := rlen h8; rw [List.length_map] at this; exact this
      refine ⟨kvs, k, ev, h6, by rw [hkl]; exact hsz, ?_⟩
      have hm : p ∈ m5.ix := List.mem_of_getElem? hpn
      have hput : putK kvs k v5 = kvs ++ [(k, v5)] := putK_new v5 (kv_none (by rw [h7]; exact hk))
      rw [hput]
      have zz := cell_put (o := .dK (kvs ++ [(k, v5)])) (ce := .dct (ks ++ [k]) (acc ++ [z])) C5 hpn ⟨_, upd_same, by rw [List.map_append, h7]; rfl, by
        show RL _ _ (hid m5 _) _ _
        rw [hid_mut hm, List.map_append]
        exact RL.append h8 ⟨v5, [], rfl, R5, rfl⟩⟩
      exact ⟨m5, _, lB.trans zz.2, zz.1, hn⟩
  · have ej : j = ds.length := by omega
    subst ej
    rw [List.drop_length] at hf
    exact .inl ⟨wk.stop _ m' H _ L Cr (Nat.le_refl _), q p C H m' hf Cr (l.pre _ _ last) L⟩
section
variable {X : Cx} {iter kx vx : Expr} {tk tv : TD} {pos pp tp : Pos} {ti : TDs} {scope : Scope} {x y : Str} {i j : Nat}
/-- y = {k: [..] for x in ..} -/
theorem psd_setDcC {spos py : Pos} (hc : X.calm = true) (hN : X.N.Nodup) (hy : X.N[j]? = some y) (hyl : X.env.scope.names.lookup y = some .local)
    (hsw : swapsWith (.DictComp kx vx [⟨.Name x tp, iter, [], 0⟩] scope pos) (some (.Name y py)) spos.line X.env = pure true)
    (hi : PID X (.Name x tp) iter ti) (ok : blkC X.N X.env.scope scope [(x, i)] = true)
    (hg : ∀ (s : Shared) (H : Hp) (C : Addr) (cl : List (Str × Addr)) (fp : List Addr), PG (X.blk s H scope (compEnvC scope cl C X.env) fp) (.Name x tp) (gName i))
    (hk : ∀ (s : Shared) (H : Hp) (C : Addr) (cl : List (Str × Addr)) (fp : List Addr), PD (X.blk s H scope (compEnvC scope cl C X.env) fp) kx tk)
    (he : ∀ (s : Shared) (H : Hp) (C : Addr) (cl : List (Str × Addr)) (fp : List Addr), PD (X.blk s H scope (compEnvC scope cl C X.env) fp) vx tv) (hs : ∀ x, foldedSetIterable iter X.env x = pure x := by intro _; rfl) :
    PSD X (.Assign [.Name y py] (.DictComp kx vx [⟨.Name x tp, iter, [], 0⟩] scope pos) spos) (dSet j (dDcC ti i tk tv)) :=
  PS.imp (ps_setDc (i := j) (own := [(x, i)]) (tt := liftT X.K dYes) (tk := lift X.K tk) (tv := lift X.K tv) hc hN hy hyl hsw hi (blkOk_by ok) hg (fun _ _ _ _ _ => ptd_nil) hk he hs) fun Dn σ H ⟨m, ρ, c, De, S, h, n, r, b, k⟩ =>
    ⟨m, ρ, c, _, S, h, fun ds c1 J H1 m1 hx C1 wk L1 => dcC_walk wk (S.step L1 C1) hx fun p C H' m' h' C' hp l' => n _ H' m' _ C h' ((S.step (L1.trans l') C').set (d := .cell c1.length) ⟨p, hp, rfl⟩) (L1.trans l')⟩
end
theorem dc_map2 {α : Type} {i : Nat} {tk tv : TD} {ρ : Env} {c : List Cell} {Φ : List Key → List D → List Cell → Prop} (d : α → D) (key : α → Key) (val : α → D) (hc : okCs c.length c = true) : ∀ (xs : List α) (ks : List Key) (acc : List D),
    (∀ x ∈ xs, okD c.length (val x) = true ∧ ∀ ks acc (Ψ : D → List Cell → Prop), okDs c.length acc = true → (Ψ (kD (key x)) (c ++ [.dct ks acc]) → tk (ρ.set i (some (d x))) (c ++ [.dct ks acc]) Ψ) ∧ (Ψ (val x) (c ++ [.dct ks acc]) → tv (ρ.set i (some (d x))) (c ++ [.dct ks acc]) Ψ)) →
    (ks ++ xs.map key).Nodup → okDs c.length acc = true → acc.length + xs.length ≤ sizeLine → Φ (ks ++ xs.map key) (acc ++ xs.map val) c → dcD i dYes tk tv (xs.map d) ks acc ρ c Φ
  | [], ks, acc, _, _, h, _, q => ⟨hc, h, by simpa using q⟩
  | x :: xs, ks, acc, he, nd, h, hl, q => by
    have hl' : acc.length + (xs.length + 1) ≤ sizeLine := hl
    obtain ⟨hk, ht⟩ := he x List.mem_cons_self
    refine (ht ks acc _ h).1 ?_
    refine (ht ks acc _ h).2 ?_
    refine ⟨key x, rfl, fun z => ?_, by omega, innerD_same ?_⟩
    · rw [List.map_cons] at nd
      exact (List.nodup_append.mp nd).2.2 _ z _ List.mem_cons_self rfl
    · refine dc_map2 d key val hc xs _ _ (fun y hy => he y (List.mem_cons_of_mem _ hy)) (by rw [List.append_assoc]; exact nd) (okDs_app h (okDs_one hk)) (by rw [List.length_append]; show acc.length + 1 + xs.length ≤ _; omega) ?_
      rw [List.append_assoc, List.append_assoc]
      exact q
theorem lcT_over {α : Type} {is : List Nat} {tt : TDt} {te : TD} {ρ : Env} {c : List Cell} {Φ : List D → List Cell → Prop} (tu : α → List D) (g : α → Bool) (f : α → D) (hc : okCs c.length c = true) : ∀ (xs : List α) (acc : List D),
    (∀ a ∈ xs, (tu a).length = is.length ∧ ∀ acc (Ψ : Bool → List Cell → Prop), okDs c.length acc = true → Ψ (g a) (c ++ [.lst acc]) → tt (setAll is (tu a) (wipeE ρ is)) (c ++ [.lst acc]) Ψ) →
    (∀ a ∈ xs, g a = true → okD c.length (f a) = true ∧ ∀ acc (Ψ : D → List Cell → Prop), okDs c.length acc = true → Ψ (f a) (c ++ [.lst acc]) → te (setAll is (tu a) (wipeE ρ is)) (c ++ [.lst acc]) Ψ) →
    okDs c.length acc = true → acc.length + xs.length ≤ sizeLine → Φ (acc ++ (xs.filter g).map f) c → lcT is tt te (xs.map fun a => .tup (tu a)) acc ρ c Φ
  | [], acc, _, _, h, _, q => ⟨hc, h, by simpa using q⟩
  | d :: ds, acc, ht, he, h, hl, q => by
    have hl' : acc.length + (ds.length + 1) ≤ sizeLine := hl
    obtain ⟨e2, e3⟩ := ht d List.mem_cons_self
    refine ⟨tu d, rfl, e2, e3 acc _ h ?_⟩
    cases hg : g d with
    | true =>
      show te _ _ _
      obtain ⟨hk, hte⟩ := he d List.mem_cons_self hg
      refine hte acc _ h ⟨by omega, inner_same ?_⟩
      refine lcT_over tu g f hc ds _ (fun x hx => ht x (List.mem_cons_of_mem _ hx)) (fun x hx => he x (List.mem_cons_of_mem _ hx)) (okDs_app h (okDs_one hk)) (by rw [List.length_append]; show acc.length + 1 + ds.length ≤ _; omega) ?_
      rw [List.filter_cons_of_pos (by rw [hg])] at q
      simpa using q
    | false =>
      show inner _ _ _ _ _
      refine inner_same ?_
      refine lcT_over tu g f hc ds _ (fun x hx => ht x (List.mem_cons_of_mem _ hx)) (fun x hx => he x (List.mem_cons_of_mem _ hx)) h (by omega) ?_
      rw [List.filter_cons_of_neg (by rw [hg]; decide)] at q
      exact q
/-- the cells of lists behind a dict -/
def lsC (xs : List (List D)) : List Cell := xs.map .lst
def ixD (n : Nat) (k : Nat) : List D := (List.range k).map fun j => .cell (n + 1 + j)
theorem ixD_add (n k : Nat) : ixD n (k + 1) = ixD n k ++ [.cell (n + 1 + k)] := by
  unfold ixD; rw [List.range_succ, List.map_append]; rfl
/-- each turn's value is a new list -/
theorem dcC_plain {α : Type} {i n : Nat} {tk tv : TD} {ρ : Env} {c : List Cell} {Φ : List Cell → Prop} (hn : c.length = n) (d : α → D) (key : α → Key) (val : α → List D) : ∀ (xs ys : List α),
    (∀ x ∈ xs, ∀ (C : List Cell) (Ψ : D → List Cell → Prop), (Ψ (kD (key x)) C → tk (ρ.set i (some (d x))) C Ψ) ∧ (Ψ (.cell C.length) (C ++ [.lst (val x)]) → tv (ρ.set i (some (d x))) C Ψ)) →
    ((ys ++ xs).map key).Nodup → ys.length + xs.length < sizeLine → Φ (c ++ .dct ((ys ++ xs).map key) (ixD n (ys ++ xs).length) :: lsC ((ys ++ xs).map val)) → dcC i tk tv n (xs.map d) ρ (c ++ .dct (ys.map key) (ixD n ys.length) :: lsC (ys.map val)) Φ
  | [], ys, _, _, _, q => by
    rw [List.append_nil] at q
    exact q
  | x :: xs, ys, he, nd, hl, q => by
    have hl' : ys.length + (xs.length + 1) < sizeLine := hl
    refine (he x List.mem_cons_self _ _).1 ?_
    refine (he x List.mem_cons_self _ _).2 ?_
    have e1 : (c ++ Cell.dct (ys.map key) (ixD n ys.length) :: lsC (ys.map val)).length = n + 1 + ys.length := by
      rw [List.length_append, List.length_cons]; unfold lsC; rw [List.length_map, List.length_map]; omega
    refine ⟨key x, ys.map key, ixD n ys.length, rfl, ?_, ?_, by unfold ixD; rw [List.length_map, List.length_range]; omega, ?_⟩
    · rw [List.append_assoc, List.getElem?_append_right (by omega), hn, Nat.sub_self]; rfl
    · intro z
      rw [List.map_append, List.map_cons] at nd
      exact (List.nodup_append.mp nd).2.2 _ z _ List.mem_cons_self rfl
    · have e2 : ((c ++ Cell.dct (ys.map key) (ixD n ys.length) :: lsC (ys.map val)) ++ [Cell.lst (val x)]).set n (.dct (ys.map key ++ [key x]) (ixD n ys.length ++ [.cell (c ++ Cell.dct (ys.map key) (ixD n ys.length) :: lsC (ys.map val)).length])) = c ++ .dct ((ys ++ [x]).map key) (ixD n (ys ++ [x]).length) :: lsC ((ys ++ [x]).map val) := by
        rw [e1, List.append_assoc, List.set_append_right _ _ (by omega), hn, Nat.sub_self]
        show c ++ (.dct (ys.map key ++ [key x]) _ :: (lsC (ys.map val) ++ [Cell.lst (val x)])) = _
        rw [List.length_append, List.length_cons, List.length_nil, ixD_add, List.map_append, List.map_append]
        unfold lsC
        rw [List.map_append]; rfl
      show dcC i tk tv n (xs.map d) ρ (List.set ((c ++ Cell.dct (ys.map key) (ixD n ys.length) :: lsC (ys.map val)) ++ [Cell.lst (val x)]) n _) Φ
      rw [e2]
      refine dcC_plain hn d key val xs (ys ++ [x]) (fun y hy => he y (List.mem_cons_of_mem _ hy)) (by rw [List.append_assoc]; exact nd) (by rw [List.length_append]; show ys.length + 1 + xs.length < _; omega) (by rw [List.append_assoc]; exact q)
end Cw

namespace Cw
open PySem PySem.Spec PyProof.Rows L2

/-! ### divmod by a wide divisor -/
def fDivmodW : F2
  | .int i, .int j, c, Φ => (0 < j ∧ j < 1000000000000000000000000000000000000) ∧ Φ (.tup [.int (i / j), .int (i % j)]) c
  | _, _, _, _ => False
theorem divp_wide {i j : Int} (h : 0 < j ∧ j < 1000000000000000000000000000000000000) : CDivP i j := by
  refine ⟨h.1, PyProof.noPylong_of_log2 ?_⟩
  have h1 : j.natAbs < 2 ^ 150 := by
    have : (2 : Nat) ^ 150 = 1427247692705959881058285969449495136382746624 := by decide
    omega
  have h0 : j.natAbs ≠ 0 := by omega
  have h2 := (Nat.log2_lt h0).2 h1
  omega
section
variable {X : Cx} {e e2 : Expr} {ta tb : TD} {pos pp : Pos}
theorem l2_divmodW {X : Cx} : L2f X.K fDivmodW (fun u v H Q => ∃ i j, [u, v] = [.int i, .int j] ∧ CDivP i j ∧ ∀ p, H p = none → Q (.ref p) (upd H p (.tup [.int (i / j), .int (i % j)]))) := by
  intro x y c Φ h H m u v C r1 r2 Q q
  cases x <;> cases y <;> first | exact h.elim | skip
  cases (show u = _ from r1); cases (show v = _ from r2)
  exact ⟨_, _, rfl, divp_wide h.1, fun t ht => KQ.newT (X := X) q C h.2 ⟨_, _, rfl, rfl, _, _, rfl, rfl, rfl⟩ ht⟩
theorem pd_divmodW (ha : PD X e ta) (hb : PD X e2 tb) (hm : X.mg "divmod" = none) (hg : Gl X "divmod" := by rfl) (he : starEach [e, e2] X.env = (false, eval e X.env) :: starEach [e2] X.env := by rfl) (he2 : starEach [e2] X.env = (false, eval e2 X.env) :: starEach [] X.env := by rfl) (hpl : (backTo pos (starEach [e2] X.env)).any (·.1) = false := by rfl) :
    PD X (.Call (.Name "divmod" pp) [e, e2] [] pos) (dCB (un2 fDivmodW) (dCons ta (dCons tb dNil))) := pd_B2 call_divmodW l2_divmodW boot_divmod (by decide) (by decide) ha hb hg hm he he2 hpl
end
end Cw

namespace Cw
open PySem PySem.Spec PyProof.Rows L2
/-! ### sum(xs) of a list of ints -/
def fSum1 : F1 := fun x c Φ => ∃ ns : List Int, x = .lst (ns.map .int) ∧ Φ (.int ns.sum) c
theorem l1_sum1 {K : PySem.W.Frag} : L1f K fSum1 (fun u H Q => rSum K [u] H Q) := by
  intro x c Φ ⟨ns, e, h⟩ H m u C r Q q
  subst e
  obtain ⟨a, xs, rfl, h1, h2⟩ := r
  have := rl_ints h2
  subst this
  exact ⟨a, ns, rfl, SqL.of h1, q.pure C h rfl⟩
section
variable {X : Cx} {e e2 o a b : Expr} {ta tb : TD} {pos pp apos : Pos}
theorem pd_sum1 (hc : X.calm = true) (ha : PD X e ta) (hm : X.mg "sum" = none) (hg : Gl X "sum" := by rfl) (he : starEach [e] X.env = (false, eval e X.env) :: starEach [] X.env := by rfl) (hpl : (backTo pos (starEach [] X.env)).any (·.1) = false := by rfl) :
    PD X (.Call (.Name "sum" pp) [e] [] pos) (dCB (un1 fSum1) (dCons ta dNil)) := pd_B1 (cr_sum hc) l1_sum1 boot_sum (by decide) (by decide) ha hg hm he hpl
end
end Cw

namespace Cw
open PySem PySem.Spec PyProof.Rows L2
/-! ### [e for x in xs if ..] over a mutable list that stands -/
structure WalksC (K : PySem.W.Frag) (J : It) (m : Ad) (H : Hp) (ds : List D) (k : Nat) (all : List D) : Prop where
  go : ∀ (i : Nat) m' H' c', Le m H m' H' → CR K H' m' c' → c'[k]? = some (.lst all) → i < ds.length → J.go i H'
  stop : ∀ (i : Nat) m' H' c', Le m H m' H' → CR K H' m' c' → c'[k]? = some (.lst all) → ds.length ≤ i → J.stop i H'
  yld : ∀ (i : Nat) m' H' c' x H2, Le m H m' H' → CR K H' m' c' → c'[k]? = some (.lst all) → i < ds.length → J.yld i H' x H2 → ∃ d, ds[i]? = some d ∧ CR K H2 m' c' ∧ Le m' H' m' H2 ∧ RR K H2 m' d x
theorem walksC_cell {K : PySem.W.Frag} {m : Ad} {H : Hp} {k : Nat} {a : Addr} {all : List D} (ha : m.ix[k]? = some a) : WalksC K (Itl K a) m H all k all := by
  have here : ∀ {m' H' c'}, Le m H m' H' → CR K H' m' c' → c'[k]? = some (.lst all) → ∃ xs, H' a = some (.lst xs) ∧ RRL K H' m' all xs := fun {m' H' c'} l C e => by
    obtain ⟨b, h1, xs, h2, h3⟩ := C.at_ k _ e
    rw [l.pre k a ha] at h1; cases h1
    exact ⟨xs, h2, h3⟩
  refine ⟨fun i m' H' c' l C e hi => ?_, fun i m' H' c' l C e hi => ?_, fun i m' H' c' x H2 l C e hi y => ?_⟩
  · obtain ⟨xs, h1, r⟩ := here l C e
    obtain ⟨d, x, _, h2, _⟩ := RL.at r hi
    exact ⟨xs, x, SqL.of h1, h2⟩
  · obtain ⟨xs, h1, r⟩ := here l C e
    exact ⟨xs, SqL.of h1, by rw [rlen r]; exact hi⟩
  · obtain ⟨e2, y⟩ := y
    subst e2
    obtain ⟨xs, h1, r⟩ := here l C e
    obtain ⟨d, z, h3, h4, h5⟩ := RL.at r hi
    have := y xs (SqL.of h1)
    rw [h4] at this; cases this
    exact ⟨d, h3, C, Le.refl _ _, h5⟩
def lcK (k : Nat) (all : List D) (i : Nat) (tt : TDt) (te : TD) : List D → List D → Env → List Cell → (List D → List Cell → Prop) → Prop
  | [], acc, _, c, Φ => c[k]? = some (.lst all) ∧ okCs c.length c = true ∧ okDs c.length acc = true ∧ Φ acc c
  | d :: ds, acc, ρ, c, Φ => c[k]? = some (.lst all) ∧ tt (ρ.set i (some d)) (c ++ [.lst acc]) fun b c2 => match b with
    | true => te (ρ.set i (some d)) c2 fun y c3 => acc.length < sizeLine ∧ inner c.length acc y c3 fun c4 => lcK k all i tt te ds (acc ++ [y]) ρ c4 Φ
    | false => inner c.length acc .non c2 fun c4 => lcK k all i tt te ds acc ρ c4 Φ
def dLcC (ta : TD) (i : Nat) (tt : TDt) (te : TD) : TD := fun ρ c Φ => ta ρ c fun x c1 => ∃ k all, x = .cell k ∧ c1[k]? = some (.lst all) ∧ lcK k all i tt te all [] ρ c1 fun xs c2 => Φ (.lst xs) c2
/-- the loop of a comprehension -/
theorem lc_walkC {K : PySem.W.Frag} {J : It} {k : Nat} {all : List D} {m : Ad} {H1 : Hp} {ds : List D} {σ : L2.St} {ρ : Env} {c : List Cell} {i : Nat} {tt : TDt} {te : TD} {Φ : List D → List Cell → Prop} {Qd : Addr → Hp → Prop} (wk : WalksC K J m H1 ds k all) (S : SR K σ H1 m ρ c) (h : lcK k all i tt te ds [] ρ c Φ)
    (q : ∀ p xs c' H', Φ xs c' → CR K H' m c' → RR K H' m (.lst xs) (.ref p) → Le m H1 m H' → Qd p H') : ∀ p, H1 p = none → ∃ W : Nat → Nat → Hp → Prop, (∃ mm, W 0 mm (upd H1 p (.lst []))) ∧ ∀ j mm H, W j mm H →
      (J.stop j H ∧ Qd p H) ∨ (J.go j H ∧ ∃ Nx : Hp → Prop, (∀ H', Nx H' → ∃ m', m' < mm ∧ W (j + 1) m' H') ∧ ∀ x H', J.yld j H x H' → gName i x (wipe σ [i]) H' fun σ2 H2 => wipe σ2 [i] = wipe σ [i] ∧ liftT K tt σ2 H2 fun b H3 =>
        if b = true then lift K te σ2 H3 fun y H4 => ∃ acc, H4 p = some (.lst acc) ∧ acc.length < sizeLine ∧ Nx (upd H4 p (.lst (acc ++ [y]))) else Nx H3) := by
  intro p hp
  have z0 := cell_new (ce := .lst []) (o := .lst []) S.cr hp ⟨[], upd_same, rfl⟩
  -- the state behind a number of turns
  refine ⟨fun j mm H => mm = ds.length - j ∧ j ≤ ds.length ∧ ∃ c' acc, c'.length = c.length ∧ CR K H (m.push p) (c' ++ [.lst acc]) ∧ Le m H1 (m.push p) H ∧ lcK k all i tt te (ds.drop j) acc ρ c' Φ,
    ⟨ds.length, by simp, Nat.zero_le _, c, [], rfl, z0.1, z0.2.1, by simpa using h⟩, ?_⟩
  rintro j mm H ⟨rfl, hj, c', acc, hl, C, l, hf⟩
  by_cases hlt : j < ds.length
  · have hk : (c' ++ [Cell.lst acc])[k]? = some (.lst all) := by
      rw [List.drop_eq_getElem_cons hlt] at hf
      rw [List.getElem?_append_left (List.getElem?_eq_some_iff.mp hf.1).1]; exact hf.1
    refine .inr ⟨wk.go j (m.push p) H _ l C hk hlt, fun H' => ∃ c' acc, c'.length = c.length ∧ CR K H' (m.push p) (c' ++ [.lst acc]) ∧ Le m H1 (m.push p) H' ∧ lcK k all i tt te (ds.drop (j + 1)) acc ρ c' Φ, fun H' w => ⟨ds.length - (j + 1), by omega, rfl, hlt, w⟩, fun x H2 y => ?_⟩
    obtain ⟨d, hd, C2, l2, rx⟩ := wk.yld j (m.push p) H _ x H2 l C hk hlt y
    have e : ds.drop j = d :: ds.drop (j + 1) := by
      rw [List.drop_eq_getElem_cons hlt]
      congr 1
      have := List.getElem?_eq_getElem hlt
      rw [hd] at this
      exact (Option.some.inj this).symm
    rw [e] at hf
    obtain ⟨_, hf⟩ := hf
    have L2 := l.trans l2
    have S2 : SR K ((wipe σ [i]).set i (some x)) H2 (m.push p) (ρ.set i (some d)) (c' ++ [.lst acc]) := (S.step L2 C2).blk rx
    refine ⟨by rw [wipe1, wipe1, List.set_set, List.set_set], m.push p, _, _, _, S2, hf, fun b c2 H3 m3 hb C3 l3 => ?_⟩
    have hmn : (m.push p).ix.length = c'.length + 1 := by
      have := C2.len
      simp at this
      exact this
    cases b with
    | false =>
      dsimp only
      rw [if_neg (by decide)]
      obtain ⟨z1, _, z2, z3, z4⟩ := inner_ok (v := .non) hmn hb C3 rfl l3
      exact ⟨c2.take c'.length, acc, by rw [z4, hl], z1, L2.trans z2, z3⟩
    | true =>
      dsimp only
      rw [if_pos rfl]
      refine ⟨m3, _, c2, _, S2.step l3 C3, hb, fun y c3 v H4 m4 hy C4 R4 l4 => ?_⟩
      obtain ⟨hsz, hin⟩ := hy
      obtain ⟨z1, z5, z2, z3, z4⟩ := inner_ok hmn hin C4 R4 (l3.trans l4)
      obtain ⟨a, h5, xs, h6, h7⟩ := z1.at_ c'.length (.lst acc) (by rw [List.getElem?_append_right (by omega), z4]; simp)
      have last : (m.push p).ix[c'.length]? = some p := by
        show (m.ix ++ [p])[c'.length]? = some p
        rw [hl, ← S.cr.len]; simp
      rw [last] at h5; cases h5
      refine ⟨xs, h6, by rw [rlen h7]; exact hsz, ?_⟩
      have hm : p ∈ (m.push p).ix := List.mem_of_getElem? last
      have z := cell_put (o := .lst (xs ++ [v])) (ce := .lst (acc ++ [y])) z1 last ⟨_, upd_same, by show RL _ _ (hid (m.push p) _) _ _; rw [hid_mut hm]; exact RL.append h7 ⟨v, [], rfl, z5, rfl⟩⟩
      have ec : (c3.take c'.length ++ [Cell.lst acc]).set c'.length (.lst (acc ++ [y])) = c3.take c'.length ++ [.lst (acc ++ [y])] := by
        rw [List.set_append_right _ _ (by omega), z4]; simp
      rw [ec] at z
      exact ⟨c3.take c'.length, acc ++ [y], by rw [z4, hl], z.1, (L2.trans z2).trans z.2, z3⟩
  · have ej : j = ds.length := by omega
    subst ej
    rw [List.drop_length] at hf
    obtain ⟨hk, h1, h2, h3⟩ := hf
    have hk' : (c' ++ [Cell.lst acc])[k]? = some (.lst all) := by
      rw [List.getElem?_append_left (List.getElem?_eq_some_iff.mp hk).1]; exact hk
    obtain ⟨C', _, ⟨xs, h4, h5⟩, hp1, hp2⟩ := C.pop h1
    refine .inl ⟨wk.stop _ (m.push p) H _ l C hk' (Nat.le_refl _), q p acc c' H h3 C' ⟨p, xs, rfl, by rw [hid_of ⟨hp1, hp2⟩]; exact h4, RL.low ex_pop (low_push C'.len) acc xs h2 h5⟩ ⟨fun _ _ e => e, l.ex.trans ex_pop, rfl, l.hk' ex_pop, fun _ h => .inl h, l.al⟩⟩
section
variable {X : Cx} {tg iter e elt : Expr} {ta te : TD} {tt : TDt} {pos pp tp : Pos} {ifs : List Expr} {scope : Scope} {x y : Str} {i j : Nat}
theorem pd_lcC (hc : X.calm = true) (hN : X.N.Nodup) (hi : PD X iter ta) (ok : blkC X.N X.env.scope scope [(x, i)] = true)
    (hg : ∀ (s : Shared) (H : Hp) (C : Addr) (cl : List (Str × Addr)) (fp : List Addr), PG (X.blk s H scope (compEnvC scope cl C X.env) fp) (.Name x tp) (gName i))
    (ht : ∀ (s : Shared) (H : Hp) (C : Addr) (cl : List (Str × Addr)) (fp : List Addr), PTD (X.blk s H scope (compEnvC scope cl C X.env) fp) ifs tt)
    (he : ∀ (s : Shared) (H : Hp) (C : Addr) (cl : List (Str × Addr)) (fp : List Addr), PD (X.blk s H scope (compEnvC scope cl C X.env) fp) elt te) (hs : ∀ x, foldedSetIterable iter X.env x = pure x := by intro _; rfl) :
    PD X (.ListComp elt [⟨.Name x tp, iter, ifs, 0⟩] scope pos) (dLcC ta i tt te) :=
  PE.imp (pe_lc (own := [(x, i)]) hc hN (pi_list hi) (blkOk_by ok) hg ht he hs) fun σ H Q ⟨m, ρ, c, Φ, S, h, q⟩ =>
    ⟨m, ρ, c, _, S, h, fun d c1 v H1 m1 hx C1 R1 L1 => by
      obtain ⟨k, all, rfl, hk, hf⟩ := hx
      obtain ⟨a, ha, rfl⟩ := R1
      obtain ⟨b, h1, xs, h2, h3⟩ := C1.at_ k _ hk
      rw [ha] at h1; cases h1
      exact ⟨a, rfl, ⟨xs, SqL.of h2⟩, lc_walkC (walksC_cell ha) (S.step L1 C1) hf fun p xs c' H' h' C' R' l' => q _ c' _ H' m1 h' C' R' (L1.trans l')⟩⟩
theorem psd_setLcC {spos py : Pos} (hc : X.calm = true) (hN : X.N.Nodup) (hy : X.N[j]? = some y) (hyl : X.env.scope.names.lookup y = some .local)
    (hsw : swapsWith (.ListComp elt [⟨.Name x tp, iter, ifs, 0⟩] scope pos) (some (.Name y py)) spos.line X.env = pure true)
    (hi : PD X iter ta) (ok : blkC X.N X.env.scope scope [(x, i)] = true)
    (hg : ∀ (s : Shared) (H : Hp) (C : Addr) (cl : List (Str × Addr)) (fp : List Addr), PG (X.blk s H scope (compEnvC scope cl C X.env) fp) (.Name x tp) (gName i))
    (ht : ∀ (s : Shared) (H : Hp) (C : Addr) (cl : List (Str × Addr)) (fp : List Addr), PTD (X.blk s H scope (compEnvC scope cl C X.env) fp) ifs tt)
    (he : ∀ (s : Shared) (H : Hp) (C : Addr) (cl : List (Str × Addr)) (fp : List Addr), PD (X.blk s H scope (compEnvC scope cl C X.env) fp) elt te) (hs : ∀ x, foldedSetIterable iter X.env x = pure x := by intro _; rfl) :
    PSD X (.Assign [.Name y py] (.ListComp elt [⟨.Name x tp, iter, ifs, 0⟩] scope pos) spos) (dSet j (dLcC ta i tt te)) :=
  PS.imp (ps_setLc (i := j) (own := [(x, i)]) hc hN hy hyl hsw (pi_list hi) (blkOk_by ok) hg ht he hs) fun Dn σ H ⟨m, ρ, c, De, S, h, n, r, b, kk⟩ =>
    ⟨m, ρ, c, _, S, h, fun d c1 v H1 m1 hx C1 R1 L1 => by
      obtain ⟨k, all, rfl, hk, hf⟩ := hx
      obtain ⟨a, ha, rfl⟩ := R1
      obtain ⟨b', h1, xs, h2, h3⟩ := C1.at_ k _ hk
      rw [ha] at h1; cases h1
      exact ⟨a, rfl, ⟨xs, SqL.of h2⟩, lc_walkC (walksC_cell ha) (S.step L1 C1) hf fun p xs c' H' h' C' R' l' => n _ H' m1 _ c' h' ((S.step (L1.trans l') C').set R') (L1.trans l')⟩⟩
end
end Cw

namespace Cw
open PySem PySem.Spec PyProof.Rows L2
/-! ### dict(xs) of a list of pairs whose keys are tuples -/
section
variable {prog : Program} {w : World}
abbrev tK (prog : Program) (w : World) : HeapKind prog w (List Key) := tupleKind (mixKind prog w)
def mergH (acc more : List (List Key × Addr × Value)) : List (List Key × Addr × Value) := more.foldl (fun a q => storedH a q.1 q.2.1 q.2.2) acc
theorem tk_keep {g g' : Heap} {ks : List Key} {a : Addr} (x : (tK prog w).is g ks a) (k : ∀ o, g.get? a = some o → g'.get? a = some o) : (tK prog w).is g' ks a := by
  obtain ⟨o, its, n, e1, e2, e3, e4⟩ := x
  exact ⟨o, its, n, k o e1, e2, e3, e4⟩
theorem dt_keep {g g' : Heap} {S : Addr} {xs : List (List Key × Addr × Value)} (m : g.DictOfH (tK prog w) S xs) (kS : ∀ o, g.get? S = some o → g'.get? S = some o) (kx : ∀ x ∈ xs, ∀ o, g.get? x.2.1 = some o → g'.get? x.2.1 = some o) : g'.DictOfH (tK prog w) S xs := by
  obtain ⟨o, es, ep, e1, e2, e3, e4, e5, e6⟩ := m
  exact ⟨o, es, ep, kS o e1, e2, e3, e4, fun x hx => tk_keep (e5 x hx) (kx x hx), e6⟩
theorem storedH_mem {xs : List (List Key × Addr × Value)} {k : List Key} {a : Addr} {v : Value} {P : Addr → Prop} (h : ∀ x ∈ xs, P x.2.1) (ha : P a) : ∀ x ∈ storedH xs k a v, P x.2.1 := by
  intro x hx
  unfold storedH at hx
  split at hx
  · obtain ⟨y, hy, rfl⟩ := List.mem_map.mp hx
    unfold putAt
    split
    · exact h y hy
    · exact h y hy
  · rcases List.mem_append.mp hx with hx | hx
    · exact h x hx
    · rw [List.mem_singleton.mp hx]; exact ha
theorem storedH_le (xs : List (List Key × Addr × Value)) (k : List Key) (a : Addr) (v : Value) : (storedH xs k a v).length ≤ xs.length + 1 := by
  unfold storedH
  split
  · rw [List.length_map]; omega
  · rw [List.length_append]; simp
variable {A : Around} {E : Value → Shared → Prop}
theorem updT_loop {R : Result → Shared → Prop} {S I l : Addr} {items : Array Value} {res : Value} (hu : A.in1.units < cLine) (hh : A.handled = none) (e1 : l ≠ I) (e2 : S ≠ I) (e3 : S ≠ l) :
    ∀ (more : List (List Key × Addr × Value)) (i : Nat) (acc : List (List Key × Addr × Value)) (ix : Int) (t : Tok) (s : Shared), items.size = i + more.length → acc.length + more.length ≤ sizeLine →
      (∀ (j : Nat) q, more[j]? = some q → ∃ b : Addr, items[i + j]? = some (.ref b) ∧ (b ≠ S ∧ b ≠ I) ∧ (q.2.1 ≠ S ∧ q.2.1 ≠ I) ∧ IsTup s.heap b #[.ref q.2.1, q.2.2] ∧ (tK prog w).is s.heap q.1 q.2.1) →
      (∀ x ∈ acc, x.2.1 ≠ S ∧ x.2.1 ≠ I) → s.heap.IsListIter I l i → s.heap.IsList l items → s.heap.DictOfH (tK prog w) S acc →
      (∀ g tk, g.DictOfH (tK prog w) S (mergH acc more) → (∀ b o, b ≠ S → b ≠ I → s.heap.get? b = some o → g.get? b = some o) → R (.ok (.ret res)) { s with heap := g, toks := tk }) →
      codeAny (model prog w) A (.builtin "dict.update.loop" ⟨[.ref S, .ref I, .int ix t, res], []⟩) R s := by
  intro more
  induction more with
  | nil =>
    intro i acc ix t s hz _ _ ha hit hl hm hR
    refine codeAny_builtin L2.ud_entry ?_
    rw [Around.under_plainId L2.ud_plain _]
    show wpAny _ A.in1 (pyNext (.ref I) >>= _) _ _ _
    refine wpAny_bind (wpAny_pyNext_list_end (A := A.in1) hh hit hl (Array.getElem?_eq_none (by rw [hz]; simp)) fun g he => ?_)
    show wpAny _ A.in1 (Builtin.Dict.addKeywords S [] >>= _) _ _ _
    exact wpAny_bind (wpAny_pure (wpAny_pure (hR g s.toks (dt_keep hm (fun o z => he S o e2 z) fun x hx o z => he _ o (ha x hx).2 z) fun b o _ hb z => he b o hb z)))
  | cons q more ih =>
    intro i acc ix t s hz hln ht ha hit hl hm hR
    obtain ⟨b, hb, ⟨bS, bI⟩, ⟨kS, kI⟩, htup, hk⟩ := ht 0 q rfl
    rw [List.length_cons] at hz hln
    refine codeAny_builtin L2.ud_entry ?_
    rw [Around.under_plainId L2.ud_plain _]
    show wpAny _ A.in1 (pyNext (.ref I) >>= _) _ _ _
    refine wpAny_bind (wpAny_pyNext_list_item (x := .ref b) hit hl (by simpa using hb) fun g1 hit1 s1 => ?_)
    have tup1 : IsTup g1 b #[.ref q.2.1, q.2.2] := htup.extBut s1.extBut bI
    have lst1 : g1.IsList l items := hl.extBut s1.extBut e1
    have m1 : g1.DictOfH (tK prog w) S acc := dt_keep hm (fun o z => s1.extBut S o e2 z) fun x hx o z => s1.extBut _ o (ha x hx).2 z
    have k1 : (tK prog w).is g1 q.1 q.2.1 := tk_keep hk fun o z => s1.extBut _ o kI z
    obtain ⟨o, ho, hc, n, hd⟩ := id tup1
    show wpAny _ A.in1 (holding [Value.ref b] _ >>= _) _ _ _
    refine wpAny_bind (wpAny_holding (wpAny_bind (wpAny_tryCatch ?_)))
    unfold Builtin.Dict.pairItems
    refine wpAny_bind (wpAny_typeOf (T := "tuple") ⟨o, ho, hc⟩ ?_)
    rw [if_pos (by first | decide | rfl | simp)]
    refine wpAny_bind (wpAny_seqItems ho hd (wpAny_pure ?_))
    show wpAny _ A.in1 (holding [.ref q.2.1, q.2.2] (dictSet S (.ref q.2.1) q.2.2)) _ _ _
    refine wpAny_holding (wpAny_dictSet_heap (knd := tK prog w) (k := q.1) hu k1 m1 (fun g2 m2 s2 => ?_) (by omega))
    have old : ∀ c oc, c ≠ S → c ≠ I → s.heap.get? c = some oc → g2.get? c = some oc := fun c oc z1 z2 z => s2.extBut c oc z1 (s1.extBut c oc z2 z)
    have le := storedH_le acc q.1 q.2.1 q.2.2
    refine wpAny_pure ⟨plainId_quiet L2.ud_plain _, ih (i + 1) (storedH acc q.1 q.2.1 q.2.2) (ix + 1) 0 _ (show items.size = i + 1 + more.length by omega) (by omega) (fun j q' e => ?_) ?_ ?_ (lst1.extBut s2.extBut (Ne.symm e3)) m2 fun g tk hd' k => ?_⟩
    · obtain ⟨b', w1, ⟨w2, w3⟩, ⟨w4, w5⟩, w6, w7⟩ := ht (j + 1) q' (by simpa using e)
      exact ⟨b', by rw [show i + 1 + j = i + (j + 1) by omega]; exact w1, ⟨w2, w3⟩, ⟨w4, w5⟩, (w6.extBut s1.extBut w3).extBut s2.extBut w2, tk_keep w7 fun o z => old _ o w4 w5 z⟩
    · exact storedH_mem (P := fun x => x ≠ S ∧ x ≠ I) ha ⟨kS, kI⟩
    · exact hit1.at fun o' z => s2.extBut I o' (Ne.symm e2) z
    · exact hR g tk hd' fun c oc z1 z2 z => k c oc z1 z2 (old c oc z1 z2 z)
theorem dictT_call {s : Shared} {l : Addr} {ol : Obj} {items : Array Value} {n : Nat} {prs : List (List Key × Addr × Value)} {Q : Value → Shared → Prop} (hu : A.in1.in1.in1.units < cLine) (hh : A.handled = none) (hl : s.heap.get? l = some ol) (hc : ol.cls = .type "list") (hd : ol.dict = none)
    (hdat : ol.data = .seq items n) (hsz : items.size = prs.length) (hln : prs.length ≤ sizeLine)
    (ht : ∀ (j : Nat) q, prs[j]? = some q → ∃ b : Addr, items[j]? = some (.ref b) ∧ IsTup s.heap b #[.ref q.2.1, q.2.2] ∧ (tK prog w).is s.heap q.1 q.2.1)
    (h : ∀ g tk, g.DictOfH (tK prog w) s.heap.objs.size (mergH [] prs) → (∀ b o, s.heap.get? b = some o → g.get? b = some o) → Q (.ref s.heap.objs.size) { s with heap := g, toks := tk }) :
    wpAny (model prog w) A (call (.type "dict") [.ref l]) Q E s := by
  refine callType_codes (Q₁ := fun u z => u = .ref s.heap.objs.size ∧ z = { s with heap := s.heap.push { cls := .type "dict", data := .dict #[] } }) PySem.F.kt_called_dict (PySem.F.kt_typeCall_dict_1 _) PySem.F.entry_dict_init (kt_code_dict_new _ ⟨rfl, rfl⟩) ?_
  rintro u z ⟨rfl, rfl⟩
  have d0 : (s.heap.push { cls := .type "dict", data := .dict #[] }).DictOfH (tK prog w) s.heap.objs.size [] := Heap.DictOfH.new s.heap
  have k0 : ∀ b o, s.heap.get? b = some o → (s.heap.push { cls := .type "dict", data := .dict #[] }).get? b = some o := fun b o e => Heap.get?_push_of_some _ e
  refine ⟨d0.typeIs, PySem.F.args_dict_init_2 _ _, ?_⟩
  unfold Builtin.«dict.__init__»
  refine wpAny_bind ?_
  unfold Builtin.Dict.selfAndRest
  refine wpAny_bind (wpAny_notOrdered_dict d0.typeIs ?_)
  show wpAny _ _ (pure (s.heap.objs.size, [Value.ref l])) _ _ _
  refine wpAny_pure ?_
  show wpAny _ _ (Builtin.Dict.updateFrom "dict.__init__" s.heap.objs.size (.ref l) [] .none) _ _ _
  unfold Builtin.Dict.updateFrom
  refine wpAny_bind (wpAny_typeOf (T := "list") ⟨ol, k0 _ _ hl, hc⟩ ?_)
  rw [if_pos (by first | decide | rfl | simp)]
  refine wpAny_bind (L2.miss_list (k0 _ _ hl) hc hdat hd hh fun g1 tk1 hk1 => ?_)
  rw [if_pos (show (none : Option Value).isNone = true from rfl)]
  refine wpAny_bind (wpAny_rule ?_)
  have l1 : g1.IsList l items := ⟨ol, hk1 _ _ (k0 _ _ hl), hc, n, hdat⟩
  have S1 : s.heap.objs.size < g1.objs.size := Heap.lt_size (hk1 _ _ (Heap.get?_push_size _ rfl))
  refine wpAny_bind (wpAny_pyIter_list l1 ?_)
  have k2 : ∀ b o, g1.get? b = some o → (g1.push { cls := .type "list_iterator", data := .fields #[.ref l, .int 0 0] }).get? b = some o := fun b o e => Heap.get?_push_of_some _ e
  have all : ∀ b o, s.heap.get? b = some o → (g1.push { cls := .type "list_iterator", data := .fields #[.ref l, .int 0 0] }).get? b = some o := fun b o e => k2 _ _ (hk1 _ _ (k0 _ _ e))
  have far : ∀ {b : Addr}, b < s.heap.objs.size → b ≠ s.heap.objs.size ∧ b ≠ g1.objs.size := fun z => ⟨Nat.ne_of_lt z, Nat.ne_of_lt (Nat.lt_trans z S1)⟩
  have ll := far (Heap.lt_size hl)
  have key := updT_loop (prog := prog) (w := w) (A := A.in1) (R := wants (fun r z => r = .none ∧ Q (.ref s.heap.objs.size) z) E) (S := s.heap.objs.size) (I := g1.objs.size) (l := l) (items := items) (res := Value.none) (by first | exact hu | exact Nat.lt_of_le_of_lt (by first | exact Nat.le_refl _ | exact Nat.le_succ _) hu) hh
    ll.2 (Nat.ne_of_lt S1) (Ne.symm ll.1) prs 0 [] 0 0
    { s with heap := g1.push { cls := .type "list_iterator", data := .fields #[.ref l, .int 0 0] }, toks := tk1 } (by rw [hsz, Nat.zero_add]) (by rw [List.length_nil, Nat.zero_add]; exact hln)
    (fun j q e => by
      obtain ⟨b, w1, w2, w3⟩ := ht j q e
      refine ⟨b, by rw [Nat.zero_add]; exact w1, far w2.lt, ?_, w2.keeps fun c o z => all _ _ z, tk_keep w3 fun o z => all _ _ z⟩
      obtain ⟨o, _, _, z, _⟩ := w3
      exact far (Heap.lt_size z))
    (by intro x hx; cases hx) ⟨_, Heap.get?_push_size _ rfl, rfl, rfl⟩ (l1.at fun o e => k2 _ _ e) (dt_keep d0 (fun o z => k2 _ _ (hk1 _ _ z)) (by intro x hx; cases hx))
    (fun g tk hd' k => ⟨rfl, h g tk hd' fun b o e => k b o (far (Heap.lt_size e)).1 (far (Heap.lt_size e)).2 (all _ _ e)⟩)
  first
    | exact wpAny_pure ⟨plainId_quiet L2.ud_plain _, key⟩
    | exact wpAny_bind (wpAny_pure (wpAny_pure ⟨plainId_quiet L2.ud_plain _, key⟩))
end
def mergT (kvs more : List (List Key × V)) : List (List Key × V) := more.foldl (fun acc kv => putK acc kv.1 kv.2) kvs
theorem KT.merg {H : Hp} : ∀ {more : List (List Key × V)} {rs : List (List Key × Addr × Value)} {kvs : List (List Key × V)} {vs : List (List Key × Addr × Value)}, KT H more rs → KT H kvs vs → KT H (mergT kvs more) (mergH vs rs)
  | _, _, _, _, .nil, h => h
  | _, _, _, _, .cons (a := p) (b := q) ⟨e, hb, hv⟩ t, h => by
    show KT H (mergT (putK _ p.1 p.2) _) (mergH (storedH _ q.1 q.2.1 q.2.2) _)
    rw [← e]
    exact KT.merg t (h.put p.1 hb hv)
theorem mergT_le : ∀ (more kvs : List (List Key × V)), (mergT kvs more).length ≤ kvs.length + more.length
  | [], kvs => Nat.le_refl _
  | p :: more, kvs => by
    have h1 := mergT_le more (putK kvs p.1 p.2)
    have h2 := length_putK kvs p.1 p.2
    show (mergT (putK kvs p.1 p.2) more).length ≤ kvs.length + (more.length + 1)
    omega
def PairT (K : PySem.W.Frag) (H : Hp) (p : Addr) (kv : List Key × V) : Prop := ∃ kb, SqT K H p [.ref kb, kv.2] ∧ H kb = some (.tup (kv.1.map kV))
section
variable {X : Cx}
theorem pairsT_of {pins : List (Addr × Obj)} {σ : L2.St} {H : Hp} {s : Shared} (I : Inv X pins σ H s) : ∀ {ps : List Addr} {kvs : List (List Key × V)}, Paired (PairT X.K H) ps kvs →
    ∃ prs : List (List Key × Addr × Value), KT H kvs prs ∧ prs.length = ps.length ∧ ∀ (j : Nat) q, prs[j]? = some q → ∃ b : Addr, ps[j]? = some b ∧ IsTup s.heap b #[.ref q.2.1, q.2.2] ∧ (tK X.prog X.w).is s.heap q.1 q.2.1
  | _, _, .nil => ⟨[], .nil, rfl, fun j q e => by simp at e⟩
  | _, _, .cons (a := p) (b := kv) h t => by
    obtain ⟨prs, r, hl, hp⟩ := pairsT_of I t
    obtain ⟨kb, h, hk⟩ := h
    obtain ⟨its, rv, ht, _⟩ := I.tuple h
    obtain ⟨u, y, ei, ru, ry⟩ := vals2 rv
    subst ei
    obtain rfl : u = Value.ref kb := ru
    refine ⟨(kv.1, kb, y) :: prs, .cons ⟨rfl, hk, ry⟩ r, by rw [List.length_cons, List.length_cons, hl], fun j q e => ?_⟩
    cases j with
    | zero =>
      have e' : (kv.1, kb, y) = q := Option.some.inj e
      subst e'
      exact ⟨p, rfl, ht, key_of I.hok hk⟩
    | succ j =>
      obtain ⟨b, e1, e2, e3⟩ := hp j q (by simpa using e)
      exact ⟨b, by simpa using e1, e2, e3⟩
def rDictT (K : PySem.W.Frag) : List V → Hp → VK → Prop := fun xs H Q => ∃ (a : Addr) (ps : List Addr) (kvs : List (List Key × V)), xs = [.ref a] ∧ SqL K H a (ps.map V.ref) ∧ Paired (PairT K H) ps kvs ∧ ∀ p, H p = none → Q (.ref p) (upd H p (.dT (mergT [] kvs)))
theorem call_dictT (hcalm : X.calm = true) (hu : X.A.units + 8 < cLine) : CallR X (.type "dict") (rDictT X.K) := by
  intro pins s σ H xs us Q I r q
  obtain ⟨a, ps, kvs, ex, hq, hp, q⟩ := q
  subst ex
  obtain ⟨u, eu, rx⟩ := vals1 r
  subst eu
  cases rx
  obtain ⟨its, rv, pl, hz⟩ := I.list hq
  obtain rfl := L2.refs_at rv
  rw [List.length_map] at hz
  obtain ⟨prs, rel, hl, hpr⟩ := pairsT_of I hp
  obtain ⟨o, n, ho, hc, hd, hdat⟩ := pl
  refine dictT_call (prs := prs) (show X.A.units + 1 + 1 + 1 < cLine by omega) (I.ok.hd hcalm) ho hc hd hdat (by simp [hl]) (by rw [hl]; exact hz) (fun j q' e => ?_) fun g tk hd' k => ?_
  · obtain ⟨b, e1, e2, e3⟩ := hpr j q' e
    exact ⟨b, by simp [e1], e2, e3⟩
  · have hm : (s.heap.objs.size == sysModules) = false := beq_eq_false_iff_ne.mpr (Nat.ne_of_gt I.big)
    have hlen : (mergT [] kvs).length ≤ sizeLine := by
      have h1 := mergT_le kvs []
      have h2 : kvs.length = ps.length := by rw [Paired.length rel, hl]
      rw [List.length_nil, Nat.zero_add] at h1
      omega
    obtain ⟨od, es, ep, d1, d2, d3, d4, _, d6⟩ := hd'
    have fr : H s.heap.objs.size = none := I.hok.fresh (Nat.le_refl _)
    refine ⟨.ref s.heap.objs.size, upd H s.heap.objs.size (.dT (mergT [] kvs)), I.laid (t' := tk) k (Nat.le_refl _) (show ObjOk X.prog X.w _ _ _ (.dT (mergT [] kvs)) from ⟨hlen, hm, mergH [] prs, (KT.merg rel .nil).keeps fun b ys e => ?_, od, es, ep, d1, d2, d3, d4, d6⟩), rfl, q _ fr⟩
    rw [upd_ne (ne_of_none e fr)]; exact e
end
end Cw

namespace Cw
open PySem PySem.Spec PyProof.Rows L2
/-! ### == of dicts whose keys are tuples -/
section
variable {prog : Program} {w : World} {A : Around} {E : Value → Shared → Prop} {s : Shared}
inductive KqT (A : Around) (s : Shared) (xb : List (List Key × Addr × Value)) : List (List Key × Addr × Value) → Bool → Prop
  | nil : KqT A s xb [] true
  | miss {k : List Key} {p : Addr × Value} {r} : atKey xb k = none → KqT A s xb ((k, p) :: r) false
  | hit {k : List Key} {p y : Addr × Value} {r} {e b : Bool} : atKey xb k = some y → SeqAt.EqAt A s p.2 y.2 e → KqT A s xb r b → KqT A s xb ((k, p) :: r) (e && b)
theorem keyT_at {xs : List (List Key × Addr × Value)} {k : List Key} {j : Nat} {p : Addr × Value} (hn : (xs.map (·.1)).Nodup) (h : xs[j]? = some (k, p)) : atKey xs k = some p := atKey_of_get hn h
theorem atKey_none_of {xs : List (List Key × Addr × Value)} {k : List Key} (h : ∀ (j : Nat) (p : Addr × Value), xs[j]? ≠ some (k, p)) : atKey xs k = none := by
  unfold atKey
  rw [List.find?_eq_none.mpr, Option.map_none]
  intro x hx hk
  obtain ⟨j, hj⟩ := List.getElem?_of_mem hx
  have e : x.1 = k := by simpa using hk
  exact h j x.2 (by rw [hj, ← e])
theorem sameT_run {nm : String} {a b : Addr} {xa xb : List (List Key × Addr × Value)} {r : Bool} {Q : Bool → Shared → Prop} (hu : A.units < cLine) (ha : (a == sysModules) = false) (hb : (b == sysModules) = false)
    (da : s.heap.DictOfH (tK prog w) a xa) (db : s.heap.DictOfH (tK prog w) b xb) (hits : xa.length = xb.length → KqT A s xb xa r) (h : Q (xa.length == xb.length && r) s) :
    wpAny (model prog w) A (Builtin.Dict.samePairs nm a b) Q E s := by
  obtain ⟨oa, es, pa, a1, _, a3, a4, a5, _⟩ := da
  obtain ⟨ob, fs, pb, b1, _, b3, b4, b5, b6⟩ := db
  have la : es.size = xa.length := size_of_entries a4
  have lb : fs.size = xb.length := size_of_entries b4
  rw [← la, ← lb] at h
  unfold Builtin.Dict.samePairs Builtin.Dict.showsAll
  rw [if_neg (by rw [ha]; decide), if_neg (by rw [hb]; decide)]
  refine wpAny_bind (wpAny_pure (wpAny_bind (wpAny_pure (wpAny_bind (wpAny_dictEntries a1 a3 ?_)))))
  dsimp only
  refine wpAny_bind (wpAny_dictEntries b1 b3 ?_)
  by_cases z : es.size = fs.size
  · have h' : Q r s := by simpa [z] using h
    have start := hits (by rw [← la, ← lb]; exact z)
    rw [if_neg (by rw [z]; simp)]
    refine wpAny_bind (wpAny_dictEpoch a1 a3 (wpAny_bind ?_))
    rw [Std.Legacy.Range.forIn_eq_forIn_range']
    simp only [Std.Legacy.Range.size, Nat.sub_zero, Nat.add_sub_cancel, Nat.div_one]
    refine wpAny_forIn_list _ (fun rest q z => z = s ∧ q = (none, ()) ∧ ∃ i, rest = List.range' i (es.size - i) ∧ i ≤ es.size ∧ KqT A s xb (xa.drop i) r) _ ?_ ?_ _ _ ⟨rfl, rfl, 0, by simp, Nat.zero_le _, start⟩
    · intro x rest q zs hinv
      obtain ⟨hzs, hq, i, hr, hi, pre⟩ := hinv
      subst hzs
      have less : i < es.size := by
        rcases Nat.lt_or_ge i es.size with g | g
        · exact g
        · rw [Nat.sub_eq_zero_of_le g] at hr; exact nomatch hr
      have split : es.size - i = (es.size - (i + 1)) + 1 := by omega
      rw [split, List.range'_succ] at hr
      injection hr with hx hrest
      subst hx
      obtain ⟨xk, hxk⟩ : ∃ y, xa[x]? = some y := ⟨xa[x]'(by rw [← la]; exact less), List.getElem?_eq_getElem _⟩
      obtain ⟨k, p⟩ := xk
      have hd : xa.drop x = (k, p) :: xa.drop (x + 1) := by
        have lt : x < xa.length := by rw [← la]; exact less
        rw [List.drop_eq_getElem_cons lt]
        congr 1
        rw [List.getElem?_eq_getElem lt] at hxk
        exact Option.some.inj hxk
      rw [hd] at pre
      have hent : es[x]? = some (entryOfKey (tK prog w) (k, p)) := by rw [entry_at a4, hxk]; rfl
      refine wpAny_bind (wpAny_dictEntries a1 a3 ?_)
      rw [hent]
      have isk : (tK prog w).is zs.heap k p.1 := a5 (k, p) (List.mem_of_getElem? hxk)
      show wpAny _ _ (holding [Value.ref p.1, p.2] _ >>= _) _ _ _
      refine wpAny_bind (wpAny_holding (wpAny_bind (wpAny_dictFind_heap (knd := tK prog w) (k := k) hu isk b1 b3 b4 b5 b6 ?_ ?_)))
      · intro hno
        have none_ : atKey xb k = none := atKey_none_of hno
        generalize hl : (k, p) :: xa.drop (x + 1) = lst at pre
        cases pre with
        | nil => exact nomatch hl
        | hit hy he hr' => injection hl with e1 e2; injection e1 with e3 e4; subst e3; rw [none_] at hy; exact nomatch hy
        | miss hn =>
          refine wpAny_pure ?_
          show wpAny _ _ (if (!false) = true then _ else _) _ _ _
          rw [if_pos (by decide)]
          exact wpAny_pure (wpAny_pure h')
      · intro j y hj
        have some_ : atKey xb k = some y := atKey_of_get b6 hj
        have hentb : fs[j]? = some (entryOfKey (tK prog w) (k, y)) := by rw [entry_at b4, hj]; rfl
        refine wpAny_bind (wpAny_dictEntries b1 b3 ?_)
        rw [hentb]
        generalize hl : (k, p) :: xa.drop (x + 1) = lst at pre
        cases pre with
        | nil => exact nomatch hl
        | miss hn => injection hl with e1 e2; injection e1 with e3 e4; subst e3; rw [some_] at hn; exact nomatch hn
        | @hit k' p' y' r' e b hy he hr' =>
          injection hl with e1 e2; injection e1 with e3 e4; subst e3; subst e4; subst e2
          obtain rfl : y = y' := Option.some.inj (some_.symm.trans hy)
          refine wpAny_holding (he prog w _ _ ?_)
          cases e with
          | false =>
            show wpAny _ _ (if (!false) = true then _ else _) _ _ _
            rw [if_pos (by decide)]
            exact wpAny_pure (wpAny_pure h')
          | true =>
            show wpAny _ _ (if (!true) = true then _ else _) _ _ _
            rw [if_neg (by decide)]
            refine wpAny_bind (wpAny_dictEpoch a1 a3 ?_)
            rw [if_neg (by simp)]
            exact wpAny_pure ⟨rfl, rfl, x + 1, hrest, less, by rw [Bool.true_and]; exact hr'⟩
    · intro q zs hinv
      obtain ⟨hzs, hq, i, hr, hi, pre⟩ := hinv
      subst hzs; subst hq
      have hin : i = es.size := by
        rcases Nat.lt_or_ge i es.size with g | g
        · have split : es.size - i = (es.size - (i + 1)) + 1 := by omega
          rw [split, List.range'_succ] at hr; exact nomatch hr
        · exact Nat.le_antisymm hi g
      rw [hin, la, List.drop_length] at pre
      refine wpAny_pure ?_
      cases pre
      exact h'
  · rw [if_pos (by simpa using z)]
    have no : (es.size == fs.size) = false := by simpa using z
    rw [no, Bool.false_and] at h
    exact wpAny_bind (wpAny_rule (wpAny_pure h))
end
end Cw

namespace Cw
open PySem PySem.Spec PyProof.Rows L2
/-! ### dict([((a, b), v) for x in ..]) -/
def Strong (K : PySem.W.Frag) (ix : List Addr) (H : Hp) (x : V) (q : List Key × D) : Prop := ∃ a kb v, x = .ref a ∧ H a = some (.tup [.ref kb, v]) ∧ H kb = some (.tup (q.1.map kV)) ∧ R K ix H q.2 v
theorem Strong.mono {K : PySem.W.Frag} {ix ix' : List Addr} {H H' : Hp} {x : V} {q : List Key × D} (e : Ex H H') (p : ∀ (k : Nat) a, ix[k]? = some a → ix'[k]? = some a) (h : Strong K ix H x q) : Strong K ix' H' x q := by
  obtain ⟨a, kb, v, h1, h2, h3, h4⟩ := h
  exact ⟨a, kb, v, h1, e _ _ h2, e _ _ h3, R.mono e p _ _ h4⟩
theorem Strong.low {K : PySem.W.Frag} {ix ix' : List Addr} {H H' : Hp} {n : Nat} (e : Ex H H') (p : ∀ (k : Nat) a, k < n → ix[k]? = some a → ix'[k]? = some a) : ∀ {L : List V} {ps : List (List Key × D)}, okDs n (ps.map (·.2)) = true → Paired (Strong K ix H) L ps → Paired (Strong K ix' H') L ps
  | _, _, _, .nil => .nil
  | x :: L, q :: ps, k, .cons h t => by
    obtain ⟨a, kb, v, h1, h2, h3, h4⟩ := h
    have k' : okD n q.2 = true ∧ okDs n (ps.map (·.2)) = true := by simpa [okDs] using k
    exact .cons ⟨a, kb, v, h1, e _ _ h2, e _ _ h3, R.low e p _ _ k'.1 h4⟩ (Strong.low e p k'.2 t)
theorem two_line {α : Type} {a b : α} : [a, b].length ≤ sizeLine := by show 2 ≤ sizeLine; decide
def rawC (L : List V) : Cell := .lst (L.map D.raw)
def pcD (i : Nat) (ta tb tv : TD) : List D → List (List Key × D) → Env → List Cell → (List (List Key × D) → List Cell → Prop) → Prop
  | [], acc, _, c, Φ => okCs c.length c = true ∧ okDs c.length (acc.map (·.2)) = true ∧ Φ acc c
  | d :: ds, acc, ρ, c, Φ => ∀ L : List V, ta (ρ.set i (some d)) (c ++ [rawC L]) fun x c1 => tb (ρ.set i (some d)) c1 fun y c2 => tv (ρ.set i (some d)) c2 fun v c3 => ∃ k l, x = kD k ∧ y = kD l ∧ acc.length < sizeLine ∧
      inner c.length (L.map D.raw) v c3 fun c4 => pcD i ta tb tv ds (acc ++ [([k, l], v)]) ρ c4 Φ
theorem rl_raw {K : PySem.W.Frag} {ix : List Addr} {H : Hp} : ∀ {L : List V} {xs : List V}, RL K ix H (L.map D.raw) xs → xs = L
  | [], _, h => h
  | v :: L, _, ⟨x, r, e, h1, h2⟩ => by subst e; rw [show x = v from h1, rl_raw h2]
theorem rl_raws {K : PySem.W.Frag} {ix : List Addr} {H : Hp} : ∀ {L : List V}, RL K ix H (L.map D.raw) L
  | [] => rfl
  | v :: L => ⟨v, L, rfl, rfl, rl_raws⟩
theorem paired_len {α β : Type} {F : α → β → Prop} : ∀ {xs : List α} {ys : List β}, Paired F xs ys → xs.length = ys.length
  | _, _, .nil => rfl
  | _, _, .cons _ t => by rw [List.length_cons, List.length_cons, paired_len t]
theorem pc_walk {K : PySem.W.Frag} {J : It} {m : Ad} {H1 : Hp} {ds : List D} {σ : L2.St} {ρ : Env} {c : List Cell} {i : Nat} {ta tb tv : TD} {Φ : List (List Key × D) → List Cell → Prop} {Qd : Addr → Hp → Prop} (wk : Walks K J m H1 ds) (S : SR K σ H1 m ρ c) (h : pcD i ta tb tv ds [] ρ c Φ)
    (q : ∀ p ps L c' H', Φ ps c' → CR K H' m c' → H' p = some (.lst L) → Paired (Strong K m.ix (hid m H')) L ps → Le m H1 m H' → Qd p H') : ∀ p, H1 p = none → ∃ W : Nat → Nat → Hp → Prop, (∃ mm, W 0 mm (upd H1 p (.lst []))) ∧ ∀ j mm H, W j mm H →
      (J.stop j H ∧ Qd p H) ∨ (J.go j H ∧ ∃ Nx : Hp → Prop, (∀ H', Nx H' → ∃ m', m' < mm ∧ W (j + 1) m' H') ∧ ∀ x H', J.yld j H x H' → gName i x (wipe σ [i]) H' fun σ2 H2 => wipe σ2 [i] = wipe σ [i] ∧ liftT K dYes σ2 H2 fun b H3 =>
        if b = true then tTup (tCons (tTup (tCons (lift K ta) (tCons (lift K tb) tNil))) (tCons (lift K tv) tNil)) σ2 H3 fun y H4 => ∃ acc, H4 p = some (.lst acc) ∧ acc.length < sizeLine ∧ Nx (upd H4 p (.lst (acc ++ [y]))) else Nx H3) := by
  intro p hp
  have z0 := cell_new (ce := rawC []) (o := .lst []) S.cr hp ⟨[], upd_same, rfl⟩
  refine ⟨fun j mm H => mm = ds.length - j ∧ j ≤ ds.length ∧ ∃ c' acc L, c'.length = c.length ∧ CR K H (m.push p) (c' ++ [rawC L]) ∧ Le m H1 (m.push p) H ∧ Paired (Strong K (m.push p).ix (hid (m.push p) H)) L acc ∧ pcD i ta tb tv (ds.drop j) acc ρ c' Φ,
    ⟨ds.length, by simp, Nat.zero_le _, c, [], [], rfl, z0.1, z0.2.1, .nil, by simpa using h⟩, ?_⟩
  rintro j mm H ⟨rfl, hj, c', acc, L, hl, C, l, hst, hf⟩
  by_cases hlt : j < ds.length
  · refine .inr ⟨wk.go j (m.push p) H _ l C hlt, fun H' => ∃ c' acc L, c'.length = c.length ∧ CR K H' (m.push p) (c' ++ [rawC L]) ∧ Le m H1 (m.push p) H' ∧ Paired (Strong K (m.push p).ix (hid (m.push p) H')) L acc ∧ pcD i ta tb tv (ds.drop (j + 1)) acc ρ c' Φ, fun H' w => ⟨ds.length - (j + 1), by omega, rfl, hlt, w⟩, fun x H2 y => ?_⟩
    obtain ⟨d, hd, C2, l2, rx⟩ := wk.yld j (m.push p) H _ x H2 l C hlt y
    have e : ds.drop j = d :: ds.drop (j + 1) := by
      rw [List.drop_eq_getElem_cons hlt]
      congr 1
      have := List.getElem?_eq_getElem hlt
      rw [hd] at this
      exact (Option.some.inj this).symm
    rw [e] at hf
    have L2 := l.trans l2
    have S2 : SR K ((wipe σ [i]).set i (some x)) H2 (m.push p) (ρ.set i (some d)) (c' ++ [rawC L]) := (S.step L2 C2).blk rx
    have hmn : (m.push p).ix.length = c'.length + 1 := by
      have := C2.len
      simp at this
      exact this
    refine ⟨by rw [wipe1, wipe1, List.set_set, List.set_set], m.push p, _, _, (fun b c2 => b = true ∧ c2 = c' ++ [rawC L]), S2, ⟨rfl, rfl⟩, fun b c2 H3 m3 hb C3 l3 => ?_⟩
    obtain ⟨hb, ht⟩ := hb
    subst hb; subst ht
    rw [if_pos rfl]
    refine ⟨m3, _, _, _, S2.step l3 C3, hf L, fun a0 c3 va H4 m4 hy C4 R4 l4 => ⟨m4, _, c3, _, (S2.step l3 C3).step l4 C4, hy, fun b0 c4 vb H5 m5 hy C5 R5 l5 => ⟨two_line, fun p1 hp1 => ?_⟩⟩⟩
    have n1 := hid_new hp1 C5
    have C5' := CR.new (o := .tup [va, vb]) hp1 C5
    have l5' := Le.new (o := .tup [va, vb]) hp1 C5
    have at1 : hid m5 (upd H5 p1 (.tup [va, vb])) p1 = some (.tup [va, vb]) := by rw [hid_of n1]; exact upd_same
    refine ⟨m5, _, c4, _, (((S2.step l3 C3).step l4 C4).step l5 C5).step l5' C5', hy, fun v0 c5 vv H6 m6 hy C6 R6 l6 => ⟨two_line, fun p2 hp2 => ?_⟩⟩
    obtain ⟨k, k2, ex, ey, hsz, hin⟩ := hy
    have n2 := hid_new hp2 C6
    have C6' := CR.new (o := .tup [.ref p1, vv]) hp2 C6
    have l6' := Le.new (o := .tup [.ref p1, vv]) hp2 C6
    have at2 : hid m6 (upd H6 p2 (.tup [.ref p1, vv])) p2 = some (.tup [.ref p1, vv]) := by rw [hid_of n2]; exact upd_same
    have at1' : hid m6 (upd H6 p2 (.tup [.ref p1, vv])) p1 = some (.tup [va, vb]) := (l6.trans l6').ex _ _ at1
    subst ex; subst ey
    have eva : va = kV k := kD_v R4
    have evb : vb = kV k2 := kD_v R5
    subst eva; subst evb
    have lall := l3.trans (l4.trans (l5.trans (l5'.trans (l6.trans l6'))))
    obtain ⟨z1, z5, z2, z3, z4⟩ := inner_ok hmn hin C6' (l6'.r R6) lall
    have cut := ex_cut (H := upd H6 p2 (.tup [.ref p1, vv])) lall.pre lall.hd
    obtain ⟨a, h5, xs, h6, h7⟩ := z1.at_ c'.length (.lst (L.map D.raw)) (by rw [List.getElem?_append_right (by omega), z4]; simp)
    have last : (m.push p).ix[c'.length]? = some p := by
      show (m.ix ++ [p])[c'.length]? = some p
      rw [hl, ← S.cr.len]; simp
    rw [last] at h5; cases h5
    obtain rfl := rl_raw h7
    have old := Paired.mapP hst fun _ _ s => Strong.mono (l2.trans z2).ex (fun _ _ e => e) s
    have ll : xs.length = acc.length := paired_len hst
    refine ⟨xs, h6, by rw [ll]; exact hsz, ?_⟩
    have hm : p ∈ (m.push p).ix := List.mem_of_getElem? last
    have z := cell_put (o := .lst (xs ++ [.ref p2])) (ce := rawC (xs ++ [.ref p2])) z1 last ⟨_, upd_same, rl_raws⟩
    have ec : (c5.take c'.length ++ [Cell.lst (xs.map D.raw)]).set c'.length (rawC (xs ++ [.ref p2])) = c5.take c'.length ++ [rawC (xs ++ [.ref p2])] := by
      rw [List.set_append_right _ _ (by omega), z4]; simp
    rw [ec] at z
    refine ⟨c5.take c'.length, acc ++ [([k, k2], v0)], xs ++ [.ref p2], by rw [z4, hl], z.1, (L2.trans z2).trans z.2, ?_, z3⟩
    rw [hid_mut hm]
    exact Paired.snoc old ⟨p2, p1, vv, rfl, cut _ _ at2, cut _ _ at1', z5⟩
  · have ej : j = ds.length := by omega
    subst ej
    rw [List.drop_length] at hf
    obtain ⟨h1, h2, h3⟩ := hf
    obtain ⟨C', _, ⟨xs, h4, h5⟩, hp1, hp2⟩ := C.pop h1
    obtain rfl := rl_raw h5
    exact .inl ⟨wk.stop _ (m.push p) H _ l C (Nat.le_refl _), q p acc xs c' H h3 C' h4 (Strong.low ex_pop (low_push C'.len) h2 hst) ⟨fun _ _ e => e, l.ex.trans ex_pop, rfl, l.hk' ex_pop, fun _ h => .inl h, l.al⟩⟩
end Cw

namespace Cw
open PySem PySem.Spec PyProof.Rows L2
/-! ### dict(..) of pairs -/
theorem mergT_nodup : ∀ (more kvs : List (List Key × V)), ((kvs ++ more).map (·.1)).Nodup → mergT kvs more = kvs ++ more
  | [], kvs, _ => by simp [mergT]
  | p :: more, kvs, h => by
    have hn : valV kvs p.1 = none := by
      unfold valV
      rw [List.find?_eq_none.mpr, Option.map_none]
      intro x hx hk
      have e : x.1 = p.1 := by simpa using hk
      rw [List.map_append, List.nodup_append] at h
      exact h.2.2 x.1 (List.mem_map_of_mem hx) p.1 (by simp) e
    show mergT (putK kvs p.1 p.2) more = _
    rw [putK_new _ hn, mergT_nodup more (kvs ++ [(p.1, p.2)]) (by rw [List.append_assoc]; exact h), List.append_assoc]
    rfl
theorem strong_split {K : PySem.W.Frag} {m : Ad} {H : Hp} : ∀ {L : List V} {ps : List (List Key × D)}, Paired (Strong K m.ix (hid m H)) L ps → ∃ (as : List Addr) (kvs : List (List Key × V)), L = as.map V.ref ∧ Paired (PairT K H) as kvs ∧ kvs.map (·.1) = ps.map (·.1) ∧ RRL K H m (ps.map (·.2)) (kvs.map (·.2))
  | _, _, .nil => ⟨[], [], rfl, .nil, rfl, rfl⟩
  | x :: L, q :: ps, .cons h t => by
    obtain ⟨a, kb, v, h1, h2, h3, h4⟩ := h
    obtain ⟨as, kvs, e1, e2, e3, e4⟩ := strong_split t
    refine ⟨a :: as, (q.1, v) :: kvs, by rw [h1, e1]; rfl, .cons ⟨kb, .inl (.inl (ex_hid m H _ _ h2)), ex_hid m H _ _ h3⟩ e2, by rw [List.map_cons, List.map_cons, e3], ⟨v, _, rfl, h4, e4⟩⟩
def dDictP (ti : TDs) (i : Nat) (ta tb tv : TD) : TD := fun ρ c Φ => ti ρ c fun ds c1 => pcD i ta tb tv ds [] ρ c1 fun ps c2 => (ps.map (·.1)).Nodup ∧ Φ (.dcT (ps.map (·.1)) (ps.map (·.2))) c2
def dDictPM (ti : TDs) (i : Nat) (ta tb tv : TD) : TD := fun ρ c Φ => ti ρ c fun ds c1 => pcD i ta tb tv ds [] ρ c1 fun ps c2 => (ps.map (·.1)).Nodup ∧ Φ (.cell c2.length) (c2 ++ [.dcT (ps.map (·.1)) (ps.map (·.2))])
/-- a key of two parts, a pair of such a key and a value -/
def tKey (K : PySem.W.Frag) (ta tb : TD) : TE := tTup (tCons (lift K ta) (tCons (lift K tb) tNil))
def tPr (K : PySem.W.Frag) (ta tb tv : TD) : TE := tTup (tCons (tTup (tCons (lift K ta) (tCons (lift K tb) tNil))) (tCons (lift K tv) tNil))
abbrev PKey (X : Cx) (e : Expr) (ta tb : TD) : Prop := PE X e (tKey X.K ta tb)
section
variable {X : Cx} {a b v : Expr} {ta tb tv : TD} {p1 p2 : Pos} {x1 x2 : Nat}
theorem pk_key (ha : PD X a ta) (hb : PD X b tb) (h1 : starEach [a, b] X.env = (false, eval a X.env) :: starEach [b] X.env := by rfl) (h2 : starEach [b] X.env = (false, eval b X.env) :: starEach [] X.env := by rfl) : PKey X (.Tuple [a, b] x1 p1) ta tb := pe_tup (pa_cons ha (pa_cons hb pa_nil h2) h1)
theorem pk_pr (ha : PD X a ta) (hb : PD X b tb) (hv : PD X v tv) (h1 : starEach [a, b] X.env = (false, eval a X.env) :: starEach [b] X.env := by rfl) (h2 : starEach [b] X.env = (false, eval b X.env) :: starEach [] X.env := by rfl)
    (h3 : starEach [.Tuple [a, b] x1 p1, v] X.env = (false, eval (.Tuple [a, b] x1 p1) X.env) :: starEach [v] X.env := by rfl) (h4 : starEach [v] X.env = (false, eval v X.env) :: starEach [] X.env := by rfl) :
    PE X (.Tuple [.Tuple [a, b] x1 p1, v] x2 p2) (tPr X.K ta tb tv) := pe_tup (pa_cons (pe_tup (pa_cons ha (pa_cons hb pa_nil h2) h1)) (pa_cons hv pa_nil h4) h3)
end
section
variable {X : Cx} {iter elt : Expr} {ta tb tv : TD} {pos pp tp cp : Pos} {ti : TDs} {scope : Scope} {x : Str} {i : Nat}
theorem lift_dictP {K : PySem.W.Frag} {σ : L2.St} {H : Hp} {Q : VK} (h : lift K (dDictP ti i ta tb tv) σ H Q) : tCB (rDictT K) (tCons (tLc (liftI K ti) (gName i) (liftT K dYes) (tPr K ta tb tv) [i]) tNil) σ H Q := by
  obtain ⟨m, ρ, c, Φ, S, h, q⟩ := h
  refine ⟨m, ρ, c, _, S, h, fun ds c1 J H1 m1 hx C1 wk L1 => pc_walk wk (S.step L1 C1) hx fun p ps L c' H' hΦ C' hp hst l' => ?_⟩
  obtain ⟨nd, hΦ⟩ := hΦ
  obtain ⟨as, kvs, e1, e2, e3, e4⟩ := strong_split hst
  subst e1
  refine ⟨p, as, kvs, rfl, SqL.of hp, e2, fun p' hp' => ?_⟩
  rw [mergT_nodup kvs [] (by rw [List.nil_append, e3]; exact nd), List.nil_append]
  have C2 := CR.new (o := .dT kvs) hp' C'
  have l2 := Le.new (o := .dT kvs) hp' C'
  exact q _ c' _ _ m1 hΦ C2 ⟨p', kvs, rfl, new_at hp' C', e3, l2.rl e4⟩ (L1.trans (l'.trans l2))
theorem lift_dictPM {K : PySem.W.Frag} {σ : L2.St} {H : Hp} {Q : VK} (h : lift K (dDictPM ti i ta tb tv) σ H Q) : tCB (rDictT K) (tCons (tLc (liftI K ti) (gName i) (liftT K dYes) (tPr K ta tb tv) [i]) tNil) σ H Q := by
  obtain ⟨m, ρ, c, Φ, S, h, q⟩ := h
  refine ⟨m, ρ, c, _, S, h, fun ds c1 J H1 m1 hx C1 wk L1 => pc_walk wk (S.step L1 C1) hx fun p ps L c' H' hΦ C' hp hst l' => ?_⟩
  obtain ⟨nd, hΦ⟩ := hΦ
  obtain ⟨as, kvs, e1, e2, e3, e4⟩ := strong_split hst
  subst e1
  refine ⟨p, as, kvs, rfl, SqL.of hp, e2, fun p' hp' => ?_⟩
  rw [mergT_nodup kvs [] (by rw [List.nil_append, e3]; exact nd), List.nil_append]
  have z := cell_new (ce := .dcT (ps.map (·.1)) (ps.map (·.2))) (o := .dT kvs) C' hp' ⟨kvs, upd_same, e3, by
    show RL _ _ (hid (m1.push p') _) _ _
    rw [hid_app hp']; exact RL.mono (Ex.refl _) push_pre _ _ e4⟩
  exact q _ _ _ _ _ hΦ z.1 z.2.2 (L1.trans (l'.trans z.2.1))
theorem pe_dictP (hc : X.calm = true) (hu : X.A.units + 8 < cLine) (hN : X.N.Nodup) (hi : PID X (.Name x tp) iter ti) (ok : blkC X.N X.env.scope scope [(x, i)] = true)
    (hg : ∀ (s : Shared) (H : Hp) (C : Addr) (cl : List (Str × Addr)) (fp : List Addr), PG (X.blk s H scope (compEnvC scope cl C X.env) fp) (.Name x tp) (gName i))
    (hp : ∀ (s : Shared) (H : Hp) (C : Addr) (cl : List (Str × Addr)) (fp : List Addr), PE (X.blk s H scope (compEnvC scope cl C X.env) fp) elt (tPr X.K ta tb tv))
    (hm : X.mg "dict" = none) (hg2 : Gl X "dict" := by rfl) (hs : ∀ x, foldedSetIterable iter X.env x = pure x := by intro _; rfl)
    (he : starEach [Expr.ListComp elt [⟨.Name x tp, iter, [], 0⟩] scope cp] X.env = (false, eval (.ListComp elt [⟨.Name x tp, iter, [], 0⟩] scope cp) X.env) :: starEach [] X.env := by rfl)
    (hpl : (backTo pos (starEach [] X.env)).any (·.1) = false := by rfl) :
    PE X (.Call (.Name "dict" pp) [.ListComp elt [⟨.Name x tp, iter, [], 0⟩] scope cp] [] pos) (tCB (rDictT X.K) (tCons (tLc (liftI X.K ti) (gName i) (liftT X.K dYes) (tPr X.K ta tb tv) [i]) tNil)) :=
  pe_callTy (call_dictT hc hu) hg2 hm PyProof.Rows.boot_dict (pa_cons (pe_lc (own := [(x, i)]) hc hN hi (blkOk_by ok) hg (fun _ _ _ _ _ => ptd_nil) hp hs) pa_nil he) (by decide) (by decide) he hpl
theorem pd_dictP (hc : X.calm = true) {kr : Nat} (hr : Room kr X.A) (hN : X.N.Nodup) (hi : PID X (.Name x tp) iter ti) (ok : blkC X.N X.env.scope scope [(x, i)] = true)
    (hg : ∀ (s : Shared) (H : Hp) (C : Addr) (cl : List (Str × Addr)) (fp : List Addr), PG (X.blk s H scope (compEnvC scope cl C X.env) fp) (.Name x tp) (gName i))
    (hp : ∀ (s : Shared) (H : Hp) (C : Addr) (cl : List (Str × Addr)) (fp : List Addr), PE (X.blk s H scope (compEnvC scope cl C X.env) fp) elt (tPr X.K ta tb tv))
    (hm : X.mg "dict" = none) (hg2 : Gl X "dict" := by rfl) (hs : ∀ x, foldedSetIterable iter X.env x = pure x := by intro _; rfl)
    (he : starEach [Expr.ListComp elt [⟨.Name x tp, iter, [], 0⟩] scope cp] X.env = (false, eval (.ListComp elt [⟨.Name x tp, iter, [], 0⟩] scope cp) X.env) :: starEach [] X.env := by rfl)
    (hpl : (backTo pos (starEach [] X.env)).any (·.1) = false := by rfl) :
    PD X (.Call (.Name "dict" pp) [.ListComp elt [⟨.Name x tp, iter, [], 0⟩] scope cp] [] pos) (dDictP ti i ta tb tv) :=
  PE.imp (pe_dictP hc (by have := hr.units; omega) hN hi ok hg hp hm hg2 hs he hpl) fun _ _ _ h => lift_dictP h
theorem pd_dictPM (hc : X.calm = true) {kr : Nat} (hr : Room kr X.A) (hN : X.N.Nodup) (hi : PID X (.Name x tp) iter ti) (ok : blkC X.N X.env.scope scope [(x, i)] = true)
    (hg : ∀ (s : Shared) (H : Hp) (C : Addr) (cl : List (Str × Addr)) (fp : List Addr), PG (X.blk s H scope (compEnvC scope cl C X.env) fp) (.Name x tp) (gName i))
    (hp : ∀ (s : Shared) (H : Hp) (C : Addr) (cl : List (Str × Addr)) (fp : List Addr), PE (X.blk s H scope (compEnvC scope cl C X.env) fp) elt (tPr X.K ta tb tv))
    (hm : X.mg "dict" = none) (hg2 : Gl X "dict" := by rfl) (hs : ∀ x, foldedSetIterable iter X.env x = pure x := by intro _; rfl)
    (he : starEach [Expr.ListComp elt [⟨.Name x tp, iter, [], 0⟩] scope cp] X.env = (false, eval (.ListComp elt [⟨.Name x tp, iter, [], 0⟩] scope cp) X.env) :: starEach [] X.env := by rfl)
    (hpl : (backTo pos (starEach [] X.env)).any (·.1) = false := by rfl) :
    PD X (.Call (.Name "dict" pp) [.ListComp elt [⟨.Name x tp, iter, [], 0⟩] scope cp] [] pos) (dDictPM ti i ta tb tv) :=
  PE.imp (pe_dictP hc (by have := hr.units; omega) hN hi ok hg hp hm hg2 hs he hpl) fun _ _ _ h => lift_dictPM h
end
end Cw

namespace Cw
open PySem PySem.Spec PyProof.Rows L2
theorem rl_keysV {K : PySem.W.Frag} {ix : List Addr} {H : Hp} : ∀ {k : List Key}, RL K ix H (k.map kD) (k.map kV)
  | [] => rfl
  | .inl i :: k => ⟨_, _, rfl, rfl, rl_keysV⟩
  | .inr x :: k => ⟨_, _, rfl, rfl, rl_keysV⟩
/-! ### d[k], d.get(k), d.get(k, x), list(d), d[k] = v; keys are tuples -/
def lookT : List (List Key) → List D → List Key → Option D
  | k :: ks, d :: ds, q => if k = q then some d else lookT ks ds q
  | _, _, _ => none
theorem lookT_rel {K : PySem.W.Frag} {m : List Addr} {H : Hp} : ∀ {kvs : List (List Key × V)} {ds : List D} {q : List Key}, RL K m H ds (kvs.map (·.2)) → (∀ d, lookT (kvs.map (·.1)) ds q = some d → ∃ v, valV kvs q = some v ∧ R K m H d v) ∧ (lookT (kvs.map (·.1)) ds q = none → valV kvs q = none)
  | [], [], q, h => ⟨fun d e => (nomatch e), fun _ => rfl⟩
  | [], d :: ds, q, ⟨x, r, e, _⟩ => nomatch e
  | (k, w) :: kvs, [], _, h => nomatch (show (w :: kvs.map (·.2) : List V) = [] from h)
  | (k, w) :: kvs, d :: ds, q, ⟨x, r, e1, h1, h2⟩ => by
    cases e1
    have ih := lookT_rel (q := q) h2
    by_cases hk : k = q
    · have e2 : lookT (((k, w) :: kvs).map (·.1)) (d :: ds) q = some d := by show (if k = q then some d else _) = _; rw [if_pos hk]
      refine ⟨fun d' e => ?_, fun e => ?_⟩
      · rw [e2] at e; cases e
        exact ⟨w, valV_pos hk, h1⟩
      · rw [e2] at e; cases e
    · have e2 : lookT (((k, w) :: kvs).map (·.1)) (d :: ds) q = lookT (kvs.map (·.1)) ds q := by show (if k = q then some d else _) = _; rw [if_neg hk]
      rw [e2, valV_neg hk]
      exact ih
theorem look_getD {K : PySem.W.Frag} {m : List Addr} {H : Hp} {kvs : List (List Key × V)} {ds : List D} {q : List Key} {x : D} {y : V} (h : RL K m H ds (kvs.map (·.2))) (hx : R K m H x y) : R K m H ((lookT (kvs.map (·.1)) ds q).getD x) ((valV kvs q).getD y) := by
  cases e : lookT (kvs.map (·.1)) ds q with
  | none => rw [(lookT_rel h).2 e]; exact hx
  | some d => obtain ⟨v, e1, e2⟩ := (lookT_rel h).1 d e; rw [e1]; exact e2
def tTGet (K : PySem.W.Frag) (td ty : TE) : TE := fun σ H Q => td σ H fun x H1 => ty σ H1 fun y H2 => ∃ a b kvs k v, x = .ref a ∧ y = .ref b ∧ Rd H2 a (.dT kvs) ∧ SqT K H2 b (k.map kV) ∧ valV kvs k = some v ∧ Q v H2
def dTGet (td ty : TD) : TD := fun ρ c Φ => td ρ c fun x c1 => ty ρ c1 fun y c2 => ∃ ks ds k d, vw c2 x = .dcT ks ds ∧ y = .tup (k.map kD) ∧ lookT ks ds k = some d ∧ Φ d c2
def dTGet1 (td ta tb : TD) : TD := fun ρ c Φ => td ρ c fun x c1 => (∃ ks ds, vw c1 x = .dcT ks ds) ∧ ta ρ c1 fun u c2 => tb ρ c2 fun w c3 => ∃ ks ds k l, vw c3 x = .dcT ks ds ∧ u = kD k ∧ w = kD l ∧ Φ ((lookT ks ds [k, l]).getD .non) c3
def dTGet2 (td ta tb tx : TD) : TD := fun ρ c Φ => td ρ c fun x c1 => (∃ ks ds, vw c1 x = .dcT ks ds) ∧ ta ρ c1 fun u c2 => tb ρ c2 fun w c3 => tx ρ c3 fun z c4 => ∃ ks ds k l, vw c4 x = .dcT ks ds ∧ u = kD k ∧ w = kD l ∧ Φ ((lookT ks ds [k, l]).getD z) c4
section
variable {X : Cx} {o i e f : Expr} {pos apos cpos : Pos} {td ty ta tb tx : TD}
theorem key_sq {pins : List (Addr × Obj)} {s : Shared} {σ : L2.St} {H : Hp} {b : Addr} {ks : List Key} (I : Inv X pins σ H s) (e : SqT X.K H b (ks.map kV)) : (tK X.prog X.w).is s.heap ks b := by
  obtain ⟨its, r, ⟨o, h1, h2, n, h3⟩, _⟩ := I.tuple e
  exact ⟨o, its.toArray, n, h1, h2, h3, by simpa using items_are r⟩
theorem pe_tget {td ty : TE} (hu : X.A.units + 1 < cLine) (ho : PE X o td) (hi : PE X i ty) (hs : NoSl i) : PE X (.Subscript o i pos) (tTGet X.K td ty) := by
  refine ⟨fun pins s σ H Q I h => ?_⟩
  refine subD_of PySem.F.slot_dict_getitem.lookup hs (thn (ho.run pins s σ H _ I h) fun u s1 ⟨x, H1, I1, rx, q1⟩ => thn (hi.run pins s1 σ H1 _ I1 q1) fun iv s2 ⟨y, H2, I2, ry, a, b, kvs, k, v, ex, ey, e, eb, l, q2⟩ => ?_)
  subst ex; subst ey
  obtain rfl : u = Value.ref a := rx
  obtain rfl : iv = Value.ref b := ry
  obtain ⟨z, hd, xs, rel, dd⟩ := dt_rd I2.hok e
  obtain ⟨w', hw, rw'⟩ := RelO.some_of (v := v) (o := (atKey xs k).map (·.2)) (by rw [← l]; exact rel.val k)
  obtain ⟨p, hp, hp2⟩ := Option.map_eq_some_iff.mp hw
  refine ⟨dd.typeIs, wpAny_getItem_heap (tupleKind_room_in1 hu) (key_sq I2 eb) dd hp ?_⟩
  rw [hp2]
  exact ⟨v, H2, I2.tok _, rw', q2⟩
theorem pd_tget {k : Nat} (hr : Room k X.A) (hd : PD X o td) (hy : PD X i ty) (hs : NoSl i := by intro _ _; rfl) : PD X (.Subscript o i pos) (dTGet td ty) :=
  PE.imp (pe_tget (by have := hr.un; omega) hd hy hs) fun σ H Q ⟨m, ρ, c, Φ, S, h, q⟩ =>
    ⟨m, ρ, c, _, S, h, fun x c1 u H1 m1 hx C1 R1 L1 => ⟨m1, ρ, c1, _, S.step L1 C1, hx, fun y c2 v H2 m2 hy C2 R2 L2 => by
      obtain ⟨ks, ds, k, d, e1, e2, e3, hΦ⟩ := hy
      subst e2
      obtain ⟨b, xs, rfl, hb, hxs⟩ := R2
      obtain rfl := rl_keys hxs
      have w := W.vw C2 (L2.r R1)
      rw [e1] at w
      obtain ⟨a, kvs, rfl, h1, h2, h3⟩ := w
      subst h2
      obtain ⟨w, h4, h5⟩ := (lookT_rel h3).1 d e3
      exact ⟨a, b, kvs, k, w, rfl, rfl, .inl h1, ex_t (ex_hid m2 H2) hb, h4, q _ c2 _ H2 m2 hΦ C2 h5 (L1.trans L2)⟩⟩⟩
theorem pd_tget1 {k : Nat} (hr : Room k X.A) (ho : PD X o td) (he : PKey X e ta tb) (m : M1 X o "get" apos e cpos) : PD X (.Call (.Attribute o "get" apos) [e] [] cpos) (dTGet1 td ta tb) :=
  PE.imp (pe_dget1 (by have := hr.un; omega) ho he m) fun σ H Q ⟨m, ρ, c, Φ, S, h, q⟩ => ⟨m, ρ, c, _, S, h, fun x c1 u H1 m1 hx C1 R1 L1 => by
    obtain ⟨⟨ks, ds, e0⟩, hx⟩ := hx
    have w := W.vw C1 R1
    rw [e0] at w
    obtain ⟨a, kvs, rfl, h1, _⟩ := w
    refine ⟨a, rfl, .inr ⟨kvs, .inl h1⟩, ?_⟩
    refine ⟨m1, ρ, c1, _, S.step L1 C1, hx, fun u2 c2 v2 H2 m2 hy C2 R2 L2 => ⟨m2, ρ, c2, _, (S.step L1 C1).step L2 C2, hy, fun w2 c3 v3 H3 m3 hz C3 R3 L3 => ⟨two_line, fun p hp => ?_⟩⟩⟩
    obtain ⟨ks, ds, k, l, e1, ek, el, hΦ⟩ := hz
    subst ek; subst el
    have C4 := CR.new (o := .tup [v2, v3]) hp C3
    have l4 := Le.new (o := .tup [v2, v3]) hp C3
    obtain rfl := kD_v R2
    obtain rfl := kD_v R3
    have w := W.vw C4 ((L2.trans (L3.trans l4)).r R1)
    rw [e1] at w
    obtain ⟨a', kvs', e2, h2, h3, h4⟩ := w
    cases e2
    subst h3
    exact ⟨valV kvs' [k, l], .inr ⟨kvs', [k, l], p, .inl h2, rfl, upd_same, rfl⟩, q _ c3 _ _ m3 hΦ C4 (look_getD h4 rfl) (L1.trans (L2.trans (L3.trans l4)))⟩⟩
theorem pd_tget2 {k : Nat} (hr : Room k X.A) (ho : PD X o td) (he : PKey X e ta tb) (hf : PD X f tx) (m : M2 X o "get" apos e f cpos) : PD X (.Call (.Attribute o "get" apos) [e, f] [] cpos) (dTGet2 td ta tb tx) :=
  PE.imp (pe_dget2 (by have := hr.un; omega) ho he hf m) fun σ H Q ⟨m, ρ, c, Φ, S, h, q⟩ => ⟨m, ρ, c, _, S, h, fun x c1 u H1 m1 hx C1 R1 L1 => by
    obtain ⟨⟨ks, ds, e0⟩, hx⟩ := hx
    have w := W.vw C1 R1
    rw [e0] at w
    obtain ⟨a, kvs, rfl, h1, _⟩ := w
    refine ⟨a, rfl, .inr ⟨kvs, .inl h1⟩, ?_⟩
    refine ⟨m1, ρ, c1, _, S.step L1 C1, hx, fun u2 c2 v2 H2 m2 hy C2 R2 L2 => ⟨m2, ρ, c2, _, (S.step L1 C1).step L2 C2, hy, fun w2 c3 v3 H3 m3 hz C3 R3 L3 => ⟨two_line, fun p hp => ?_⟩⟩⟩
    have C4 := CR.new (o := .tup [v2, v3]) hp C3
    have l4 := Le.new (o := .tup [v2, v3]) hp C3
    have at4 := new_at (o := .tup [v2, v3]) hp C3
    refine ⟨m3, ρ, c3, _, (((S.step L1 C1).step L2 C2).step L3 C3).step l4 C4, hz, fun z c5 v5 H5 m5 hz C5 R5 L5 => ?_⟩
    obtain ⟨ks, ds, k, l, e1, ek, el, hΦ⟩ := hz
    subst ek; subst el
    obtain rfl := kD_v R2
    obtain rfl := kD_v R3
    have w := W.vw C5 ((L2.trans (L3.trans (l4.trans L5))).r R1)
    rw [e1] at w
    obtain ⟨a', kvs', e2, h2, h3, h4⟩ := w
    cases e2
    subst h3
    exact ⟨valV kvs' [k, l], .inr ⟨kvs', [k, l], p, .inl h2, rfl, ex_hid m5 H5 _ _ (L5.ex _ _ at4), rfl⟩, q _ c5 _ _ m5 hΦ C5 (look_getD h4 R5) (L1.trans (L2.trans (L3.trans (l4.trans L5))))⟩⟩
def fListT : F1 := fun x c Φ => ∃ ks ds, x = .dcT ks ds ∧ Φ (.lst (ks.map keyD)) c
theorem keys_r {K : PySem.W.Frag} {m : Ad} {H : Hp} {c : List Cell} (C : CR K H m c) : ∀ {kvs : List (List Key × V)} {bs : List Addr}, IsKeys H kvs bs → RRL K H m ((kvs.map (·.1)).map keyD) (bs.map V.ref)
  | _, _, .nil => rfl
  | p :: kvs, b :: bs, .cons h t => by
    have nb : b ∉ m.ix ∧ b ∉ m.hd := by
      refine ⟨fun z => ?_, fun z => ?_⟩
      · obtain ⟨j, hj⟩ := List.mem_iff_getElem?.mp z
        obtain ⟨ce, _, h2⟩ := C.some_at hj
        obtain ⟨o, h3, h4⟩ := h2.mu
        rw [h] at h3; cases h3
        exact h4 _ rfl
      · obtain ⟨o, h3, h4⟩ := C.hs b z
        rw [h] at h3; cases h3
        exact h4 _ rfl
    exact ⟨.ref b, _, rfl, ⟨b, _, rfl, .inl (.inl (by rw [hid_of nb]; exact h)), rl_keysV⟩, keys_r C t⟩
theorem l1_listT {K : PySem.W.Frag} : L1f K fListT (fun u H Q => ∃ d kvs, [u] = [V.ref d] ∧ Rd H d (.dT kvs) ∧ ∀ p bs, H p = none → IsKeys H kvs bs → Q (.ref p) (upd H p (.lst (bs.map V.ref)))) := by
  intro x c Φ h H m u C r Q q
  obtain ⟨ks, ds, rfl, hΦ⟩ := h
  obtain ⟨a, kvs, rfl, h1, h2, h3⟩ := r
  subst h2
  refine ⟨a, kvs, rfl, .inl h1, fun p bs hp hb => ?_⟩
  have C2 := CR.new (o := .lst (bs.map V.ref)) hp C
  have l2 := Le.new (o := .lst (bs.map V.ref)) hp C
  exact q _ c _ _ m hΦ C2 ⟨p, _, rfl, new_at hp C, l2.rl (keys_r C hb)⟩ l2
theorem pd_listT (hc : X.calm = true) {pp : Pos} (ha : PD X e ta) (hm : X.mg "list" = none) (hg : Gl X "list" := by rfl) (he : starEach [e] X.env = (false, eval e X.env) :: starEach [] X.env := by rfl) (hpl : (backTo pos (starEach [] X.env)).any (·.1) = false := by rfl) :
    PD X (.Call (.Name "list" pp) [e] [] pos) (dCB (un1 fListT) (dCons ta dNil)) := pd_T1 (call_list_dT hc) l1_listT boot_list (by decide) (by decide) ha hg hm he hpl
end
end Cw

namespace Cw
open PySem PySem.Spec PyProof.Rows L2
/-! ### d[a, b] = v -/
def repT : List (List Key) → List D → List Key → D → List D
  | k :: ks, x :: ds, q, d => (if k = q then d else x) :: repT ks ds q d
  | _, _, _, _ => []
def inK (ks : List (List Key)) (q : List Key) : Bool := ks.any fun x => decide (x = q)
theorem inK_mem {ks : List (List Key)} {q : List Key} : inK ks q = true ↔ q ∈ ks := by
  unfold inK
  rw [List.any_eq_true]
  constructor
  · rintro ⟨x, h1, h2⟩
    have e : x = q := by simpa using h2
    exact e ▸ h1
  · exact fun h => ⟨q, h, by simp⟩
def putKs (ks : List (List Key)) (q : List Key) : List (List Key) := if inK ks q = true then ks else ks ++ [q]
def putDs (ks : List (List Key)) (ds : List D) (q : List Key) (d : D) : List D := if inK ks q = true then repT ks ds q d else ds ++ [d]
theorem any_mem (kvs : List (List Key × V)) (q : List Key) : ((kvs.any fun kv => decide (kv.1 = q)) = true) ↔ q ∈ kvs.map (·.1) := by
  rw [List.any_eq_true, List.mem_map]
  constructor
  · rintro ⟨x, h1, h2⟩
    exact ⟨x, h1, by simpa using h2⟩
  · rintro ⟨x, h1, h2⟩
    exact ⟨x, h1, by simpa using h2⟩
theorem put_keys (kvs : List (List Key × V)) (q : List Key) (v : V) : (putK kvs q v).map (·.1) = putKs (kvs.map (·.1)) q := by
  unfold putK putKs
  by_cases h : q ∈ kvs.map (·.1)
  · rw [if_pos ((any_mem kvs q).mpr h), if_pos (inK_mem.mpr h), List.map_map]
    apply List.map_congr_left
    intro x _
    show (if x.1 = q then (x.1, v) else x).1 = x.1
    split <;> rfl
  · rw [if_neg (fun z => h ((any_mem kvs q).mp z)), if_neg (fun z => h (inK_mem.mp z)), List.map_append]; rfl
theorem rep_r {K : PySem.W.Frag} {m : List Addr} {H : Hp} {q : List Key} {d : D} {v : V} (hv : R K m H d v) : ∀ {kvs : List (List Key × V)} {ds : List D}, RL K m H ds (kvs.map (·.2)) → RL K m H (repT (kvs.map (·.1)) ds q d) ((kvs.map fun kv => if kv.1 = q then (kv.1, v) else kv).map (·.2))
  | [], [], _ => rfl
  | [], _ :: _, ⟨_, _, e, _⟩ => nomatch e
  | (k, w) :: kvs, [], h => nomatch (show (w :: kvs.map (·.2) : List V) = [] from h)
  | (k, w) :: kvs, x :: ds, ⟨y, r, e, h1, h2⟩ => by
    cases e
    refine ⟨_, _, rfl, ?_, rep_r hv h2⟩
    show R K m H (if k = q then d else x) (if k = q then (k, v) else (k, w)).2
    by_cases hk : k = q
    · rw [if_pos hk, if_pos hk]; exact hv
    · rw [if_neg hk, if_neg hk]; exact h1
theorem put_r {K : PySem.W.Frag} {m : List Addr} {H : Hp} {q : List Key} {d : D} {v : V} {kvs : List (List Key × V)} {ds : List D} (hv : R K m H d v) (h : RL K m H ds (kvs.map (·.2))) : RL K m H (putDs (kvs.map (·.1)) ds q d) ((putK kvs q v).map (·.2)) := by
  unfold putK putDs
  by_cases hq : q ∈ kvs.map (·.1)
  · rw [if_pos ((any_mem kvs q).mpr hq), if_pos (inK_mem.mpr hq)]
    exact rep_r hv h
  · rw [if_neg (fun z => hq ((any_mem kvs q).mp z)), if_neg (fun z => hq (inK_mem.mp z)), List.map_append]
    exact RL.append h ⟨v, [], rfl, hv, rfl⟩
def dPutT (td ta tb tv : TD) : TSD := fun De ρ c => tv ρ c fun v c1 => td ρ c1 fun x c2 => ta ρ c2 fun u c3 => tb ρ c3 fun w c4 => ∃ j ks ds k l, x = .cell j ∧ c4[j]? = some (.dcT ks ds) ∧ u = kD k ∧ w = kD l ∧ ks.length < sizeLine ∧ De.nx ρ (c4.set j (.dcT (putKs ks [k, l]) (putDs ks ds [k, l] v)))
section
variable {X : Cx} {o i e value : Expr} {pos pos' : Pos} {td ta tb tv : TD} {k : Nat}
theorem psd_putT (hr : Room k X.A) (ho : PD X o td) (hi : PKey X i ta tb) (hv : PD X value tv) (hs : swapsWith value (some (.Subscript o i pos')) pos.line X.env = pure false := by rfl) :
    PSD X (.Assign [.Subscript o i pos'] value pos) (dPutT td ta tb tv) :=
  PS.imp (ps_dput (by have := hr.un; omega) ho hi hv hs) fun Dn σ H ⟨m, ρ, c, De, S, h, n, r, b, kk⟩ =>
  ⟨m, ρ, c, _, S, h, fun v c1 vv H1 m1 hx C1 R1 L1 => ⟨m1, ρ, c1, _, S.step L1 C1, hx, fun x c2 vx H2 m2 hx C2 R2 L2 => ⟨m2, ρ, c2, _, (S.step L1 C1).step L2 C2, hx, fun u c3 vu H3 m3 hx C3 R3 L3 =>
    ⟨m3, ρ, c3, _, ((S.step L1 C1).step L2 C2).step L3 C3, hx, fun w c4 vw H4 m4 hx C4 R4 L4 => ⟨two_line, fun p hp => by
      obtain ⟨j, ks, ds, k, l, rfl, hk, rfl, rfl, hl, hn⟩ := hx
      have C5 := CR.new (o := .tup [vu, vw]) hp C4
      have l5 := Le.new (o := .tup [vu, vw]) hp C4
      obtain rfl := kD_v R3
      obtain rfl := kD_v R4
      have L25 := L3.trans (L4.trans l5)
      have L15 := L2.trans L25
      obtain ⟨a, h1, rfl⟩ := L25.r R2
      obtain ⟨b', h2, kvs, h3, h4, h5⟩ := C5.at_ j _ hk
      rw [h1] at h2; cases h2
      subst h4
      refine ⟨a, _, rfl, DPut.t h3 (k := [k, l]) upd_same (by simpa using hl), ?_⟩
      have hm : a ∈ m4.ix := List.mem_of_getElem? h1
      have z := cell_put (o := .dT (putK kvs [k, l] vv)) (ce := .dcT (putKs (kvs.map (·.1)) [k, l]) (putDs (kvs.map (·.1)) ds [k, l] v)) C5 h1 ⟨_, upd_same, put_keys _ _ _, by
        show RL _ _ (hid m4 _) _ _
        rw [hid_mut hm]; exact put_r (L15.r R1) h5⟩
      exact n _ _ m4 ρ _ hn ((((((S.step L1 C1).step L2 C2).step L3 C3).step L4 C4).step l5 C5).step z.2 z.1) (L1.trans (L15.trans z.2))⟩⟩⟩⟩⟩
end
/-! ### a def that tells a list of dicts -/
def meltT (n0 : Nat) (c : List Cell) : D → Option D
  | .cell k => match c[k]? with
    | some (.dcT ks es) => if Nat.ble n0 k && okDs n0 es then some (.dcT ks es) else none
    | _ => none
  | d => if okD n0 d then some d else none
def meltTs (n0 : Nat) (c : List Cell) : List D → Option (List D)
  | [] => some []
  | d :: ds => match meltT n0 c d, meltTs n0 c ds with
    | some e, some es => some (e :: es)
    | _, _ => none
def retDL (n0 : Nat) (Φ : D → List Cell → Prop) (d : D) (c : List Cell) : Prop := okCs n0 (c.take n0) = true ∧ ∃ k ds es, d = .cell k ∧ c[k]? = some (.lst ds) ∧ Nat.ble n0 k = true ∧ meltTs n0 c ds = some es ∧ Φ (.lst es) (c.take n0)
theorem free_cell {K : PySem.W.Frag} {H' : Hp} {m m' : Ad} {c' : List Cell} {n0 k : Nat} {a : Addr} (hn : m.ix.length = n0) (pre : ∀ (k : Nat) a, m.ix[k]? = some a → m'.ix[k]? = some a) (hd : m'.hd = m.hd) (C : CR K H' m' c') (b1 : Nat.ble n0 k = true) (h5 : m'.ix[k]? = some a) : a ∉ m.ix ∧ a ∉ m.hd := by
  refine ⟨fun z => ?_, fun z => C.dj a (List.mem_of_getElem? h5) (by rw [hd]; exact z)⟩
  obtain ⟨j, hj⟩ := List.mem_iff_getElem?.mp z
  have hj2 := pre j a hj
  have e1 := (List.getElem?_eq_some_iff.mp h5)
  have e2 := (List.getElem?_eq_some_iff.mp hj2)
  have : k = j := (List.getElem_inj C.nd).mp (e1.2.trans e2.2.symm)
  subst this
  have := (List.getElem?_eq_some_iff.mp hj).1
  have := Nat.le_of_ble_eq_true b1
  omega
theorem meltT_ok {K : PySem.W.Frag} {H' : Hp} {m m' : Ad} {c' : List Cell} {n0 : Nat} (hn : m.ix.length = n0) (pre : ∀ (k : Nat) a, m.ix[k]? = some a → m'.ix[k]? = some a) (hd : m'.hd = m.hd) (C : CR K H' m' c') (ex : Ex (hid m' H') (hid m H')) :
    ∀ {d e : D} {v : V}, meltT n0 c' d = some e → RR K H' m' d v → RR K H' m e v := by
  have gen : ∀ {d e : D} {v : V}, (if okD n0 d then some d else none) = some e → RR K H' m' d v → RR K H' m e v := fun {d e v} h r => by
    by_cases hk : okD n0 d = true
    · rw [if_pos hk] at h; cases h
      exact R.low ex (low_cut pre hn) _ v hk r
    · rw [if_neg hk] at h; cases h
  intro d e v h r
  cases d with
  | cell k =>
    obtain ⟨a, h5, rfl⟩ := r
    have h : (match c'[k]? with
      | some (.dcT ks es) => if Nat.ble n0 k && okDs n0 es then some (D.dcT ks es) else none
      | _ => none) = some e := h
    cases e1 : c'[k]? with
    | none => rw [e1] at h; cases h
    | some ce =>
      rw [e1] at h
      cases ce with
      | dcT ks es =>
        have h : (if Nat.ble n0 k && okDs n0 es then some (D.dcT ks es) else none) = some e := h
        by_cases hb : (Nat.ble n0 k && okDs n0 es) = true
        · rw [if_pos hb] at h
          cases h
          obtain ⟨b1, b2⟩ := Bool.and_eq_true_iff.mp hb
          obtain ⟨b, h6, kvs, h7, h8, h9⟩ := C.at_ k _ e1
          rw [h5] at h6; cases h6
          refine ⟨a, kvs, rfl, ?_, h8, RL.low ex (low_cut pre hn) es _ b2 h9⟩
          rw [hid_of (free_cell hn pre hd C b1 h5)]
          exact h7
        · rw [if_neg hb] at h; cases h
      | obj _ _ _ => cases h
      | dct _ _ => cases h
      | lst _ => cases h
  | non => exact gen (d := .non) h r
  | bl b => exact gen (d := .bl b) h r
  | int i => exact gen (d := .int i) h r
  | str x => exact gen (d := .str x) h r
  | tup ds => exact gen (d := .tup ds) h r
  | lst ds => exact gen (d := .lst ds) h r
  | fl ds => exact gen (d := .fl ds) h r
  | ins C' ns ds => exact gen (d := .ins C' ns ds) h r
  | dct _ _ => exact gen (d := .dct _ _) h r
  | dcT _ _ => exact gen (d := .dcT _ _) h r
  | exc a dd C' ns ds => exact gen (d := .exc a dd C' ns ds) h r
  | raw v => exact gen (d := .raw v) h r
theorem meltTs_ok {K : PySem.W.Frag} {H' : Hp} {m m' : Ad} {c' : List Cell} {n0 : Nat} (hn : m.ix.length = n0) (pre : ∀ (k : Nat) a, m.ix[k]? = some a → m'.ix[k]? = some a) (hd : m'.hd = m.hd) (C : CR K H' m' c') (ex : Ex (hid m' H') (hid m H')) :
    ∀ {ds es : List D} {vs : List V}, meltTs n0 c' ds = some es → RRL K H' m' ds vs → RRL K H' m es vs
  | [], es, vs, h, r => by cases h; exact r
  | d :: ds, es, vs, h, r => by
    obtain ⟨x, t, rfl, r1, r2⟩ := r
    unfold meltTs at h
    cases e1 : meltT n0 c' d with
    | none => rw [e1] at h; cases h
    | some e =>
      cases e2 : meltTs n0 c' ds with
      | none => rw [e1, e2] at h; cases h
      | some es' =>
        rw [e1, e2] at h; cases h
        exact ⟨x, t, rfl, meltT_ok hn pre hd C ex e1 r1, meltTs_ok hn pre hd C ex e2 r2⟩
theorem ret_okL {K : PySem.W.Frag} {H H' : Hp} {m m' : Ad} {c' : List Cell} {Φ : D → List Cell → Prop} {d : D} {v : V} {Q : VK} {n0 : Nat} (hn : m.ix.length = n0) (q : ∀ d c' w H', Φ d c' → CR K H' m c' → RR K H' m d w → Le m H m H' → Q w H')
    (h : retDL n0 Φ d c') (C : CR K H' m' c') (r : RR K H' m' d v) (l : Le m H m' H') : Q v H' := by
  obtain ⟨hk, k, ds, es, rfl, h1, h2, h3, h4⟩ := h
  have C' := C.cut l.pre l.hd hn hk
  have ex : Ex (hid m' H') (hid m H') := ex_cut l.pre l.hd
  have l' : Le m H m H' := ⟨fun _ _ e => e, l.ex.trans ex, rfl, l.hk' ex, fun _ h => .inl h, l.al⟩
  obtain ⟨a, h5, rfl⟩ := r
  obtain ⟨b, h6, xs, h7, h8⟩ := C.at_ k _ h1
  rw [h5] at h6; cases h6
  exact q (.lst es) _ (.ref a) H' h4 C' ⟨a, xs, rfl, by rw [hid_of (free_cell hn l.pre l.hd C h2 h5)]; exact h7, meltTs_ok hn l.pre l.hd C ex h3 h8⟩ l'
section
variable {P : Program} {w : World} {K : PySem.W.Frag} {mg : Str → Option Value} {base : Heap}
theorem fnDL {x qual : Str} {st : Stmt} {f : Addr} {fd : FuncData} {N ps : List Str} {k n0 : Nat} {S : Pm} (F : Fun K x qual st f fd) (Sc : FnScope N ps (defScope st))
    (hbody : ∀ (cdv : Value) (A : Around) (outer : List PySem.Env) (s : Shared) (H : Hp) (E : XK), Room k (A.deeper (envOfC qual (defScope st) s.heap.objs.size f cdv)) →
      ∃ ts, PSDs (cxOf CX0 P w K mg base N qual (defScope st) f cdv A outer s H E).nox (defBody st) ts ∧
        ∀ c ds Φ, c.length = n0 → ds.length = ps.length → S c ds Φ → ts ⟨fun _ c' => retDL n0 Φ .non c', retDL n0 Φ, fun _ _ => False, fun _ _ => False⟩ (startD N ds) c) :
    FnOk P w K mg base CX0 (k + 1) f fd ps (spD K n0 ps.length S) := by
  refine F.ok Sc (fun vs H Q E h => ?_) (fun cdv A outer s H vs Q E hr h => ?_)
  · obtain ⟨m, c, ds, Φ, h1, h2, C, r, _⟩ := h
    rw [← RL.length r]; exact h2
  · obtain ⟨m, c, ds, Φ, h1, h2, C, r, hS, q⟩ := h
    obtain ⟨ts, hp, ht⟩ := hbody cdv A outer s H E hr
    have hn : m.ix.length = n0 := by rw [C.len]; exact h1
    exact ⟨_, hp, m, startD N ds, c, _, start_slots C r, ht c ds Φ h1 h2 hS, fun σ' H' m' ρ' c' h' S' l => ret_okL hn q h' S'.cr rfl l, fun d c' v H' m' h' C' r' l => ret_okL hn q h' C' r' l, fun _ _ _ _ _ z => z.elim, fun _ _ _ _ _ z => z.elim⟩
end
end Cw

namespace Cw
open PySem PySem.Spec PyProof.Rows L2
/-! ### == of two dicts of ints whose keys are tuples -/
def lookTI : List (List Key) → List Int → List Key → Option Int
  | k :: ks, i :: is, q => if k = q then some i else lookTI ks is q
  | _, _, _ => none
def sameTI (ls : List (List Key)) (js : List Int) : List (List Key) → List Int → Bool
  | k :: ks, i :: is => match lookTI ls js k with
    | some j => (i == j) && sameTI ls js ks is
    | none => false
  | _, _ => true
theorem lookTI_val : ∀ {kvs : List (List Key × V)} {is : List Int} {q : List Key}, kvs.map (·.2) = is.map V.int → valV kvs q = (lookTI (kvs.map (·.1)) is q).map V.int
  | [], [], q, _ => rfl
  | [], _ :: _, q, h => nomatch h
  | (k, w) :: kvs, [], q, h => nomatch h
  | (k, w) :: kvs, i :: is, q, h => by
    injection h with h1 h2
    have h1 : w = V.int i := h1
    by_cases e : k = q
    · rw [valV_pos e]
      show some w = (if k = q then some i else _).map V.int
      rw [if_pos e, h1]; rfl
    · rw [valV_neg e, lookTI_val h2]
      show _ = (if k = q then some i else _).map V.int
      rw [if_neg e]
theorem hits_TI {A : Around} {s : Shared} {H : Hp} {kvs : List (List Key × V)} {xb : List (List Key × Addr × Value)} {js : List Int} (rb : KT H kvs xb) (hj : kvs.map (·.2) = js.map V.int) : ∀ {ks : List (List Key × V)} {xa : List (List Key × Addr × Value)} {is : List Int}, KT H ks xa → ks.map (·.2) = is.map V.int →
    KqT A s xb xa (sameTI (kvs.map (·.1)) js (ks.map (·.1)) is)
  | _, _, [], .nil, _ => .nil
  | _, _, _ :: _, .nil, h => nomatch h
  | _, _, [], .cons _ _, h => nomatch h
  | p :: ks, q :: xa, i :: is, .cons ⟨e, hb, hv⟩ t, h => by
    injection h with h1 h2
    have h1 : p.2 = V.int i := h1
    rw [h1] at hv
    obtain ⟨k, ad, v⟩ := q
    obtain ⟨t1, ev⟩ := (show ∃ t, v = Value.int i t from hv)
    subst ev
    have e : p.1 = k := e
    have vl := lookTI_val (q := k) hj
    have rr := rb.val k
    have ih := hits_TI rb hj t h2 (A := A) (s := s)
    show KqT A s xb ((k, ad, Value.int i t1) :: xa) (match lookTI (kvs.map (·.1)) js p.1 with | some j => (i == j) && sameTI (kvs.map (·.1)) js (ks.map (·.1)) is | none => false)
    rw [e]
    cases l : lookTI (kvs.map (·.1)) js k with
    | none =>
      rw [vl, l] at rr
      refine .miss ?_
      cases g : atKey xb k with
      | none => rfl
      | some y => rw [g] at rr; exact rr.elim
    | some j =>
      rw [vl, l] at rr
      obtain ⟨w, hw, rw'⟩ := RelO.some_of (show RelO (some (V.int j)) ((atKey xb k).map (·.2)) from rr)
      obtain ⟨y, hy, hy2⟩ := Option.map_eq_some_iff.mp hw
      obtain ⟨t2, ey⟩ := (show ∃ t, w = Value.int j t from rw')
      subst ey
      exact .hit hy (by rw [hy2]; exact SeqAt.EqAt.int_int _ _ _ _) ih
section
variable {prog : Program} {w : World} {A : Around} {E : Value → Shared → Prop} {s : Shared}
theorem keqT {a b : Addr} {xa xb : List (List Key × Addr × Value)} {r : Bool} {Q : Value → Shared → Prop} (na : (a == sysModules) = false) (nb : (b == sysModules) = false) (room : A.units + 1 < cLine)
    (da : s.heap.DictOfH (tK prog w) a xa) (db : s.heap.DictOfH (tK prog w) b xb) (hits : xa.length = xb.length → KqT A.in1 s xb xa r) (done : Q (.bool (xa.length == xb.length && r)) s) : wpAny (model prog w) A (compareOp .Eq (.ref a) (.ref b)) Q E s := by
  have ta := da.typeIs
  have tb := db.typeIs
  have room' : A.units < cLine := by omega
  refine wpAny_richCompare_same_room (op := .Eq) ta tb PySem.F.slot_dict_eq (wpAny_call_entry PySem.F.slot_dict_eq ta PySem.F.entry_dict_eq ?_ (PySem.F.args_dict_eq_2 _ _)) room'
  refine wpAny_bind (Q := _) ?_
  unfold Builtin.Dict.dictSlotArgs
  refine wpAny_bind (wpAny_notOrdered_dict ta (wpAny_pure ?_))
  refine wpAny_bind (wpAny_isInstance (T := "dict") tb PySem.F.sub_dict_dict ?_)
  rw [if_neg (by simp)]
  refine wpAny_bind (wpAny_pure (wpAny_bind (wpAny_pure (wpAny_bind (sameT_run (r := r) ?_ na nb da db hits ?_)))))
  · exact room
  · exact wpAny_pure ⟨_, rfl, (fun x => nomatch x), by simpa using done⟩
end
def rEqDT : R2 := fun x y H Q => ∃ a b ks ls is js, x = .ref a ∧ y = .ref b ∧ Rd H a (.dT ks) ∧ Rd H b (.dT ls) ∧ ks.map (·.2) = is.map V.int ∧ ls.map (·.2) = js.map V.int ∧ Q (.bl (ks.length == ls.length && sameTI (ls.map (·.1)) js (ks.map (·.1)) is)) H
def fEqDT : F2 := fun x y c Φ => ∃ ks ls is js, x = .dcT ks (is.map .int) ∧ y = .dcT ls (js.map .int) ∧ Φ (.bl (ks.length == ls.length && sameTI ls js ks is)) c
section
variable {X : Cx} {a b : Expr} {ta tb : TD} {pos : Pos}
theorem op_eqDT (hu : X.A.units + 1 < cLine) : OpR X (compareOp .Eq) rEqDT := by
  intro pins s σ H x y v u Q I rx ry h
  obtain ⟨a, b, ks, ls, is, js, rfl, rfl, ea, eb, hi, hj, q⟩ := h
  obtain rfl : v = Value.ref a := rx
  obtain rfl : u = Value.ref b := ry
  obtain ⟨_, ya, va, ra, da⟩ := dt_rd I.hok ea
  obtain ⟨_, yb, vb, rb, db⟩ := dt_rd I.hok eb
  have la := paired_len ra
  have lb := paired_len rb
  exact keqT (r := sameTI (ls.map (·.1)) js (ks.map (·.1)) is) ya yb hu da db (fun _ => hits_TI rb hj ra hi) (fin_bl I q (by rw [la, lb]))
theorem l2_eqDT {K : PySem.W.Frag} : L2f K fEqDT rEqDT := by
  intro x y c Φ ⟨ks, ls, is, js, e1, e2, h⟩ H m u v C r1 r2 Q q
  subst e1; subst e2
  obtain ⟨a, kvs, rfl, h1, h2, h3⟩ := r1
  obtain ⟨b, lvs, rfl, h4, h5, h6⟩ := r2
  subst h2; subst h5
  rw [List.length_map, List.length_map] at h
  exact ⟨a, b, kvs, lvs, is, js, rfl, rfl, .inl h1, .inl h4, rl_ints h3, rl_ints h6, q.pure C h rfl⟩
theorem pd_eqDT {k : Nat} (hr : Room k X.A) (ha : PD X a ta) (hb : PD X b tb) : PD X (.Compare a [.Eq] [b] pos) (dBin fEqDT ta tb) := PE.imp (pe_cmpR (op_eqDT (by have := hr.un; omega)) ha hb (nomark _)) fun σ H Q h => lift_bin l2_eqDT h
theorem pdt_eqDT {k : Nat} (hr : Room k X.A) (ha : PD X a ta) (hb : PD X b tb) : PDt X (.Compare a [.Eq] [b] pos) (dT (dBin fEqDT ta tb)) := pdt_cmp (op_eqDT (by have := hr.un; omega)) l2_eqDT ha hb (nomark _)
end
end Cw

namespace Cw
open PySem PySem.Spec PyProof.Rows L2
/-! ### dict(xs) of a list of pairs whose keys are ints and texts -/
def pairS (q : Key × D) : D := .tup [kD q.1, q.2]
def fDictS : F1 := fun x c Φ => ∃ ps : List (Key × D), x = .lst (ps.map pairS) ∧ (ps.map (·.1)).Nodup ∧ Φ (.dct (ps.map (·.1)) (ps.map (·.2))) c
theorem mergeK_nodup : ∀ (more kvs : List (Key × V)), ((kvs ++ more).map (·.1)).Nodup → mergeK kvs more = kvs ++ more
  | [], kvs, _ => by simp [mergeK]
  | p :: more, kvs, h => by
    have hn : valV kvs p.1 = none := by
      unfold valV
      rw [List.find?_eq_none.mpr, Option.map_none]
      intro x hx hk
      have e : x.1 = p.1 := by simpa using hk
      rw [List.map_append, List.nodup_append] at h
      exact h.2.2 x.1 (List.mem_map_of_mem hx) p.1 (by simp) e
    show mergeK (putK kvs p.1 p.2) more = _
    rw [putK_new _ hn, mergeK_nodup more (kvs ++ [(p.1, p.2)]) (by rw [List.append_assoc]; exact h), List.append_assoc]
    rfl
theorem pairs_r {K : PySem.W.Frag} {m : Ad} {H : Hp} : ∀ {ps : List (Key × D)} {xs : List V}, RRL K H m (ps.map pairS) xs → ∃ (as : List Addr) (kvs : List (Key × V)), xs = as.map V.ref ∧ Paired (fun p kv => SqT K H p [kV kv.1, kv.2]) as kvs ∧ kvs.map (·.1) = ps.map (·.1) ∧ RRL K H m (ps.map (·.2)) (kvs.map (·.2))
  | [], _, h => ⟨[], [], h, .nil, rfl, rfl⟩
  | q :: ps, _, ⟨x, r, e, h1, h2⟩ => by
    obtain ⟨as, kvs, e1, e2, e3, e4⟩ := pairs_r h2
    obtain ⟨a, ys, rfl, ha, y1, r1, ey1, hk, y2, r2, ey2, hv, er⟩ := h1
    have er : r2 = [] := er
    subst er; subst ey2; subst ey1
    obtain rfl := kD_v hk
    refine ⟨a :: as, (q.1, y2) :: kvs, by rw [e, e1]; rfl, .cons (ex_t (ex_hid m H) ha) e2, by rw [List.map_cons, List.map_cons, e3], ⟨y2, _, rfl, hv, e4⟩⟩
theorem l1_dictS {K : PySem.W.Frag} : L1f K fDictS (fun u H Q => ∃ (a : Addr) (ps : List Addr) (kvs : List (Key × V)), [u] = [.ref a] ∧ SqL K H a (ps.map V.ref) ∧ Paired (fun p kv => SqT K H p [kV kv.1, kv.2]) ps kvs ∧ ∀ p, H p = none → Q (.ref p) (upd H p (.dK (mergeK [] kvs)))) := by
  intro x c Φ h H m u C r Q q
  obtain ⟨ps, rfl, nd, hΦ⟩ := h
  obtain ⟨a, xs, rfl, h1, h2⟩ := r
  obtain ⟨as, kvs, e1, e2, e3, e4⟩ := pairs_r h2
  subst e1
  refine ⟨a, as, kvs, rfl, SqL.of h1, e2, fun p hp => ?_⟩
  rw [mergeK_nodup kvs [] (by rw [List.nil_append, e3]; exact nd), List.nil_append]
  have C2 := CR.new (o := .dK kvs) hp C
  have l2 := Le.new (o := .dK kvs) hp C
  exact q _ c _ _ m hΦ C2 ⟨p, kvs, rfl, .inl (new_at hp C), e3, l2.rl e4⟩ l2
section
variable {X : Cx} {e : Expr} {ta : TD} {pos : Pos}
theorem pd_dictS (hc : X.calm = true) {pp : Pos} (ha : PD X e ta) (hm : X.mg "dict" = none) (hg : Gl X "dict" := by rfl) (he : starEach [e] X.env = (false, eval e X.env) :: starEach [] X.env := by rfl) (hpl : (backTo pos (starEach [] X.env)).any (·.1) = false := by rfl) :
    PD X (.Call (.Name "dict" pp) [e] [] pos) (dCB (un1 fDictS) (dCons ta dNil)) := pd_T1 (call_dictP hc) l1_dictS PyProof.Rows.boot_dict (by decide) (by decide) ha hg hm he hpl
end
end Cw

namespace Cw
open PySem PySem.Spec PyProof.Rows L2
/-! ### k not in d -/
def dDNin (ty td : TD) : TDt := fun ρ c Φ => ty ρ c fun y c1 => td ρ c1 fun x c2 => ∃ ks ds k, vw c2 x = .dct ks ds ∧ y = kD k ∧ Φ (!(ks.any fun q => decide (q = k))) c2
section
variable {X : Cx} {o i : Expr} {pos : Pos} {td ty : TD}
theorem pdt_ninD {k : Nat} (hr : Room k X.A) (hy : PD X i ty) (hd : PD X o td) (hm : behindInMarks .NotIn o = false := by rfl) : PDt X (.Compare i [.NotIn] [o] pos) (dDNin ty td) :=
  PT.imp (pt_cmp (pc_dnotin (by have := hr.un; omega) hy hd) hm) fun σ H Q ⟨m, ρ, c, Φ, S, h, q⟩ =>
    ⟨m, ρ, c, _, S, h, fun y c1 v H1 m1 hx C1 R1 L1 => ⟨m1, ρ, c1, _, S.step L1 C1, hx, fun x c2 u H2 m2 hy C2 R2 L2 => by
      obtain ⟨ks, ds, k, e1, e2, hΦ⟩ := hy
      subst e2
      have ev := kD_v R1
      subst ev
      have w := W.vw C2 R2
      rw [e1] at w
      obtain ⟨a, kvs, rfl, h1, h2, h3⟩ := w
      subst h2
      refine ⟨a, valV kvs k, rfl, .inl ⟨kvs, k, h1, rfl, rfl⟩, _, rfl, ?_⟩
      rw [← valV_any]
      rw [List.any_map] at hΦ
      exact q _ c2 H2 m2 hΦ C2 (L1.trans L2)⟩⟩
end
end Cw

/-! # Exceptions over data: what may be raised, beside what comes out -/
namespace Cw
open PySem PySem.Spec PyProof.Rows L2

/-- an exception that is raised: its class, its attributes -/
structure XD where
  C : Addr
  ns : List Str
  ds : List D
abbrev XW := XD → List Cell → Prop
def IsX (K : PySem.W.Frag) (H : Hp) (m : Ad) (x : XD) (cls : Value) (d : Option Addr) : Prop := cls = .ref x.C ∧ ∃ dd fs, d = some dd ∧ hid m H dd = some (.xd fs) ∧ fs.map (·.1) = x.ns ∧ RRL K H m x.ds (fs.map (·.2))
abbrev KX (K : PySem.W.Frag) (H : Hp) (m : Ad) (Ξ : XW) (E : XK) : Prop := ∀ x c' cls d H' m', Ξ x c' → CR K H' m' c' → IsX K H' m' x cls d → Le m H m' H' → E cls d H'
theorem KX.le {K : PySem.W.Frag} {H H1 : Hp} {m m1 : Ad} {Ξ : XW} {E : XK} (k : KX K H m Ξ E) (l : Le m H m1 H1) : KX K H1 m1 Ξ E := fun x c' cls d H' m' h C R l' => k x c' cls d H' m' h C R (l.trans l')
abbrev TDX := Env → List Cell → (D → List Cell → Prop) → XW → Prop
def liftX (K : PySem.W.Frag) (E : XK) (t : TDX) : TE := fun σ H Q => ∃ (m : Ad) (ρ : Env) (c : List Cell) (Φ : D → List Cell → Prop) (Ξ : XW), SR K σ H m ρ c ∧ t ρ c Φ Ξ ∧ KQ K H m Φ Q ∧ KX K H m Ξ E
abbrev PDX (X : Cx) (E : XK) (e : Expr) (t : TDX) : Prop := PE X e (liftX X.K E t)
structure DEX where
  nx : Env → List Cell → Prop
  rt : D → List Cell → Prop
  bk : Env → List Cell → Prop := fun _ _ => False
  ct : Env → List Cell → Prop := fun _ _ => False
  ex : XW := fun _ _ => False
abbrev TSX := DEX → Env → List Cell → Prop
def DEX.plain (De : DEX) : DEnds := ⟨De.nx, De.rt, De.bk, De.ct⟩
def liftSX (K : PySem.W.Frag) (E : XK) (t : TSX) : TS := fun Dn σ H => ∃ (m : Ad) (ρ : Env) (c : List Cell) (De : DEX), SR K σ H m ρ c ∧ t De ρ c ∧
  KN K H m De.nx Dn.nx ∧ KQ K H m De.rt Dn.rt ∧ KN K H m De.bk Dn.bk ∧ KN K H m De.ct Dn.ct ∧ KX K H m De.ex E
abbrev PSX (X : Cx) (E : XK) (s : Stmt) (t : TSX) : Prop := PS X s (liftSX X.K E t)
abbrev PSXs (X : Cx) (E : XK) (s : List Stmt) (t : TSX) : Prop := PSs X s (liftSX X.K E t)
section
variable {X : Cx} {E : XK} {st : Stmt} {rest a b : List Stmt} {e cE iter tg : Expr} {pos : Pos} {t u : TSX} {ts : TSD} {ta : TD} {tx : TDX} {tA : TDt}
theorem pdx_of (h : PD X e ta) : PDX X E e (fun ρ c Φ _ => ta ρ c Φ) := PE.imp h fun σ H Q ⟨m, ρ, c, Φ, Ξ, S, h, q, _⟩ => ⟨m, ρ, c, Φ, S, h, q⟩
theorem psx_of (h : PSD X st ts) : PSX X E st (fun De => ts De.plain) := PS.imp h fun Dn σ H ⟨m, ρ, c, De, S, h, n, r, b, k, _⟩ => ⟨m, ρ, c, De.plain, S, h, n, r, b, k⟩
theorem psxs_of (h : PSDs X rest ts) : PSXs X E rest (fun De => ts De.plain) := PSs.imp h fun Dn σ H ⟨m, ρ, c, De, S, h, n, r, b, k, _⟩ => ⟨m, ρ, c, De.plain, S, h, n, r, b, k⟩
def xNext : TSX := fun De ρ c => De.nx ρ c
def xSeq (t u : TSX) : TSX := fun De ρ c => t { De with nx := u De } ρ c
theorem psx_nil : PSXs X E [] xNext := PSs.imp pss_nil fun Dn σ H ⟨m, ρ, c, De, S, h, n, _⟩ => n σ H m ρ c h S (Le.refl _ _)
theorem psx_cons (h1 : PSX X E st t) (h2 : PSXs X E rest u) : PSXs X E (st :: rest) (xSeq t u) := PSs.imp (pss_cons h1 h2) fun Dn σ H ⟨m, ρ, c, De, S, h, n, r, b, k, x⟩ =>
  ⟨m, ρ, c, { De with nx := u De }, S, h, fun σ' H' m' ρ' c' h' S' l => ⟨m', ρ', c', De, S', h', n.le l, r.le l, b.le l, k.le l, x.le l⟩, r, b, k, x⟩
theorem psx_one (h1 : PSX X E st t) : PSXs X E [st] t := pss_one h1
def xRet (tx : TDX) : TSX := fun De ρ c => tx ρ c De.rt De.ex
theorem psx_ret (h : PDX X E e tx) : PSX X E (.Return (some e) pos) (xRet tx) := PS.imp (ps_ret h) fun Dn σ H ⟨m, ρ, c, De, S, h, n, r, b, k, x⟩ => ⟨m, ρ, c, De.rt, De.ex, S, h, r, x⟩
def xDrop (tx : TDX) : TSX := fun De ρ c => tx ρ c (fun _ c1 => De.nx ρ c1) De.ex
theorem psx_expr (h : PDX X E e tx) (hs : swapsWith e none pos.line X.env = pure false := by rfl) : PSX X E (.Expr e pos) (xDrop tx) := PS.imp (ps_expr h hs) fun Dn σ H ⟨m, ρ, c, De, S, h, n, r, b, k, x⟩ =>
  ⟨m, ρ, c, _, De.ex, S, h, fun d c' w H' m' hd C R L => n σ H' m' ρ c' hd (S.step L C) L, x⟩
def xIf (tc : TDt) (t u : TSX) : TSX := fun De ρ c => tc ρ c fun b c1 => match b with | true => t De ρ c1 | false => u De ρ c1
theorem psx_if (hc : PDt X cE tA) (ha : PSXs X E a t) (hb : PSXs X E b u) : PSX X E (.If cE a b pos) (xIf tA t u) := PS.imp (ps_if hc ha hb) fun Dn σ H ⟨m, ρ, c, De, S, h, n, r, b, k, x⟩ =>
  ⟨m, ρ, c, _, S, h, fun bo c1 H1 m1 hx C1 L1 => by
    cases bo with
    | true => rw [if_pos rfl]; exact ⟨m1, ρ, c1, De, S.step L1 C1, hx, n.le L1, r.le L1, b.le L1, k.le L1, x.le L1⟩
    | false => rw [if_neg (by decide)]; exact ⟨m1, ρ, c1, De, S.step L1 C1, hx, n.le L1, r.le L1, b.le L1, k.le L1, x.le L1⟩⟩
/-- a name for what a call that may raise gives -/
def xSet (i : Nat) (tx : TDX) : TSX := fun De ρ c => tx ρ c (fun d c1 => De.nx (ρ.set i (some d)) c1) De.ex
end

/-! ### own exceptions with one attribute -/
/-- what __init__(self, x): self.f = x promises -/
def spI (C : Addr) (f : Str) : Sp := fun vs H Q _ => ∃ (a : Addr) (y : V), vs = [.ref a, y] ∧ H a = some (exo a C none) ∧ ∀ dx, H dx = none → dx ≠ a → Q .non (upd (upd H dx (exd dx [(f, y)])) a (exo a C (some dx)))
def xRaise (C : Addr) (f : Str) (te : TD) : TSX := fun De ρ c => te ρ c fun y c1 => De.ex ⟨C, [f], [y]⟩ c1
section
variable {X : Cx} {CX : CXT} {E : XK} {x f : Str} {e : Expr} {te : TD} {p pos pos' : Pos} {C fI : Addr} {k : Nat} {fd : FuncData} {ps : List Str}
theorem psx_raise (hc : X.calm = true) (tk : Takes X fun cls d _ H => E cls d H) (T : OexC X.K C) (iC : PySem.W.findIn X.K (.ref C) "__init__" = some (some (.ref fI))) (tI : PySem.W.typeIn X.K (.ref fI) = some (.type "function"))
    (F1 : FnOk X.prog X.w X.K X.mg X.base CX k fI fd ps (spI C f)) (hr : Room (k + 1) X.A) (hb : Binds X.K fd ps []) (hx : Passes CX X (fun _ _ _ => False)) (hm : X.mg x = some (.ref C)) (he : PD X e te) (hg : Gl X x := by rfl)
    (hdb : (x == ("__debug__" : Str)) = false := by decide) (hs : starEach [e] X.env = (false, eval e X.env) :: starEach [] X.env := by rfl) (hpl : (backTo pos (starEach [] X.env)).any (·.1) = false := by rfl) :
    PSX X E (.Raise (some (.Call (.Name x p) [e] [] pos)) none pos') (xRaise C f te) := by
  refine PS.imp (ps_raise hc tk (pmk_oex (pos := pos) T iC tI F1 hr hb .nil hx hg hm (pds_cons he pds_nil hs) hdb hs hpl)) fun Dn σ H ⟨m, ρ, c, De, S, h, n, r, b, k, x⟩ => ?_
  refine ⟨m, ρ, c, (fun ds c1 => ∃ y, ds = [y] ∧ De.ex ⟨C, [f], [y]⟩ c1), S, ?_, ?_⟩
  · show te ρ c fun y c1 => ∃ z, [y] = [z] ∧ De.ex ⟨C, [f], [z]⟩ c1
    have e : (fun y c1 => ∃ z, [y] = [z] ∧ De.ex ⟨C, [f], [z]⟩ c1) = fun y c1 => De.ex ⟨C, [f], [y]⟩ c1 := by
      funext y c1
      apply propext
      constructor
      · rintro ⟨z, hz, q⟩; cases hz; exact q
      · intro q; exact ⟨y, rfl, q⟩
    rw [e]; exact h
  · rintro ds c1 vs H1 m1 ⟨y, rfl, q⟩ C1 R1 L1
    obtain ⟨v, t, rfl, rv, rt⟩ := R1
    cases (show t = [] from rt)
    refine ⟨by show 1 ≤ 1000; decide, fun a ha => ⟨a, v, rfl, upd_same, fun dx hdx hne => ⟨rfl, dx, [(f, v)], upd_same, ?_, ?_, ?_⟩⟩⟩
    · rw [upd_ne hne, upd_same]
    · rw [upd_ne hne] at hdx; exact hdx
    · have hdx' : H1 dx = none := by rw [upd_ne hne] at hdx; exact hdx
      have eH : upd (del (upd (upd (upd H1 a (exo a C none)) dx (exd dx [(f, v)])) a (exo a C (some dx))) a) dx (.xd [(f, v)]) = upd H1 dx (.xd [(f, v)]) := by
        funext b
        by_cases h1 : b = dx
        · subst h1; rw [upd_same, upd_same]
        · rw [upd_ne h1, upd_ne h1]
          by_cases h2 : b = a
          · subst h2; rw [del_same, ha]
          · rw [del_ne h2, upd_ne h2, upd_ne h1, upd_ne h2]
      rw [eH]
      exact x _ c1 _ _ _ m1 q (C1.new hdx') ⟨rfl, dx, _, rfl, new_at hdx' C1, rfl, v, [], rfl, (Le.new hdx' C1).r rv, rfl⟩ (L1.trans (Le.new hdx' C1))
end
section
variable {P : Program} {w : World} {K : PySem.W.Frag} {mg : Str → Option Value} {base : Heap}
/-- def __init__(self, f): self.f = f -/
theorem init_of {C fI : Addr} {fd : FuncData} {f qual : Str} {st : Stmt} {ps : List Str} (F : Fun K "__init__" qual st fI fd) (Sc : FnScope ps ps (defScope st)) (T : OexC K C) (na : PySem.W.findIn K (.ref C) f = some none)
    (hl : ps.length = 2) (hb : ∀ X : Cx, X.K = K → X.N = ps → X.env.scope = defScope st → PSs X (defBody st) (tOst K f (tVar 0) (tVar 1))) : FnOk P w K mg base CX0 1 fI fd ps (spI C f) := by
  refine F.ok Sc (fun vs H Q E ⟨a, y, e, _⟩ => by subst e; exact hl.symm) (fun cdv A outer s H vs Q E hr ⟨a, y, e, h1, h2⟩ => ⟨_, (hb _ rfl rfl rfl).nox, ?_⟩)
  subst e
  match ps, hl with
  | [p0, p1], _ => exact ⟨y, rfl, .ref a, rfl, a, C, rfl, T, na, .inl ⟨h1, fun dx n ne => h2 dx n ne⟩⟩
end

/-! ### defs that may raise -/
abbrev Pmx := List D → (D → Prop) → (XD → Prop) → Prop
def spX (K : PySem.W.Frag) (np : Nat) (S : Pmx) : Sp := fun vs H Q E => ∃ (m : Ad) (ds : List D) (Φ : D → Prop) (Ξ : XD → Prop), ds.length = np ∧ CR K H m [] ∧ RRL K H m ds vs ∧ S ds Φ Ξ ∧
  (∀ d w H', Φ d → CR K H' m [] → RR K H' m d w → Le m H m H' → Q w H') ∧ ∀ x cls dd H', Ξ x → CR K H' m [] → IsX K H' m x cls dd → Le m H m H' → E cls dd H'
def endX (Φ : D → Prop) (Ξ : XD → Prop) : DEX := { nx := fun _ c' => retD 0 (fun d _ => Φ d) .non c', rt := retD 0 (fun d _ => Φ d), ex := fun x _ => okDs 0 x.ds = true ∧ Ξ x }
section
variable {P : Program} {w : World} {K : PySem.W.Frag} {mg : Str → Option Value} {base : Heap}
theorem fnX {x qual : Str} {st : Stmt} {f : Addr} {fd : FuncData} {N ps : List Str} {k : Nat} {S : Pmx} (F : Fun K x qual st f fd) (Sc : FnScope N ps (defScope st))
    (hbody : ∀ (cdv : Value) (A : Around) (outer : List PySem.Env) (s : Shared) (H : Hp) (E : XK), Room k (A.deeper (envOfC qual (defScope st) s.heap.objs.size f cdv)) →
      ∃ ts, PSXs (cxOf (L2.CX P w) P w K mg base N qual (defScope st) f cdv A outer s H E) E (defBody st) ts ∧ ∀ ds Φ Ξ, ds.length = ps.length → S ds Φ Ξ → ts (endX Φ Ξ) (startD N ds) []) :
    FnOk P w K mg base (L2.CX P w) (k + 1) f fd ps (spX K ps.length S) := by
  refine F.okX Sc (fun vs H Q E ⟨m, ds, Φ, Ξ, h2, C, r, _⟩ => by rw [← RL.length r]; exact h2) (fun cdv A outer s H vs Q E hr ⟨m, ds, Φ, Ξ, h2, C, r, hS, q, qx⟩ => ?_)
  obtain ⟨ts, hp, ht⟩ := hbody cdv A outer s H E hr
  have hn : m.ix.length = 0 := C.len
  refine ⟨_, hp, m, startD N ds, [], endX Φ Ξ, start_slots C r, ht ds Φ Ξ h2 hS, fun σ' H' m' ρ' c' h' S' l => ?_, fun d c' v H' m' h' C' r' l => ?_, fun _ _ _ _ _ z => z.elim, fun _ _ _ _ _ z => z.elim, fun y c' cls dd H' m' ⟨h1, h3⟩ C' r' l => ?_⟩
  · exact ret_ok (Φ := fun d _ => Φ d) hn (fun d c2 w H2 hd C2 R2 L2 => q d w H2 hd (by cases c2 with | nil => exact C2 | cons _ _ => have := C2.len; rw [hn] at this; cases this) R2 L2) h' S'.cr rfl l
  · exact ret_ok (Φ := fun d _ => Φ d) hn (fun d c2 w H2 hd C2 R2 L2 => q d w H2 hd (by cases c2 with | nil => exact C2 | cons _ _ => have := C2.len; rw [hn] at this; cases this) R2 L2) h' C' r' l
  · have ex : Ex (hid m' H') (hid m H') := ex_cut l.pre l.hd
    have C2 : CR K H' m [] := C'.cut l.pre l.hd hn rfl
    obtain ⟨e1, dx, fs, e2, e3, e4, e5⟩ := r'
    exact qx y cls dd H' h3 C2 ⟨e1, dx, fs, e2, ex dx _ e3, e4, RL.low ex (low_cut l.pre hn) _ _ h1 e5⟩ ⟨fun _ _ e => e, l.ex.trans ex, rfl, l.hk' ex, fun _ h => .inl h, l.al⟩
end
section
variable {K : PySem.W.Frag} {m : Ad} {H : Hp} {c : List Cell}
theorem sp_x {S : Pmx} {np : Nat} {ds : List D} {vs : List V} {Φ : D → List Cell → Prop} {Ξ : XW} {Q : VK} {E : XK} (C : CR K H m c) (r : RRL K H m ds vs) (hl : ds.length = np) (ok : okDs 0 ds = true) (hS : S ds (fun d => Φ d c) fun x => Ξ x c) (q : KQ K H m Φ Q) (qx : KX K H m Ξ E) : spX K np S vs H Q E := by
  have C0 : CR K H m.none [] := ⟨rfl, List.nodup_nil, fun k ce e => by simp at e, hall C, fun a ha => (by cases ha), C.tk_none⟩
  refine ⟨m.none, ds, _, _, hl, C0, ?_, hS, fun d w H' hd C' r' l => ?_, fun x cls dd H' hx C' r' l => ?_⟩
  · show RL K [] (hid m.none H) ds vs
    rw [hid_none]
    exact RL.low (n := 0) (Ex.refl _) (fun k a hk => absurd hk (Nat.not_lt_zero _)) ds vs ok r
  · refine q d c w H' m hd (C.of_none l) ?_ l.of_none
    have r2 : R K [] (hid m.none H') d w := r'
    rw [hid_none] at r2
    exact R.mono (Ex.refl _) (fun k a e => by simp at e) d w r2
  · refine qx x c cls dd H' m hx (C.of_none l) ?_ l.of_none
    obtain ⟨e1, dx, fs, e2, e3, e4, e5⟩ := r'
    have r2 : RL K [] (hid m.none H') x.ds (fs.map (·.2)) := e5
    rw [hid_none] at r2 e3
    exact ⟨e1, dx, fs, e2, e3, e4, RL.mono (Ex.refl _) (fun k a e => by simp at e) _ _ r2⟩
end
section
variable {X : Cx} {E : XK} {k np : Nat} {f : Addr} {fd : FuncData} {ps : List Str} {S : Pmx} {x : Str} {p pos : Pos} {e : Expr} {es : List Expr} {tas : TDs}
def xCall (S : Pmx) (np : Nat) (t : TDs) : TDX := fun ρ c Φ Ξ => t ρ c fun ds c1 => ds.length = np ∧ okDs 0 ds = true ∧ S ds (fun d => Φ d c1) fun x => Ξ x c1
theorem pdx_call (F : FnOk X.prog X.w X.K X.mg X.base (L2.CX X.prog X.w) k f fd ps (spX X.K np S)) (hr : Room k X.A) (hm : X.mg x = some (.ref f)) (hk : PySem.W.keepIn X.K (.ref f) = true) (hb : Binds X.K fd ps []) (hx : Passes (L2.CX X.prog X.w) X E)
    (ha : PDs X (e :: es) tas) (hg : Gl X x := by rfl) (hdb : (x == ("__debug__" : Str)) = false := by decide) (he : starEach (e :: es) X.env = (false, eval e X.env) :: starEach es X.env := by rfl) (hpl : (backTo pos (starEach es X.env)).any (·.1) = false := by rfl) :
    PDX X E (.Call (.Name x p) (e :: es) [] pos) (xCall S np tas) := PE.imp (pe_call F hr hg hm hk hb .nil hx ha hdb he hpl) fun σ H Q ⟨m, ρ, c, Φ, Ξ, S', h, q, qx⟩ =>
    ⟨m, ρ, c, _, S', h, fun ds c1 vs H1 m1 ⟨hl, ok, hc⟩ C1 R1 L1 => by show spX _ _ _ (_ ++ []) _ _ _; rw [List.append_nil]; exact sp_x C1 R1 hl ok hc (KQ.le (K := X.K) q L1) (KX.le (K := X.K) qx L1)⟩
end
/-! ### for loops that may raise -/
def forX (g : TGD) (tb : TSX) (De : DEX) : List D → Env → List Cell → Prop
  | [], ρ, c => De.nx ρ c
  | d :: ds, ρ, c => g d ρ c fun ρ1 c1 => tb ⟨fun ρ2 c2 => forX g tb De ds ρ2 c2, De.rt, De.nx, fun ρ2 c2 => forX g tb De ds ρ2 c2, De.ex⟩ ρ1 c1
def xFor (ti : TDs) (g : TGD) (tb : TSX) : TSX := fun De ρ c => ti ρ c fun ds c1 => forX g tb De ds ρ c1
section
variable {X : Cx} {E : XK} {tg iter : Expr} {pos : Pos} {ti : TDs}
theorem psx_for {body : List Stmt} {g : TGD} {tb : TSX} (hp : PassesOwn (model X.prog X.w) X.A X.env X.xe) (hc : X.calm = true) (hi : PID X tg iter ti) (hg : PGD X tg g) (hb : PSXs X E body tb) (hs : ∀ x, foldedSetIterable iter X.env x = pure x := by intro _; rfl) :
    PSX X E (.For tg iter body [] pos) (xFor ti g tb) := PS.imp (ps_for hp hc hi hg hb hs) fun Dn σ H ⟨m, ρ, c, De, S, h, n, r, b, k, xx⟩ =>
  ⟨m, ρ, c, _, S, h, fun ds c1 J H1 m1 hx C1 wk L1 =>
    ⟨fun i mm σ' H' => mm = ds.length - i ∧ i ≤ ds.length ∧ ∃ m' ρ' c', Le m1 H1 m' H' ∧ SR X.K σ' H' m' ρ' c' ∧ forX g tb De (ds.drop i) ρ' c',
     ⟨ds.length, by simp, Nat.zero_le _, m1, ρ, c1, Le.refl _ _, S.step L1 C1, by simpa using hx⟩, by
      rintro i mm σ' H' ⟨rfl, hi, m', ρ', c', l, S', hf⟩
      by_cases hlt : i < ds.length
      · refine .inr ⟨wk.go i m' H' c' l S'.cr hlt, fun σ2 H2 => ∃ m2 ρ2 c2, Le m1 H1 m2 H2 ∧ SR X.K σ2 H2 m2 ρ2 c2 ∧ forX g tb De (ds.drop (i + 1)) ρ2 c2, fun σ2 H2 ⟨m2, ρ2, c2, l2, S2, h2⟩ => ⟨ds.length - (i + 1), by omega, rfl, hlt, m2, ρ2, c2, l2, S2, h2⟩, fun x H2 y => ?_⟩
        obtain ⟨d, hd, C2, l2, rx⟩ := wk.yld i m' H' c' x H2 l S'.cr hlt y
        have e : ds.drop i = d :: ds.drop (i + 1) := by
          rw [List.drop_eq_getElem_cons hlt]
          congr 1
          have := List.getElem?_eq_getElem hlt
          rw [hd] at this
          exact (Option.some.inj this).symm
        rw [e] at hf
        have L2 := L1.trans (l.trans l2)
        refine ⟨m', ρ', c', d, _, S'.step l2 C2, rx, hf, fun σ3 H3 m3 ρ3 c3 h3 S3 l3 => ?_⟩
        have L3 := L2.trans l3
        refine ⟨m3, ρ3, c3, _, S3, h3, fun σ4 H4 m4 ρ4 c4 h4 S4 l4 => ?_, r.le L3, fun σ4 H4 m4 ρ4 c4 h4 S4 l4 => n σ4 H4 m4 ρ4 c4 h4 S4 (L3.trans l4), fun σ4 H4 m4 ρ4 c4 h4 S4 l4 => ?_, xx.le L3⟩
        · exact ⟨m4, ρ4, c4, (l.trans l2).trans (l3.trans l4), S4, h4⟩
        · exact ⟨m4, ρ4, c4, (l.trans l2).trans (l3.trans l4), S4, h4⟩
      · have ei : i = ds.length := by omega
        subst ei
        refine .inl ⟨wk.stop _ m' H' c' l S'.cr (Nat.le_refl _), ?_⟩
        rw [List.drop_length] at hf
        exact n σ' H' m' ρ' c' hf S' (L1.trans l)⟩⟩
end
end Cw

/-! # Defs that are called while an exception is held, what they ask of it -/
namespace Cw
open PySem PySem.Spec PyProof.Rows L2

structure FnE (P : Program) (w : World) (K : PySem.W.Frag) (mg : Str → Option Value) (base : Heap) (k : Nat) (f : Addr) (fd : FuncData) (ps : List Str) (sp : Addr × Obj → Sp) : Prop where
  ln : ∀ p vs H Q E, sp p vs H Q E → vs.length = ps.length
  rn : ∀ (A : Around) (outer : List PySem.Env) (s : Shared) (H : Hp) (args : Args) (us : List Value) (vs : List V) (Q : VK) (E : XK) (p : Addr × Obj), L2H.RoomH k A → L2H.PinOk outer H s p → Env0 P w K mg base A outer s H → BindsTo s fd args (ps.zip us) → Vals vs us → sp p vs H Q E →
    codeAny (model P w) A (.call (.ref f) args) (L2.CR CX0 outer P w H s Q E) s
section
variable {P : Program} {w : World} {K : PySem.W.Frag} {mg : Str → Option Value} {base : Heap}
theorem fnE {x qual : Str} {st : Stmt} {f : Addr} {fd : FuncData} {N ps : List Str} {k : Nat} {sp : Addr × Obj → Sp} (F : Fun K x qual st f fd) (Sc : FnScope N ps (defScope st)) (ln : ∀ p vs H Q E, sp p vs H Q E → vs.length = ps.length)
    (hbody : ∀ (cdv : Value) (A : Around) (outer : List PySem.Env) (s : Shared) (H : Hp) (vs : List V) (Q : VK) (E : XK) (p : Addr × Obj), L2H.RoomH k (A.deeper (envOfC qual (defScope st) s.heap.objs.size f cdv)) → sp p vs H Q E →
      ∃ t, PSs (L2H.cxH CX0 P w K mg base N qual (defScope st) f cdv A outer s H E p).nox (defBody st) t ∧ t { nx := fun _ H' => Q .non H', rt := Q } (L2.start N vs) H) : FnE P w K mg base (k + 1) f fd ps sp := by
  obtain ⟨oc, od, kV, doc, pm, an, cdv, ct, osl, rfl, lk, hcd⟩ := F.ex
  refine ⟨ln, fun A outer s H args us vs Q E p hr hpin e0 hb r hsp => ?_⟩
  have inK : K.In s.heap := e0.mod.kin.keeps fun b o e => (e0.bs b o e).1
  have nl : s.heap.NoLimit := e0.mod.nolimit.keeps fun b o e => (e0.bs b o e).1
  obtain ⟨t, ht', hq⟩ := hbody cdv A outer s H vs Q E p (hr.deeper _) hsp
  have ht := ht'.nox
  have kinds : ∀ y ∈ ps.zip us, (defScope st).names.lookup y.1 = some .local ∨ ((defScope st).names.lookup y.1 = some .cell ∧ ((cellsFrom (s.heap.objs.size + 1) (defScope st).names []).lookup y.1).isSome = true) := fun ⟨n, v⟩ hy => (Sc.par n (List.of_mem_zip hy).1).imp id fun q => ⟨q, PySem.W.cellsFrom_some _ _ _ (.inl q)⟩
  refine codeAny_call_function hr.depth (inK _ _ lk) rfl Sc.co Sc.gen rfl (PySem.W.codeRec_of inK hcd) (hb _ _ _ _ (wpAny_newFunctionEnv_cells Sc.kind kinds fun env he s1 x => ?_))
  subst he
  refine ⟨nl.keeps x.toInCall.keep, codeAny_func ?_⟩
  have I : Inv (L2H.cxH CX0 P w K mg base N qual (defScope st) f cdv A outer s H E p) [] (L2.start N vs) H s1 := L2H.inv_startH Sc hpin e0 (ln _ _ _ _ _ hsp) r x
  refine wpAny_mono (ht.run [] s1 (L2.start N vs) H _ I hq) (fun fl s' hs => ?_) fun e s' hs => hs
  cases fl with
  | ret u =>
    obtain ⟨v, σ', H', J, rv, q⟩ := hs
    exact ⟨v, H', J.os, J.bare, J.base, J.hok, rv, q⟩
  | next =>
    obtain ⟨σ', H', J, q⟩ := hs
    exact ⟨V.non, H', J.os, J.bare, J.base, J.hok, rfl, q⟩
  | brk => exact hs.elim fun _ z => z.elim fun _ z => z.2.elim
  | cont => exact hs.elim fun _ z => z.elim fun _ z => z.2.elim
abbrev spE (K : PySem.W.Frag) (n0 np : Nat) (S : Addr × Obj → Pm) : Addr × Obj → Sp := fun p => spD K n0 np (S p)
theorem fnED {x qual : Str} {st : Stmt} {f : Addr} {fd : FuncData} {N ps : List Str} {k n0 : Nat} {S : Addr × Obj → Pm} (F : Fun K x qual st f fd) (Sc : FnScope N ps (defScope st))
    (hbody : ∀ (cdv : Value) (A : Around) (outer : List PySem.Env) (s : Shared) (H : Hp) (E : XK) (p : Addr × Obj), L2H.RoomH k (A.deeper (envOfC qual (defScope st) s.heap.objs.size f cdv)) → (∃ c ds Φ, S p c ds Φ) →
      ∃ ts, PSDs (L2H.cxH CX0 P w K mg base N qual (defScope st) f cdv A outer s H E p).nox (defBody st) ts ∧
        ∀ c ds Φ, c.length = n0 → ds.length = ps.length → S p c ds Φ → ts ⟨fun _ c' => retD n0 Φ .non c', retD n0 Φ, fun _ _ => False, fun _ _ => False⟩ (startD N ds) c) :
    FnE P w K mg base (k + 1) f fd ps (spE K n0 ps.length S) := by
  refine fnE F Sc (fun p vs H Q E ⟨m, c, ds, Φ, h1, h2, C, r, _⟩ => by rw [← RL.length r]; exact h2) (fun cdv A outer s H vs Q E p hr ⟨m, c, ds, Φ, h1, h2, C, r, hS, q⟩ => ?_)
  obtain ⟨ts, hp, ht⟩ := hbody cdv A outer s H E p hr ⟨c, ds, Φ, hS⟩
  have hn : m.ix.length = n0 := by rw [C.len]; exact h1
  exact ⟨_, hp, m, startD N ds, c, _, start_slots C r, ht c ds Φ h1 h2 hS, fun σ' H' m' ρ' c' h' S' l => ret_ok hn q h' S'.cr rfl l, fun d c' v H' m' h' C' r' l => ret_ok hn q h' C' r' l, fun _ _ _ _ _ z => z.elim, fun _ _ _ _ _ z => z.elim⟩
end

/-! ### calls of such defs -/
section
variable {X : Cx} {k np : Nat} {f : Addr} {fd : FuncData} {ps : List Str} {sp : Addr × Obj → Sp} {S : Addr × Obj → Pm} {p : Addr × Obj} {x : Str} {q pos : Pos} {e : Expr} {es : List Expr} {ta : TA} {tas : TDs}
theorem run_fnE {pins : List (Addr × Obj)} {σ : L2.St} {H : Hp} {s : Shared} {Q : VK} {us : List Value} {vs : List V} (F : FnE X.prog X.w X.K X.mg X.base k f fd ps sp) (hr : L2H.RoomH k X.A) (hp : p ∈ X.pn) (hb : Binds X.K fd ps [])
    (I : Inv X pins σ H s) (r : Vals vs us) (h : sp p vs H Q E0) : wpAny (model X.prog X.w) X.A (call (.ref f) us) (EP X pins σ Q) X.xe s := by
  have hl : us.length = ps.length := by rw [← r.length]; exact F.ln _ _ _ _ _ h
  have bt : BindsTo s fd ⟨us, []⟩ (ps.zip us) := by simpa using hb s us I.kIn (by simpa using hl)
  have P1 := I.pin p (List.mem_append_left _ hp)
  have pin : L2H.PinOk X.stack H s p := ⟨P1.1, P1.2.1, fun z => (List.mem_cons.mp (I.stkSub p.1 z)).elim P1.2.2.1 P1.2.2.2.1, P1.2.2.2.2⟩
  refine wpAny_call (codeAny_mono (F.rn X.A X.stack s H ⟨us, []⟩ us vs Q E0 p hr pin I.env0 bt r h) fun z s' hq => ?_)
  cases z with
  | error e => exact (show False from hq).elim
  | ok fl =>
    cases fl with
    | ret u => exact I.after hq
    | next => exact False.elim hq
    | brk => exact False.elim hq
    | cont => exact False.elim hq
theorem pe_callE (F : FnE X.prog X.w X.K X.mg X.base k f fd ps sp) (hr : L2H.RoomH k X.A) (hp : p ∈ X.pn) (hg : Gl X x) (hm : X.mg x = some (.ref f)) (hk : PySem.W.keepIn X.K (.ref f) = true) (hb : Binds X.K fd ps [])
    (ha : PA X (e :: es) ta) (hdb : (x == ("__debug__" : Str)) = false) (he : starEach (e :: es) X.env = (false, eval e X.env) :: starEach es X.env) (hpl : (backTo pos (starEach es X.env)).any (·.1) = false) :
    PE X (.Call (.Name x q) (e :: es) [] pos) (tCall (sp p) [] E0 ta) := ⟨fun pins s σ H Q I h =>
  wpAny_Call_Name_kw (ld_glob I hg hm (PySem.W.callWith_K (h₀ := X.base) I.ok.mod.kin hk (thn (ha.run pos pins s σ H _ I h) fun us s1 ⟨vs, H1, I1, r, z⟩ => ⟨I1.kIn, run_fnE F hr hp hb I1 r (by simpa using z)⟩) he hpl) hdb)⟩
theorem pe_callE0 (F : FnE X.prog X.w X.K X.mg X.base k f fd ps sp) (hr : L2H.RoomH k X.A) (hp : p ∈ X.pn) (hg : Gl X x) (hm : X.mg x = some (.ref f)) (hk : PySem.W.keepIn X.K (.ref f) = true) (hb : Binds X.K fd ps [])
    (hdb : (x == ("__debug__" : Str)) = false) : PE X (.Call (.Name x q) [] [] pos) (tCall (sp p) [] E0 tNil) := ⟨fun pins s σ H Q I h =>
  wpAny_Call_Name_kw (ld_glob I hg hm (PySem.W.callWith_K0 I.kIn hk (run_fnE F hr hp hb I .nil (show sp p ([] ++ []) H Q E0 from h))) hdb)⟩
theorem pd_callE (F : FnE X.prog X.w X.K X.mg X.base k f fd ps (spE X.K 0 np S)) (hr : L2H.RoomH k X.A) (hp : p ∈ X.pn) (hm : X.mg x = some (.ref f)) (hk : PySem.W.keepIn X.K (.ref f) = true) (hb : Binds X.K fd ps [])
    (ha : PDs X (e :: es) tas) (hg : Gl X x := by rfl) (hdb : (x == ("__debug__" : Str)) = false := by decide) (he : starEach (e :: es) X.env = (false, eval e X.env) :: starEach es X.env := by rfl) (hpl : (backTo pos (starEach es X.env)).any (·.1) = false := by rfl) :
    PD X (.Call (.Name x q) (e :: es) [] pos) (dCallP (S p) np tas) := PE.imp (pe_callE F hr hp hg hm hk hb ha hdb he hpl) fun σ H Q ⟨m, ρ, c, Φ, S', h, q⟩ =>
    ⟨m, ρ, c, _, S', h, fun ds c1 vs H1 m1 ⟨hl, hc⟩ C1 R1 L1 => by show spD _ _ _ _ (_ ++ []) _ _ _; rw [List.append_nil]; exact sp_pure C1 R1 hl hc (KQ.le (K := X.K) q L1)⟩
theorem pd_callE0 (F : FnE X.prog X.w X.K X.mg X.base k f fd ps (spE X.K 0 0 S)) (hr : L2H.RoomH k X.A) (hp : p ∈ X.pn) (hm : X.mg x = some (.ref f)) (hk : PySem.W.keepIn X.K (.ref f) = true) (hb : Binds X.K fd ps [])
    (hg : Gl X x := by rfl) (hdb : (x == ("__debug__" : Str)) = false := by decide) :
    PD X (.Call (.Name x q) [] [] pos) (dCallP (S p) 0 dNil) := PE.imp (pe_callE0 F hr hp hg hm hk hb hdb) fun σ H Q ⟨m, ρ, c, Φ, S', ⟨hl, hc⟩, q⟩ => by
    show spD X.K 0 0 (S p) ([] ++ []) H Q E0
    exact sp_pure S'.cr (show RRL X.K H m [] [] from rfl) hl hc (KQ.le (K := X.K) q (Le.refl _ _))
end

/-! ### what is asked of the held exception -/
/-- the held exception's object: its class, its dict -/
structure HeldO (p : Addr × Obj) (dd C : Addr) : Prop where
  cls : p.2.cls = .ref C
  dict : p.2.dict = some dd
  flds : ∃ vs, p.2.data = .fields vs
/-- of which classes it is -/
structure ExcA (K : PySem.W.Frag) (C : Addr) : Prop where
  cl : (PySem.W.clsIn K C).isSome = true
  dc : PySem.W.hasDictIn K C = true
  ga : PySem.W.findIn K (.ref C) "__getattribute__" = some (some (.builtin "BaseException.__getattribute__"))
  gt : PySem.W.findIn K (.ref C) "__getattr__" = some none
  su : PySem.W.subIn K (.ref C) (.type "BaseException") = some true
  hc : PySem.W.findIn K (.ref C) "__class__" = some (some (.builtin "object.__class__"))
  hs : PySem.W.specialIn K (.builtin "object.__class__") "__get__" = some (some (.builtin "getset_descriptor.__get__"))
  ht : PySem.W.takesIn K (.builtin "object.__class__") = some true
  hm : PySem.W.mroIn K C (.type "object") = some true
section
variable {X : Cx} {pins : List (Addr × Obj)} {σ : L2.St} {H : Hp} {s : Shared} {p : Addr × Obj} {dd C : Addr}
theorem held_inst (I : Inv X pins σ H s) (hp : p ∈ X.pn) (h : HeldO p dd C) {fs : List (Str × V)} (hx : H dd = some (.xd fs)) : ∃ (od : Obj) (mA : Str → Option Value), PySem.W.InstAt s.heap p.1 p.2 C (some od) ∧ (∀ n, PySem.W.lookIn n od = some (mA n)) ∧ ∀ f, RelO (fs.lookup f) (mA f) := by
  obtain ⟨mA, hns, hr⟩ := (show ObjOk X.prog X.w H s.heap dd (.xd fs) from I.hok dd _ hx)
  obtain ⟨od, ho, hl⟩ := lookIn_ns hns
  obtain ⟨vs, hd⟩ := h.flds
  exact ⟨od, mA, ⟨(I.pin p (List.mem_append_left _ hp)).1, h.cls, by unfold PySem.W.notCls; rw [hd] <;> rfl, by rw [h.dict]; exact ho⟩, hl, hr⟩
def rIsX (K : PySem.W.Frag) (p : Addr × Obj) (dd C : Addr) (u0 : Value) (b : Bool) (v0 : V) : List V → Hp → VK → Prop := fun xs H Q => xs = [.ref p.1, v0] ∧ (∃ fs, H dd = some (.xd fs)) ∧ Q (.bl b) H
theorem call_isX {u0 : Value} {v0 : V} {b : Bool} (hp : p ∈ X.pn) (h : HeldO p dd C) (A : ExcA X.K C) (cv : ClsV v0 u0) (e : PySem.W.kitOne X.K (.ref C) u0 = some b) : CallR X (.builtin "isinstance") (rIsX X.K p dd C u0 b v0) := by
  rintro pins s σ H xs us Q I r ⟨rfl, ⟨fs, hx⟩, q⟩
  obtain ⟨u1, u2, rfl, r1, r2⟩ := vals2 r
  cases (show u1 = Value.ref p.1 from r1)
  have e2 := cv.eq r2
  subst e2
  obtain ⟨od, mA, J, _⟩ := held_inst I hp h hx
  exact PySem.W.kia_one (PySem.W.kitx_exc A.cl A.ga A.gt A.su A.hc A.hs A.ht A.hm) I.kIn J e (fun z => nomatch z) fun tk => ⟨.bl b, H, I.tok tk, rfl, q⟩
def dIsX (p : Addr × Obj) (dd : Addr) (b : Bool) (ta : TD) : TD := fun ρ c Φ => ta ρ c fun x c1 => (∃ C ns ds, x = .exc p.1 dd C ns ds) ∧ Φ (.bl b) c1
variable {e e2 : Expr} {ta : TD} {pp pos : Pos}
theorem pd_isX {u0 : Value} {v0 : V} {b : Bool} (hp : p ∈ X.pn) (h : HeldO p dd C) (A : ExcA X.K C) (cv : ClsV v0 u0) (e1 : PySem.W.kitOne X.K (.ref C) u0 = some b) (ha : PD X e ta) (hb : PE X e2 (tC v0)) (hm : X.mg "isinstance" = none) (hg : Gl X "isinstance" := by rfl)
    (he : starEach [e, e2] X.env = (false, eval e X.env) :: starEach [e2] X.env := by rfl) (he2 : starEach [e2] X.env = (false, eval e2 X.env) :: starEach [] X.env := by rfl) (hpl : (backTo pos (starEach [e2] X.env)).any (·.1) = false := by rfl) :
    PD X (.Call (.Name "isinstance" pp) [e, e2] [] pos) (dIsX p dd b ta) :=
  PE.imp (pe_callB (call_isX hp h A cv e1) hg hm boot_isinstance (pa_cons ha (pa_cons hb pa_nil he2) he) (by decide) (by decide) he hpl) fun σ H Q ⟨m, ρ, c, Φ, S, hh, q⟩ =>
  ⟨m, ρ, c, _, S, hh, fun x c1 u H1 m1 ⟨⟨C', ns, ds, ex⟩, hx⟩ C1 R1 L1 => by
    subst ex
    obtain ⟨fs, rfl, h1, h2, h3⟩ := R1
    exact ⟨rfl, ⟨fs, (hid_some h1).2⟩, q (.bl b) c1 (.bl b) H1 m1 hx C1 rfl L1⟩⟩
/-- an attribute of the held exception -/
def dXf (p : Addr × Obj) (dd : Addr) (f : Str) (ta : TD) : TD := fun ρ c Φ => ta ρ c fun x c1 => ∃ C ns ds d, x = .exc p.1 dd C ns ds ∧ lookF f ns ds = some d ∧ Φ d c1
theorem pd_xf {n : Str} (hp : p ∈ X.pn) (h : HeldO p dd C) (A : ExcA X.K C) (hno : PySem.W.findIn X.K (.ref C) n = some none) (ha : PD X e ta) (hb : attributeBase e n X.env (eval e X.env) = eval e X.env := by rfl) :
    PD X (.Attribute e n pos) (dXf p dd n ta) := by
  refine ⟨fun pins s σ H Q I ⟨m, ρ, c, Φ, S, hh, q⟩ => ?_⟩
  refine attr_of hb (thn (ha.run pins s σ H (fun u H1 => ∃ fs v, u = .ref p.1 ∧ H1 dd = some (.xd fs) ∧ fs.lookup n = some v ∧ Q v H1) I ⟨m, ρ, c, _, S, hh, fun x c1 u H1 m1 ⟨C', ns, ds, d, ex, hl, hx⟩ C1 R1 L1 => ?_⟩) fun u s1 hh => ?_)
  · subst ex
    obtain ⟨fs, rfl, h1, h2, h3⟩ := R1
    obtain ⟨v, e1, rv⟩ := lookF_at h2 h3 hl
    exact ⟨fs, v, rfl, (hid_some h1).2, e1, q d c1 v H1 m1 hx C1 rv L1⟩
  · obtain ⟨x, H1, I1, rx, fs, v, ex, hx, hl, qq⟩ := hh
    subst ex
    obtain rfl : u = Value.ref p.1 := rx
    obtain ⟨od, mA, J, lo, hr⟩ := held_inst I1 hp h hx
    obtain ⟨u, hu, ru⟩ := RelO.some_of (v := v) (o := mA n) (by rw [← hl]; exact hr n)
    exact HandSPX.exc_get I1.kIn J A.ga A.gt A.su (PySem.W.findObj_own A.dc hno rfl (by rw [lo, hu])) (handed_of ru) ⟨v, H1, I1.tok _, ru, qq⟩
end

/-! ### lists of booleans: count, index -/
theorem reads_bools {h : Heap} : ∀ bs : List Bool, ReadsAll h (bs.map Value.bool) (bs.map PyData.bool) []
  | [] => .nil
  | b :: bs => .cons (as := []) (bs := []) (.bool b) (reads_bools bs)
theorem vals_bools : ∀ {bs : List Bool} {us : List Value}, Vals (bs.map V.bl) us → us = bs.map Value.bool
  | [], _, r => by cases r; rfl
  | b :: bs, _, r => by
    cases r with
    | cons r1 r2 =>
      cases r1
      rw [vals_bools r2]; rfl
theorem rl_bools {K : PySem.W.Frag} {ix : List Addr} {H : Hp} : ∀ {bs : List Bool} {xs : List V}, RL K ix H (bs.map D.bl) xs → xs = bs.map V.bl
  | [], _, h => h
  | b :: bs, _, ⟨x, r, e, h1, h2⟩ => by
    subst e
    cases (show x = V.bl b from h1)
    rw [rl_bools h2]; rfl
def cntB (k : Bool) : List Bool → Int
  | [] => 0
  | b :: bs => (if b = k then 1 else 0) + cntB k bs
def rCntB (K : PySem.W.Frag) : V → List V → Hp → VK → Prop := fun x xs H Q => ∃ (a : Addr) (bs : List Bool) (k : Bool), x = .ref a ∧ xs = [.bl k] ∧ SqL K H a (bs.map V.bl) ∧ Q (.int (cntB k bs)) H
theorem cnt_in (k : Bool) : ∀ bs : List Bool, countIn (.bool k) (bs.map PyData.bool) = cntB k bs
  | [] => rfl
  | b :: bs => by
    show (if same (.bool b) (.bool k) then 1 else 0) + countIn (.bool k) (bs.map PyData.bool) = _
    rw [cnt_in k bs]
    cases b <;> cases k <;> rfl
def idxB (k : Bool) : List Bool → Option Nat
  | [] => none
  | b :: bs => if b = k then some 0 else (idxB k bs).map (· + 1)
theorem idxB_at {k : Bool} : ∀ {bs : List Bool} {j : Nat}, idxB k bs = some j → bs[j]? = some k ∧ ∀ m z, m < j → bs[m]? = some z → z ≠ k
  | [], _, h => by cases h
  | b :: bs, j, h => by
    unfold idxB at h
    by_cases hb : b = k
    · rw [if_pos hb] at h
      cases h
      exact ⟨by simp [hb], fun m z hm => absurd hm (Nat.not_lt_zero _)⟩
    · rw [if_neg hb] at h
      obtain ⟨i, hi, rfl⟩ := Option.map_eq_some_iff.mp h
      obtain ⟨h1, h2⟩ := idxB_at hi
      refine ⟨by simpa using h1, fun m z hm hz => ?_⟩
      cases m with
      | zero => simp at hz; subst hz; exact hb
      | succ m => exact h2 m z (by omega) (by simpa using hz)
theorem mt_cntB {X : Cx} : MtR X "list.count" (rCntB X.K) := by
  intro pins s σ H x xs v us Q I rx rxs h
  obtain ⟨a, bs, k, rfl, rfl, hs, q⟩ := h
  cases rx
  cases rxs with
  | cons ry rt =>
    cases rt
    cases ry
    obtain ⟨its, rv, hl, hlen⟩ := I.list hs
    have e := vals_bools rv
    subst e
    obtain ⟨o, n, ho, hc, hdn, hd⟩ := hl
    exact count_list_bools ⟨o, ho, hc, n, hd⟩ (reads_bools (h := s.heap) bs) (by rw [List.all_map]; exact List.all_eq_true.mpr fun b _ => by cases b <;> rfl) ⟨.int (countIn (.bool k) (bs.map PyData.bool)), H, I.tok _, ⟨_, rfl⟩, by rw [cnt_in]; exact q⟩
/-! ### xs.count(e), xs.index(e) over booleans -/
def dCntB (to te : TD) : TD := fun ρ c Φ => to ρ c fun x c1 => ∃ bs : List Bool, x = .lst (bs.map .bl) ∧ te ρ c1 fun y c2 => ∃ k, y = .bl k ∧ Φ (.int (cntB k bs)) c2
def dIdxB (to te : TD) : TD := fun ρ c Φ => to ρ c fun x c1 => ∃ bs : List Bool, x = .lst (bs.map .bl) ∧ te ρ c1 fun y c2 => ∃ k j, y = .bl k ∧ idxB k bs = some j ∧ Φ (.int (j : Nat)) c2
section
variable {X : Cx} {o e : Expr} {ta tb : TD} {apos pos : Pos}
theorem one_arg {P : D → List Cell → Prop} : (fun x c1 => dNil (.nil : Env) c1 fun xs c2 => ∃ y, x :: xs = [y] ∧ P y c2) = P := by
  funext y c2
  apply propext
  constructor
  · rintro ⟨z, hz, r⟩; cases hz; exact r
  · intro r; exact ⟨y, rfl, r⟩
theorem pd_cntB (ho : PD X o ta) (he : PD X e tb)
    (hbase : attributeBase o "count" X.env (eval o X.env) = eval o X.env := by rfl)
    (hfew : ((backTo pos (starEach [e] X.env)).all (fun x => !x.1) && (backToKw pos (keywordEach [] X.env)).all (fun x => x.1.isSome) && decide ([e].length + ([] : List Keyword).length + (if ([] : List Keyword).isEmpty then 0 else 1) < 30)) = true := by rfl)
    (hline : (apos.endLine == pos.line) = true := by rfl) (hs : starEach [e] X.env = (false, eval e X.env) :: starEach [] X.env := by rfl) (hplain : (backTo pos (starEach [] X.env)).any (·.1) = false := by rfl) :
    PD X (.Call (.Attribute o "count" apos) [e] [] pos) (dCntB ta tb) :=
  PE.imp (pe_bm PySem.F.plainAttrs_list PySem.F.slot_list_count PySem.F.type_list_count mt_cntB ho (pds_cons he pds_nil hs) hbase hfew hline hs hplain) fun σ H Q ⟨m, ρ, c, Φ, S, h, q⟩ =>
  ⟨m, ρ, c, _, S, h, fun x c1 u H1 m1 hx C1 R1 L1 => by
    obtain ⟨bs, rfl, hx⟩ := hx
    obtain ⟨a, xs, rfl, h1, h2⟩ := R1
    cases rl_bools h2
    refine ⟨.inl ⟨rfl, _, SqL.of (hid_some h1).2⟩, m1, ρ, c1, (fun ys c2 => ∃ y, ys = [y] ∧ ∃ k, y = .bl k ∧ Φ (.int (cntB k bs)) c2), S.step L1 C1, ?_, fun ys c2 vs H2 m2 hy C2 R2 L2 => ?_⟩
    · have hx' := hx
      rw [← one_arg (P := fun y c2 => ∃ k, y = .bl k ∧ Φ (.int (cntB k bs)) c2)] at hx'
      exact hx'
    · obtain ⟨y, rfl, k, rfl, hq⟩ := hy
      obtain ⟨v, r, rfl, rv, rr⟩ := R2
      cases (show r = [] from rr)
      cases (show v = _ from rv)
      exact ⟨a, bs, k, rfl, rfl, SqL.of (hid_some (L2.ex a _ h1)).2, q _ c2 _ H2 m2 hq C2 rfl (L1.trans L2)⟩⟩
theorem pd_idxB (ho : PD X o ta) (he : PD X e tb)
    (hbase : attributeBase o "index" X.env (eval o X.env) = eval o X.env := by rfl)
    (hfew : ((backTo pos (starEach [e] X.env)).all (fun x => !x.1) && (backToKw pos (keywordEach [] X.env)).all (fun x => x.1.isSome) && decide ([e].length + ([] : List Keyword).length + (if ([] : List Keyword).isEmpty then 0 else 1) < 30)) = true := by rfl)
    (hline : (apos.endLine == pos.line) = true := by rfl) (hs : starEach [e] X.env = (false, eval e X.env) :: starEach [] X.env := by rfl) (hplain : (backTo pos (starEach [] X.env)).any (·.1) = false := by rfl) :
    PD X (.Call (.Attribute o "index" apos) [e] [] pos) (dIdxB ta tb) :=
  PE.imp (pe_bm PySem.F.plainAttrs_list PySem.F.slot_list_index PySem.F.type_list_index mt_index ho (pds_cons he pds_nil hs) hbase hfew hline hs hplain) fun σ H Q ⟨m, ρ, c, Φ, S, h, q⟩ =>
  ⟨m, ρ, c, _, S, h, fun x c1 u H1 m1 hx C1 R1 L1 => by
    obtain ⟨bs, rfl, hx⟩ := hx
    obtain ⟨a, xs, rfl, h1, h2⟩ := R1
    cases rl_bools h2
    refine ⟨.inl ⟨rfl, _, SqL.of (hid_some h1).2⟩, m1, ρ, c1, (fun ys c2 => ∃ y, ys = [y] ∧ ∃ k j, y = .bl k ∧ idxB k bs = some j ∧ Φ (.int (j : Nat)) c2), S.step L1 C1, ?_, fun ys c2 vs H2 m2 hy C2 R2 L2 => ?_⟩
    · have hx' := hx
      rw [← one_arg (P := fun y c2 => ∃ k j, y = .bl k ∧ idxB k bs = some j ∧ Φ (.int (j : Nat)) c2)] at hx'
      exact hx'
    · obtain ⟨y, rfl, k, j, rfl, hj, hq⟩ := hy
      obtain ⟨v, r, rfl, rv, rr⟩ := R2
      cases (show r = [] from rr)
      cases (show v = _ from rv)
      obtain ⟨i1, i2⟩ := idxB_at hj
      refine ⟨a, bs.map V.bl, .bl k, j, .bl k, rfl, rfl, SqL.of (hid_some (L2.ex a _ h1)).2, rfl, ?_, by rw [List.getElem?_map, i1]; rfl, by cases k <;> rfl, fun mm z' hm hz => ?_, q _ c2 _ H2 m2 hq C2 rfl (L1.trans L2)⟩
      · rw [List.all_map]; exact List.all_eq_true.mpr fun b _ => rfl
      · rw [List.getElem?_map] at hz
        obtain ⟨b, hb, rfl⟩ := Option.map_eq_some_iff.mp hz
        have := i2 mm b hm hb
        cases b <;> cases k <;> first | exact absurd rfl this | rfl⟩
end
end Cw

/-! # try .. except (A, B, C) as n; a lambda that is handed to a def which calls it so -/
namespace Cw
open PySem PySem.Spec PyProof.Rows L2

/-! ### the catch of three classes -/
abbrev TSP := Addr × Obj → Value → Option Addr → TS
def wAs3 (K : PySem.W.Frag) (nN : Nat) (c1 c2 c3 : Value) (i : Nat) (ts : TSP) (De : Ends) : WX := fun cls d σ H => σ.length = nN → PySem.W.exmAny K cls [c1, c2, c3] = some true ∧
  ∀ p : Addr × Obj, H p.1 = none → Zc cls d p.2 → (∃ vs, p.2.data = .fields vs) → ts p cls d { nx := fun σ' H' => De.nx (σ'.set i none) H', rt := De.rt, bk := fun σ' H' => De.bk (σ'.set i none) H', ct := fun σ' H' => De.ct (σ'.set i none) H' } (σ.set i (some (.ref p.1))) H
theorem flying_push {B h : Heap} {l : List PySem.Env} {a : Addr} {Z : Obj → Prop} {o : Obj} (f : HandSPX.FlyingZ B l a Z h) : HandSPX.FlyingZ B l a Z (h.push o) := by
  obtain ⟨z1, z2, z3, oe, vs, T, oT, ts, y1, y2, y3, y4, y5, y6, y7, y8, y9⟩ := f
  exact ⟨fun b u e => Heap.get?_push_of_some _ (z1 b u e), z2, z3.of_keeps fun b u e _ => ⟨u, Heap.get?_push_of_some _ e, rfl⟩, oe, vs, T, oT, ts, Heap.get?_push_of_some _ y1, y2, y3, y4, y5, y6, Heap.get?_push_of_some _ y7, y8, y9⟩
theorem slots_push {h : Heap} {o : Obj} : h.UpToSlots (h.push o) := fun b u e _ => ⟨u.slots, Heap.get?_push_of_some _ e⟩
section
variable {X : Cx} {i : Nat} {n x1 x2 x3 : Str} {c1 c2 c3 : Value} {body suite : List Stmt} {b0 : Stmt} {tb : WX → TS} {ts : TSP} {q1 q2 q3 tp pos pos' : Pos} {kt : Nat}
theorem ps_try_as3 (hst : X.stack = X.env :: X.outer) (hfr : X.env.frame = some X.env.locals) (hN : X.N.Nodup) (hi : X.N[i]? = some n) (hln : X.env.kindOf n = some .local)
    (g1 : Gl X x1) (m1 : X.mg x1 = some c1) (d1 : (x1 == ("__debug__" : Str)) = false) (g2 : Gl X x2) (m2 : X.mg x2 = some c2) (d2 : (x2 == ("__debug__" : Str)) = false) (g3 : Gl X x3) (m3 : X.mg x3 = some c3) (d3 : (x3 == ("__debug__" : Str)) = false)
    (hb : ∀ (W : WX) (pn : List (Addr × Obj)) (xe : Value → Shared → Prop), Takes (X.tr pn xe) W → PassesOwn (model X.prog X.w) X.A X.env xe → PSs (X.tr pn xe) body (tb W))
    (hsu : ∀ (p : Addr × Obj) (cls : Value) (d : Option Addr) (pn : List (Addr × Obj)), Zc cls d p.2 → (∃ vs, p.2.data = .fields vs) → PSs (X.suite p.1 (p :: pn)) (b0 :: suite) (ts p cls d)) :
    PS X (.Try body [.ExceptHandler (some (.Tuple [.Name x1 q1, .Name x2 q2, .Name x3 q3] kt tp)) (some n) (b0 :: suite) pos'] [] [] pos) (fun De σ H => tb (wAs3 X.K X.N.length c1 c2 c3 i ts De) De σ H) := by
  refine ⟨fun pins s σ H De I hT => wpAny_Try_except ?_⟩
  have okX := I.ok
  have frames : X.A.frames = some (X.env :: X.outer) := by rw [okX.frames, hst]
  refine wpAny_mono ((hb (wAs3 X.K X.N.length c1 c2 c3 i ts De) (X.pn ++ pins) (fun e sa => wpAny (model X.prog X.w) X.A (noteFrame e X.env) (fun _ sb => wpAny (model X.prog X.w) X.A (setFlight e none) (fun _ sc =>
    wpAny (model X.prog X.w) X.A (handleBy e X.env [.ExceptHandler (some (.Tuple [.Name x1 q1, .Name x2 q2, .Name x3 q3] kt tp)) (some n) (b0 :: suite) pos']) (SP X pins De) X.xe sc) X.xe sb) X.xe sa) (fun u sx air => ?_) PassesOwn.looking).run [] s σ H De (I.toTry _) hT) (fun fl sy end_ => ?_) (fun e sy bad => bad)
  · obtain ⟨a, B, sI, pinsI, σI, HI, cls, d, rfl, Jt, nb, up, sky, na, os, ag, wish⟩ := air
    have J : Inv X pins σI HI sI := Jt.ofTry okX
    obtain ⟨mat, yes⟩ := wish J.len
    have skyX : Sky B (X.env :: X.outer) a (Zc cls d) X.env.locals sx.heap := by rw [← hst]; exact sky
    show wpAny (model X.prog X.w) X.A (noteFrame (.ref a) X.env) _ _ _
    refine Sky.land Zc.steady frames hfr skyX fun hA flA upA => ?_
    obtain ⟨oA, vA, gA, zA, dA⟩ := flA.there
    have notframe : a ∉ frs (X.env :: X.outer) := fun hm => by
      obtain ⟨_, o', e', hnf⟩ := flA.2.2.1.mem hm
      rw [gA] at e'; cases e'
      exact hnf _ dA
    have nL : a ≠ X.env.locals := fun z => notframe (List.mem_filterMap.mpr ⟨X.env, List.mem_cons_self, by rw [hfr, z]⟩)
    have nF : a ∉ X.fs := fun hm => by
      obtain ⟨e, he, q⟩ := List.mem_filterMap.mp hm
      exact notframe (List.mem_filterMap.mpr ⟨e, List.mem_cons_of_mem _ he, q⟩)
    have JA : Inv X pins σI HI { sx with heap := hA } := J.landed nb flA.1 (up.trans upA) os ag
    have SA := JA.suite gA dA na nL nF
    refine wpAny_handleBy_cons (codeAny_handlers_test ?_) (by intro q; cases q)
    have ld : ∀ {x : Str} {c : Value} {q : Pos} {Q E : _}, Gl X x → X.mg x = some c → (x == ("__debug__" : Str)) = false → Q c { sx with heap := hA } → wpAny (model X.prog X.w) (X.A.mark (some (.ref a))) (eval (.Name x q) X.env) Q E { sx with heap := hA } :=
      fun {x c q Q E} g m dbg h => ld_glob (X := X.suite a ((a, oA) :: (X.pn ++ pins))) SA g m h dbg
    refine wpAny_Tuple_spliced (Calls.spliced_cons (ld g1 m1 d1 (Calls.spliced_cons (ld g2 m2 d2 (Calls.spliced_cons (ld g3 m3 d3 (Calls.spliced_nil ⟨by show 3 ≤ sizeLine; decide, ?_⟩)))))))
    generalize hB : hA.push { cls := .type "tuple", data := .seq [c1, c2, c3].toArray } = hBv
    have flB : HandSPX.FlyingZ B (X.env :: X.outer) a (Zc cls d) hBv := by rw [← hB]; exact flying_push flA
    have upB : hA.UpToSlots hBv := by rw [← hB]; exact slots_push
    have gB : hBv.get? a = some oA := by rw [← hB]; exact Heap.get?_push_of_some _ gA
    have kB : X.K.In hBv := by rw [← hB]; exact JA.kIn.keeps fun b o e => Heap.get?_push_of_some _ e
    have LT : PySem.W.Looks (model X.prog X.w) hBv (typeOf (.ref a)) cls := fun A Q E s k q => wpAny_typeOf_ref (k _ _ gB) (by rw [zA.1]; exact q)
    have tupB : hBv.get? hA.objs.size = some { cls := .type "tuple", data := .seq [c1, c2, c3].toArray } := by rw [← hB]; exact Heap.get?_push_size _ rfl
    refine (PySem.W.exm_tup3 (M := model X.prog X.w) kB LT tupB mat).here ?_
    refine codeAny_handlers_suite_as ?_
    refine HandSPX.lands_againZ flB fun hC flC upC => ?_
    obtain ⟨oC, vC, gC, zC, dC⟩ := flC.there
    have JC : Inv X pins σI HI { sx with heap := hC } := J.landed nb flC.1 (((up.trans upA).trans upB).trans upC) os ag
    have SC := JC.suite gC dC na nL nF
    refine store_ok (X := X.suite a ((a, oC) :: (X.pn ++ pins))) (v := .ref a) SC hN hi (.inl hln) rfl (fun s5 S5 => ?_) (.inr hln)
    refine wpAny_mono ((hsu (a, oC) cls d (X.pn ++ pins) zC ⟨_, dC⟩).run [] s5 _ HI _ S5 (yes (a, oC) na zC ⟨_, dC⟩)) (fun fl s6 end6 => ?_) (fun _ _ z => False.elim z)
    have off : ∀ {σ6 : L2.St} {H6 : Hp} {Q : Shared → Prop}, Inv (X.suite a ((a, oC) :: (X.pn ++ pins))) [] σ6 H6 s6 → (∀ s7, Inv X pins (σ6.set i none) H6 s7 → Q s7) →
        wpAny (model X.prog X.w) X.A (do bindName X.env n .none; unbindBehindTheSuite X.env n pos') (fun _ s7 => Q s7) X.xe s6 := fun {σ6 H6 Q} S6 hq => gone_ok (S6.unsuite okX) hN hi hln hq
    cases fl with
    | next => obtain ⟨σ6, H6, S6, q6⟩ := end6; exact off S6 fun s7 J7 => ⟨_, _, J7, q6⟩
    | brk => obtain ⟨σ6, H6, S6, q6⟩ := end6; exact off S6 fun s7 J7 => ⟨_, _, J7, q6⟩
    | cont => obtain ⟨σ6, H6, S6, q6⟩ := end6; exact off S6 fun s7 J7 => ⟨_, _, J7, q6⟩
    | ret u => obtain ⟨v6, σ6, H6, S6, r6, q6⟩ := end6; exact off S6 fun s7 J7 => ⟨_, _, _, J7, r6, q6⟩
  · cases fl with
    | next => obtain ⟨σ', H', J', q⟩ := end_; exact wpAny_execs_nil ⟨σ', H', J'.ofTry okX, q⟩
    | brk => obtain ⟨σ', H', J', q⟩ := end_; exact ⟨σ', H', J'.ofTry okX, q⟩
    | cont => obtain ⟨σ', H', J', q⟩ := end_; exact ⟨σ', H', J'.ofTry okX, q⟩
    | ret u => obtain ⟨v, σ', H', J', r, q⟩ := end_; exact ⟨v, σ', H', J'.ofTry okX, r, q⟩
end
end Cw

/-! # x(lambda: e), x the def that tells what a call raises or returns -/
namespace Cw
open PySem PySem.Spec PyProof.Rows L2

/-- the table is as it was, or has one code object more, which is new -/
def Grown (H H1 : Hp) (P c' : Addr) (q : Str) : Prop := H1 = H ∨ ∃ ps more, H P = some (.tbl ps) ∧ H c' = none ∧ H1 = upd (upd H P (.tbl (ps ++ more))) c' (LamX.CodeO c' q) ∧ TriplesOk (ps ++ more).toList ∧ ∀ (pos : Pos) (cv : Value), codeAmong pos (ps ++ more).toList = some cv → codeAmong pos ps.toList = some cv ∨ cv = .ref c'
section
variable {X : Cx} {pins : List (Addr × Obj)} {σ : L2.St} {H : Hp} {s : Shared}
theorem lam_makeP {c P : Addr} {params : Arguments} {body : Expr} {scope : Scope} {pos : Pos} {E Q : Value → Shared → Prop} (I : Inv X pins σ H s) (TB : LamX.TabB X.base X.mg c P) (hcode : X.env.code = .ref c)
    (tab : LamX.TabS H P (X.env.qual ++ "<lambda>")) (hdef : defaultsOf params X.env = ([], [])) (hfree : ∀ y ∈ scope.names, y.2 = .free → ∃ c, X.env.cells.lookup y.1 = some c)
    (h : ∀ (f c' : Addr) (pm ctv : Value) (H1 : Hp) (s' : Shared), Inv X pins σ H1 s' → Grown H H1 P c' (X.env.qual ++ "<lambda>") → LamX.TabS H1 P (X.env.qual ++ "<lambda>") →
      s'.heap.get? f = some (PySem.W.kla_obj "<lambda>" (X.env.qual ++ "<lambda>") params body scope (cloFrom X.env.cells scope.names []) pm c' ctv) → H1 f = none → f ∉ frs X.stack → H1 c' = some (LamX.CodeO c' (X.env.qual ++ "<lambda>")) → Q (.ref f) s') :
    wpAny (model X.prog X.w) X.A (eval (.Lambda params body scope pos) X.env) Q E s := by
  obtain ⟨ps, tP, tri, ent⟩ := tab
  have blt := TB.bm.keeps I.bk
  have getP : s.heap.get? P = some { cls := .none, data := .fields ps } := I.hok P _ tP
  have outside : ∀ f, s.heap.objs.size ≤ f → f ∉ frs X.stack := fun f hf z => (List.mem_cons.mp (I.stkSub _ z)).elim (fun e => by
    have lt := I.lt
    rw [← e] at lt
    exact absurd (Nat.lt_of_lt_of_le lt hf) (Nat.lt_irrefl _)) fun e => I.nofs hf e
  refine PySem.W.kla_eval hdef ?_
  cases hit : codeAmong pos ps.toList with
  | some cv =>
    obtain ⟨c', ec, hco⟩ := ent pos cv hit
    subst ec
    exact PySem.W.kla_makeFunctionHit (mg := X.mg) (c := c) (P := P) (ps := ps) (closure_ok hfree) I.ok.glob (I.mod.glob.keeps I.bk) hcode (TB.code.keeps I.bk) getP tri hit blt fun ctv h' tk hx hsz =>
      h h'.objs.size c' ((X.mg "__name__").getD .none) ctv H _ (I.kept fun b o e => Heap.get?_push_of_some _ (hx b o e)) (.inl rfl) ⟨ps, tP, tri, ent⟩ (Heap.get?_push_size _ rfl) (I.hok.fresh hsz) (outside _ hsz) hco
  | none =>
    refine PySem.W.kla_makeFunction (mg := X.mg) (c := c) (P := P) (ps := ps) (closure_ok hfree) I.ok.glob (I.mod.glob.keeps I.bk) hcode (TB.code.keeps I.bk) getP tri hit TB.gP blt fun c' ctv h' tk hx hge hlt hrec htb => ?_
    obtain ⟨c2, oc, vs, t, e2, hoc, hd, hv⟩ := hrec
    cases e2
    have big : s.heap.objs.size ≤ h'.objs.size := Nat.le_trans hge (Nat.le_of_lt hlt)
    have fresh : H c' = none := I.hok.fresh hge
    have J := LamX.inv_table (t' := tk) (more := #[rawInt pos.line, rawInt pos.col, .ref c']) (h' := h'.push (PySem.W.kla_obj "<lambda>" (X.env.qual ++ "<lambda>") params body scope (cloFrom X.env.cells scope.names []) ((X.mg "__name__").getD .none) c' ctv)) I tP
      (fun b o hb e => Heap.get?_push_of_some _ (hx b o hb e)) (Heap.get?_push_of_some _ htb) hge ⟨oc, vs, t, Heap.get?_push_of_some _ hoc, hd, hv⟩
    have toL : (ps ++ #[rawInt pos.line, rawInt pos.col, .ref c']).toList = ps.toList ++ [rawInt pos.line, rawInt pos.col, .ref c'] := by simp
    refine h h'.objs.size c' ((X.mg "__name__").getD .none) ctv _ _ J (.inr ⟨ps, _, tP, fresh, rfl, by rw [toL]; exact PySem.TriplesOk_snoc _ _ _ _ tri, fun p' cv hcv => by rw [toL] at hcv; exact LamX.among_app _ tri hcv⟩) ⟨_, by rw [upd_ne (ne_of_none tP fresh), upd_same], by rw [toL]; exact PySem.TriplesOk_snoc _ _ _ _ tri, fun p' cv hcv => ?_⟩ (Heap.get?_push_size _ rfl) ?_ (outside _ big) upd_same
    · rw [toL] at hcv
      rcases LamX.among_app _ tri hcv with z | z
      · obtain ⟨c0, e1, e3⟩ := ent p' cv z
        refine ⟨c0, e1, ?_⟩
        rw [upd_ne (ne_of_none e3 fresh), upd_ne (fun z => by rw [z, tP] at e3; exact LamX.codeO_ne ps (Option.some.inj e3).symm)]
        exact e3
      · exact ⟨c', z, upd_same⟩
    · have n1 : h'.objs.size ≠ c' := Nat.ne_of_gt hlt
      have n2 : h'.objs.size ≠ P := Nat.ne_of_gt (Nat.lt_of_lt_of_le (Heap.lt_size getP) big)
      rw [upd_ne n1, upd_ne n2]
      exact I.hok.fresh big
end
section
variable {K : PySem.W.Frag} {m : Ad} {H H1 : Hp} {σ : L2.St} {ρ : Env} {c : List Cell} {P c' : Addr}
theorem TabK.tabS {q : Str} (t : TabK m H P q) : LamX.TabS H P q := by
  obtain ⟨ps, h1, h2, h3⟩ := t
  exact ⟨ps, h1, h2, fun pos cv hc => let ⟨c, e1, e2⟩ := h3 pos cv hc; ⟨c, e1, (hid_some e2).2⟩⟩
theorem grown_le (C : CR K H m c) (hP : P ∈ m.hd) (t : TabK m H P lamQ) (g : Grown H H1 P c' lamQ) : CR K H1 m c ∧ Le m H m H1 := by
  rcases g with rfl | ⟨ps, more, hp, hn, rfl, htri, hent⟩
  · exact ⟨C, Le.refl _ _⟩
  · have hc := hid_new hn C
    have nPc : P ≠ c' := ne_of_none hp hn
    have at_ : ∀ b, b ≠ P → b ≠ c' → upd (upd H P (.tbl (ps ++ more))) c' (LamX.CodeO c' lamQ) b = H b := fun b h1 h2 => by rw [upd_ne h2, upd_ne h1]
    have ex : Ex (hid m H) (hid m (upd (upd H P (.tbl (ps ++ more))) c' (LamX.CodeO c' lamQ))) := fun b o e => by
      obtain ⟨h1, h2⟩ := hid_some e
      rw [hid_of h1, at_ b (fun z => h1.2 (z ▸ hP)) (ne_of_none h2 hn)]
      exact h2
    have tk : TabK m (upd (upd H P (.tbl (ps ++ more))) c' (LamX.CodeO c' lamQ)) P lamQ := by
      obtain ⟨qs, e1, e2, e3⟩ := t
      rw [hp] at e1
      cases e1
      refine ⟨ps ++ more, by rw [upd_ne nPc, upd_same], htri, fun pos cv hcv => ?_⟩
      rcases hent pos cv hcv with z | z
      · obtain ⟨d, y1, y2⟩ := e3 pos cv z
        exact ⟨d, y1, ex d _ y2⟩
      · exact ⟨c', z, by rw [hid_of hc]; exact upd_same⟩
    have l : Le m H m (upd (upd H P (.tbl (ps ++ more))) c' (LamX.CodeO c' lamQ)) := by
      refine ⟨fun _ _ e => e, ex, rfl, fun b hb => ?_, fun _ h => .inl h, fun a e => ?_⟩
      · by_cases hbP : b = P
        · subst hbP
          exact .inr ⟨⟨ps, ps ++ more, hp, by rw [upd_ne nPc, upd_same]⟩, fun q _ => by rw [q.2]; exact tk⟩
        · exact .inl (at_ b hbP fun z => hc.2 (z ▸ hb))
      · exact upd_none (upd_none e)
    refine ⟨⟨C.len, C.nd, fun k ce e => ?_, fun b hb => l.hs hb (C.hs b hb), C.dj, C.tk' l⟩, l⟩
    obtain ⟨a, h1, h2⟩ := C.at_ k ce e
    have ha : a ∈ m.ix := List.mem_of_getElem? h1
    exact ⟨a, h1, h2.step l fun o e' => by rw [at_ a (fun z => C.dj a ha (z ▸ hP)) (fun z => hc.1 (z ▸ ha))]; exact e'⟩
end

/-! ### the def that tells -/
def dLam (tell : XD → Option D) (tx : TDX) : TD := fun ρ c Φ => tx ρ c (fun d c1 => Φ (.tup [.str "told", .tup [d]]) c1) fun y c1 => ∃ r, tell y = some r ∧ okDs 0 y.ds = true ∧ Φ r c1
theorem pd_lam {X : Cx} {x a nf ne nw x1 x2 x3 : Str} {c1 c2 c3 : Value} {g cL P : Addr} {fdg : FuncData} {st b0 : Stmt} {suite : List Stmt} {k : Nat} {params : Arguments} {body : Expr} {scope : Scope} {tell : XD → Option D} {tx : TDX} {tsu : Addr × Obj → TSD}
    {p1 p2 p3 p4 p5 p6 p7 p8 p9 p10 p11 q1 q2 q3 tp px lpos pos : Pos} {kt k1 k2 jk : Nat}
    (F : Fun X.K x x st g fdg) (Sg : FnScope [a, nf, ne, nw] [a] (defScope st))
    (hst : defBody st = [.Try [.Assign [.Name nf p1] (.Call (.Name a p2) [] [] p3) p4] [.ExceptHandler (some (.Tuple [.Name x1 q1, .Name x2 q2, .Name x3 q3] kt tp)) (some ne) (b0 :: suite) p5] [] [] p6, .Return (some (.Tuple [.Constant (.str "told") jk p7, .Tuple [.Name nf p8] k2 p9] k1 p10)) p11])
    (hm : X.mg x = some (.ref g)) (hb : L2.Binds X.K fdg [a] []) (m1 : X.mg x1 = some c1) (m2 : X.mg x2 = some c2) (m3 : X.mg x3 = some c3)
    (TB : LamX.TabB X.base X.mg cL P) (hcode : X.env.code = .ref cL) (hT : (P, (⟨lamQ, rfl⟩ : LQ)) ∈ tabsK X.K) (hr : Room (k + 3) X.A)
    (hexm : ∀ y r, tell y = some r → PySem.W.exmAny X.K (.ref y.C) [c1, c2, c3] = some true)
    (hsu : ∀ (cdv : Value) (A : Around) (outer : List PySem.Env) (s : Shared) (H : Hp) (p : Addr × Obj) (pn : List (Addr × Obj)), L2H.RoomH (k + 2) ((cxOf CX0 X.prog X.w X.K X.mg X.base [a, nf, ne, nw] x (defScope st) g cdv A outer s H E0).suite p.1 (p :: pn)).A →
      PSDs ((cxOf CX0 X.prog X.w X.K X.mg X.base [a, nf, ne, nw] x (defScope st) g cdv A outer s H E0).suite p.1 (p :: pn)) (b0 :: suite) (tsu p))
    (hts : ∀ (p : Addr × Obj) (dd : Addr) (y : XD) (r : D) (c : List Cell) (Ψ : D → List Cell → Prop), HeldO p dd y.C → tell y = some r → okDs 0 y.ds = true → Ψ r c → tsu p ⟨fun _ _ => False, Ψ, fun _ _ => False, fun _ _ => False⟩ [none, none, some (.exc p.1 dd y.C y.ns y.ds), none] c)
    (hbody : ∀ (A : Around) (outer : List PySem.Env) (s : Shared) (H : Hp) (E : XK) (f c' : Addr), Room (k + 1) (A.deeper (LamX.lamEnv X scope s.heap.objs.size f c')) → PDX (LamX.lamCx X A outer s H E scope f c') E body tx)
    (L : LamX.LamS X.env.scope scope) (hq : X.env.qual ++ "<lambda>" = lamQ := by rfl) (hdef : defaultsOf params X.env = ([], []) := by rfl)
    (hbind : ∀ (q : Str) (cl : List (Str × Addr)) (pm cv ctv : Value), bindArgs (PySem.W.kla_fn "<lambda>" q params body scope cl pm cv ctv) ⟨[], []⟩ = pure [] := by intros; rfl)
    (hg : Gl X x := by rfl) (g1 : (defScope st).names.lookup x1 = some .globalImplicit := by rfl) (g2 : (defScope st).names.lookup x2 = some .globalImplicit := by rfl) (g3 : (defScope st).names.lookup x3 = some .globalImplicit := by rfl)
    (va : (defScope st).names.lookup a = some .local := by rfl) (vf : (defScope st).names.lookup nf = some .local := by rfl) (ve : (defScope st).names.lookup ne = some .local := by rfl)
    (hdb : (x == ("__debug__" : Str)) = false := by decide) (da : (a == ("__debug__" : Str)) = false := by decide) (ca : (a == ("__classdict__" : Str)) = false := by decide) (df : (nf == ("__debug__" : Str)) = false := by decide) (cf : (nf == ("__classdict__" : Str)) = false := by decide)
    (d1 : (x1 == ("__debug__" : Str)) = false := by decide) (d2 : (x2 == ("__debug__" : Str)) = false := by decide) (d3 : (x3 == ("__debug__" : Str)) = false := by decide) :
    PD X (.Call (.Name x px) [.Lambda params body scope lpos] [] pos) (dLam tell tx) := by
  obtain ⟨oc, od, kV, doc, pm, an, cdv, ct, osl, rfl, lk, hcd⟩ := F.ex
  refine ⟨fun pins s σ H Q I ⟨m, ρ, c, Φ, S, h, q⟩ => ?_⟩
  obtain ⟨hP, tk⟩ := S.cr.tk _ hT
  refine wpAny_Call_Name_kw (ld_glob I hg hm ?_ hdb)
  refine PySem.W.callWith_K (h₀ := X.base) I.ok.mod.kin F.kp ?_ (by rfl) (by rfl)
  show wpAny _ _ (spliced ((false, eval (.Lambda params body scope lpos) X.env) :: backTo pos (starEach [] X.env))) _ _ s
  refine Calls.spliced_cons (lam_makeP I TB hcode (by rw [hq]; exact tk.tabS) hdef (L.has I.ok) fun f c' pm' ctv H1 s' I1 gr t1 hf hfn hfr hco => ?_)
  rw [hq] at gr t1
  obtain ⟨C1, L01⟩ := grown_le S.cr hP tk gr
  have S1 := S.step L01 C1
  refine Calls.spliced_nil ⟨I1.kIn, ?_⟩
  have rc : codeAny (model X.prog X.w) X.A (.call (.ref g) ⟨[.ref f], []⟩) (L2.CR C8.CX0 X.stack X.prog X.w H1 s' Q E0) s' := by
    refine LamX.run_ofS (N := [a, nf, ne, nw]) (ps := [a]) (us := [.ref f]) (vs := [.ref f]) lk hcd Sg (hr.mono (by omega) : Room ((k + 2) + 1) X.A) I1.env0 (hb s' [.ref f] I1.kIn rfl) (.cons rfl .nil) rfl fun hr' => ?_
    rw [hst]
    let Z : Cx := cxOf C8.CX0 X.prog X.w X.K X.mg X.base [a, nf, ne, nw] x (defScope st) g cdv X.A X.stack s' H1 E0
    have hsuite : ∀ (p : Addr × Obj) (cls : Value) (d : Option Addr) (pn : List (Addr × Obj)), Zc cls d p.2 → (∃ vs, p.2.data = .fields vs) → PSs (Z.suite p.1 (p :: pn)) (b0 :: suite) (liftS X.K (tsu p)) := fun p cls d pn _ _ =>
      hsu cdv X.A X.stack s' H1 p pn ⟨hr'.dp, hr'.un⟩
    have htry : ∀ (W : WX) (pn : List (Addr × Obj)) (xe : Value → Shared → Prop), Takes (Z.tr pn xe) W → PassesOwn (model Z.prog Z.w) Z.A Z.env xe → PSs (Z.tr pn xe) [.Assign [.Name nf p1] (.Call (.Name a p2) [] [] p3) p4]
        (fun De σZ HZ => ∃ Ech : XK, (∀ cls d σ' H', Ech cls d H' → W cls d σ' H') ∧ σZ[0]? = some (some (.ref f)) ∧ HZ c' = some (LamX.CodeO c' (X.env.qual ++ "<lambda>")) ∧ liftX X.K Ech tx σ HZ (fun v H' => De.nx (σZ.set 1 (some v)) H')) := fun W pn xe tk2 _ => by
      refine ⟨fun pins2 s2 σ2 H2 De I2 ⟨Ech, hW, z1, z2, z3⟩ => ?_⟩
      have act : PE (Z.tr pn xe) (.Call (.Name a p2) [] [] p3) (fun σZ HZ Q => σZ[0]? = some (some (.ref f)) ∧ HZ c' = some (LamX.CodeO c' (X.env.qual ++ "<lambda>")) ∧ liftX X.K Ech tx σ HZ Q) :=
        LamX.pe_act (k := k + 1) (i := 0) (tb := liftX X.K Ech tx) I1 L hf hfn hfr (hbind _ _ _ _ _) tk2 hW hr' (fun A outer s H hr2 => hbody A outer s H Ech f c' hr2) rfl (.inl va) da ca
      have asg : PS (Z.tr pn xe) (.Assign [.Name nf p1] (.Call (.Name a p2) [] [] p3) p4) _ := ps_set (i := 1) Sg.nd rfl (.inl vf) act
      exact (pss_one asg).run pins2 s2 σ2 H2 De I2 ⟨z1, z2, z3⟩
    have ret : PS Z (.Return (some (.Tuple [.Constant (.str "told") jk p7, .Tuple [.Name nf p8] k2 p9] k1 p10)) p11) _ := ps_ret (pe_tup (pa_cons pe_str (pa_cons (pe_tup (pa_cons (pe_var (i := 1) (x := nf) rfl (.inl vf) df cf) pa_nil)) pa_nil)))
    have tr := ps_try_as3 (X := Z) (i := 2) (n := ne) (c1 := c1) (c2 := c2) (c3 := c3) (q1 := q1) (q2 := q2) (q3 := q3) (tp := tp) (kt := kt) (pos := p6) (pos' := p5) rfl rfl Sg.nd rfl ve g1 m1 d1 g2 m2 d2 g3 m3 d3 htry hsuite
    refine ⟨_, pss_cons tr (pss_one ret), ?_⟩
    refine ⟨fun cls d H' => ∃ y c2 m', (∃ r, tell y = some r ∧ okDs 0 y.ds = true ∧ Φ r c2) ∧ CR X.K H' m' c2 ∧ IsX X.K H' m' y cls d ∧ Le m H1 m' H', ?_, rfl, hco, m, ρ, c, _, _, S1, h, ?_, ?_⟩
    · rintro cls d σ' H' ⟨y, c2, m', ⟨r, hr2, ok, hΦ⟩, C', ⟨rfl, dd, fs, rfl, y1, y2, y3⟩, l⟩ hlen
      refine ⟨hexm y r hr2, fun p hp hz hfl => ?_⟩
      refine ⟨m', [none, none, some (.exc p.1 dd y.C y.ns y.ds), none], c2, ⟨fun _ _ => False, Φ, fun _ _ => False, fun _ _ => False⟩, ⟨C', ?_, fun i d e => ?_⟩, hts p dd y r c2 Φ ⟨hz.1, hz.2, hfl⟩ hr2 ok hΦ, fun _ _ _ _ _ z => z.elim, ?_, fun _ _ _ _ _ z => z.elim, fun _ _ _ _ _ z => z.elim⟩
      · rw [List.length_set, hlen]; rfl
      · have hl4 : σ'.length = 4 := hlen
        have hi : i = 2 := by
          match i, e with
          | 2, _ => rfl
          | n + 3, e => match n, e with
            | n + 1, e => simp at e
        subst hi
        · cases e
          exact ⟨.ref p.1, by rw [List.getElem?_set_self (by omega)], fs, rfl, y1, y2, y3⟩
      · exact fun d c3 w H3 m3 hd C3 R3 l3 => q d c3 w H3 m3 hd C3 R3 (L01.trans (l.trans l3))
    · intro d c2 v H2 m2 hd C2 R2 l2
      refine ⟨v, rfl, by show 1 ≤ sizeLine; decide, fun p hp => ⟨by show 2 ≤ sizeLine; decide, fun p' hp' => ?_⟩⟩
      have r1 : RRL X.K H2 m2 [d] [v] := ⟨v, [], rfl, R2, rfl⟩
      have R3 := RR.newT (X := X) C2 hp r1
      have C3 := C2.new (o := .tup [v]) hp
      have l3 := Le.new (o := .tup [v]) hp C2
      have r2 : RRL X.K (upd H2 p (.tup [v])) m2 [.str "told", .tup [d]] [.str "told", .ref p] := ⟨_, _, rfl, rfl, _, [], rfl, R3, rfl⟩
      exact q _ c2 _ _ m2 hd (C3.new hp') (RR.newT (X := X) C3 hp' r2) (L01.trans (l2.trans (l3.trans (Le.new hp' C3))))
    · intro y c2 cls d H2 m2 hy C2 R2 l2
      exact ⟨y, c2, m2, hy, C2, R2, l2⟩
  refine wpAny_call (codeAny_mono rc fun r s2 hq => ?_)
  cases r with
  | error e => exact (show False from hq).elim
  | ok fl =>
    cases fl with
    | ret u => exact I1.after hq
    | next => exact False.elim hq
    | brk => exact False.elim hq
    | cont => exact False.elim hq
end Cw

/-! # The law's own entry with one table of code objects; a def whose code object is known -/
namespace Cw
open PySem PySem.Spec PyProof.Rows L2

structure FunC (K : PySem.W.Frag) (x qual : Str) (st : Stmt) (f : Addr) (fd : FuncData) (cd : Value) : Prop where
  ex : ∃ (oc : Value) (od : Option Addr) (dV kV doc pm : Value) (an : Option Addr) (ct : Value) (osl : Array (Option Value)),
    fd = PySem.W.fnOf x qual (defArgs st) (defBody st) (defScope st) dV kV doc pm an cd ct ∧ K.lookup f = some ⟨oc, od, .func fd, osl⟩ ∧ PySem.W.codeIn K cd qual = true
section
variable {P : Program} {w : World} {K : PySem.W.Frag} {mg : Str → Option Value} {base : Heap}
theorem fnGC {x qual : Str} {st : Stmt} {f : Addr} {fd : FuncData} {cd : Value} {N ps : List Str} {k : Nat} {sp : Sp} (F : FunC K x qual st f fd cd) (Sc : FnScope N ps (defScope st)) (ln : ∀ vs H Q E, sp vs H Q E → vs.length = ps.length)
    (hbody : ∀ (A : Around) (outer : List PySem.Env) (s : Shared) (H : Hp) (vs : List V) (Q : VK) (E : XK), A.guards = some [] → Room k (A.deeper (envOfC qual (defScope st) s.heap.objs.size f cd)) → sp vs H Q E →
      ∃ t, PSs (cxOf CX0 P w K mg base N qual (defScope st) f cd A outer s H E).nox (defBody st) t ∧ t { nx := fun _ H' => Q .non H', rt := Q } (L2.start N vs) H) : FnG P w K mg base (k + 1) f fd ps sp := by
  obtain ⟨oc, od, dV, kV, doc, pm, an, ct, osl, rfl, lk, hcd⟩ := F.ex
  refine ⟨ln, fun A outer s H args us vs Q E hgu hr e0 hb r hsp => ?_⟩
  have inK : K.In s.heap := e0.mod.kin.keeps fun b o e => (e0.bs b o e).1
  have nl : s.heap.NoLimit := e0.mod.nolimit.keeps fun b o e => (e0.bs b o e).1
  obtain ⟨t, ht', hq⟩ := hbody A outer s H vs Q E hgu (hr.deeper _) hsp
  have ht := ht'.nox
  have kinds : ∀ y ∈ ps.zip us, (defScope st).names.lookup y.1 = some .local ∨ ((defScope st).names.lookup y.1 = some .cell ∧ ((cellsFrom (s.heap.objs.size + 1) (defScope st).names []).lookup y.1).isSome = true) := fun ⟨n, v⟩ hy => (Sc.par n (List.of_mem_zip hy).1).imp id fun q => ⟨q, PySem.W.cellsFrom_some _ _ _ (.inl q)⟩
  refine codeAny_call_function hr.depth (inK _ _ lk) rfl Sc.co Sc.gen rfl (PySem.W.codeRec_of inK hcd) (hb _ _ _ _ (wpAny_newFunctionEnv_cells Sc.kind kinds fun env he s1 x => ?_))
  subst he
  refine ⟨nl.keeps x.toInCall.keep, codeAny_func ?_⟩
  have I : Inv (cxOf CX0 P w K mg base N qual (defScope st) f cd A outer s H E) [] (L2.start N vs) H s1 := inv_start Sc hr.hd e0 (ln _ _ _ _ hsp) r x
  refine wpAny_mono (ht.run [] s1 (L2.start N vs) H _ I hq) (fun fl s' hs => ?_) fun e s' hs => hs
  cases fl with
  | ret u =>
    obtain ⟨v, σ', H', J, rv, q⟩ := hs
    exact ⟨v, H', J.os, J.bare, J.base, J.hok, rv, q⟩
  | next =>
    obtain ⟨σ', H', J, q⟩ := hs
    exact ⟨V.non, H', J.os, J.bare, J.base, J.hok, rfl, q⟩
  | brk => exact hs.elim fun _ z => z.elim fun _ z => z.2.elim
  | cont => exact hs.elim fun _ z => z.elim fun _ z => z.2.elim
theorem fnGCD {x qual : Str} {st : Stmt} {f : Addr} {fd : FuncData} {cd : Value} {N ps : List Str} {k n0 : Nat} {S : Pm} (F : FunC K x qual st f fd cd) (Sc : FnScope N ps (defScope st))
    (hbody : ∀ (A : Around) (outer : List PySem.Env) (s : Shared) (H : Hp) (E : XK), A.guards = some [] → Room k (A.deeper (envOfC qual (defScope st) s.heap.objs.size f cd)) →
      ∃ ts, PSDs (cxOf CX0 P w K mg base N qual (defScope st) f cd A outer s H E).nox (defBody st) ts ∧
        ∀ c ds Φ, c.length = n0 → ds.length = ps.length → S c ds Φ → ts ⟨fun _ c' => retD n0 Φ .non c', retD n0 Φ, fun _ _ => False, fun _ _ => False⟩ (startD N ds) c) :
    FnG P w K mg base (k + 1) f fd ps (spD K n0 ps.length S) := by
  refine fnGC F Sc (fun vs H Q E ⟨m, c, ds, Φ, h1, h2, C, r, _⟩ => by rw [← RL.length r]; exact h2) (fun A outer s H vs Q E hgu hr ⟨m, c, ds, Φ, h1, h2, C, r, hS, q⟩ => ?_)
  obtain ⟨ts, hp, ht⟩ := hbody A outer s H E hgu hr
  have hn : m.ix.length = n0 := by rw [C.len]; exact h1
  exact ⟨_, hp, m, startD N ds, c, _, start_slots C r, ht c ds Φ h1 h2 hS, fun σ' H' m' ρ' c' h' S' l => ret_ok hn q h' S'.cr rfl l, fun d c' v H' m' h' C' r' l => ret_ok hn q h' C' r' l, fun _ _ _ _ _ z => z.elim, fun _ _ _ _ _ z => z.elim⟩
end

section
variable {P : Program} {w : World} {K : PySem.W.Frag} {mg mb : Str → Option Value} {k : Nat} {fa a cL T : Addr} {fd : FuncData} {x : Str} {sp : Sp} {s₁ : Shared} {vs : List Value} {ns : List Int}
/-- at most the script and the table are tracked -/
theorem entryT {H : Hp} (KX : K.In s₁.heap) (hns : s₁.heap.Ns mainGlobals mg) (hb : s₁.heap.Ns builtinsNs mb) (hbb : ∀ x : Str, x ≠ "__name__" → mb x = bootBuiltins x) (hlim : s₁.heap.NoLimit) (hg : s₁.gens = #[])
    (hT : s₁.heap.get? T = some { cls := .none, data := .fields #[] }) (nT : K.lookup T = none) (hC : PySem.W.CodeHd s₁.heap cL T)
    (hbm : ∃ (bm : Addr) (ob : Obj), mg "__builtins__" = some (.ref bm) ∧ bm ≠ builtinsNs ∧ s₁.heap.get? bm = some ob ∧ ob.cls = .type "module" ∧ ob.dict = some builtinsNs ∧ ob.data = .plain)
    (ha : s₁.heap.get? a = some { cls := .type "list", data := .seq vs.toArray }) (hr : Room k callerA) (F : ∀ base : Heap, K.In base → base.Ns mainGlobals mg → LamX.TabB base mg cL T → FnG P w K mg base k fa fd [x] sp) (hbind : ∀ (s : Shared) (u : Value), BindsTo s fd ⟨[u], []⟩ [(x, u)])
    (hHT : H T = some (.tbl #[])) (hO : ∀ b, H b = none ∨ b = T ∨ ∃ o xs, H b = some (.frz o (.lst xs))) (hS : sp [.ref a] H (fun v _ => v = .bl true) fun _ _ _ => False) (hok : HOk P w H s₁.heap) (hA : ∀ b, H b ≠ none → b = a ∨ b = T) (hK : H a ≠ none → K.lookup a = none) :
    codeAny (model P w) callerA (.call (.ref fa) ⟨[.ref a], []⟩) (OutG s₁) s₁ := by
  have plain : ∀ {b : Addr} {o : Obj}, s₁.heap.get? b = some o → (∀ vs n, o.data ≠ .seq vs n) → o.data ≠ .fields #[] → H b = none := fun {b o} e h1 h2 => by
    cases q : H b with
    | none => rfl
    | some u =>
      rcases hA b (by rw [q]; exact fun z => nomatch z) with z | z
      · subst z; rw [ha] at e; cases e; exact absurd rfl (h1 _ _)
      · subst z; rw [hT] at e; cases e; exact absurd rfl h2
  have keepB : ∀ {b : Addr} {o : Obj}, s₁.heap.get? b = some o → H b = none → (hidT s₁.heap H).get? b = some o := fun e n => hidT_get e n
  have nsK : ∀ {b : Addr} {m : Str → Option Value}, s₁.heap.Ns b m → (hidT s₁.heap H).Ns b m := fun {b m} ⟨o, es, ep, e, d, r⟩ => by
    refine ⟨o, es, ep, keepB e (plain e (fun vs n z => ?_) fun z => ?_), d, r⟩
    · rw [d] at z; cases z
    · rw [d] at z; cases z
  have hKb : K.In (hidT s₁.heap H) := fun b o e => by
    refine keepB (KX b o e) ?_
    cases q : H b with
    | none => rfl
    | some u =>
      rcases hA b (by rw [q]; exact fun z => nomatch z) with z | z
      · subst z; rw [hK (by rw [q]; exact fun z => nomatch z)] at e; cases e
      · subst z; rw [nT] at e; cases e
  obtain ⟨mc, l1, l2⟩ := hlim
  have TB : LamX.TabB (hidT s₁.heap H) mg cL T := by
    refine ⟨?_, ?_, fun z => ?_⟩
    · obtain ⟨o, us, file, tf, flags, tg, inF, text, tt, e1, r1, r2, r3, r4⟩ := hC
      refine ⟨o, us, file, tf, flags, tg, inF, text, tt, keepB e1 (plain e1 (fun vs n z => ?_) fun z => ?_), r1, r2, r3, r4⟩
      · rw [r2] at z; cases z
      · rw [r2] at z; cases z; simp at r3
    · obtain ⟨bm, ob, b1, b2, b3, b4, b5, b6⟩ := hbm
      refine ⟨bm, ob, b1, b2, fun q => ?_, fun q => ?_, keepB b3 (plain b3 (fun vs n z => ?_) fun z => ?_), b4, b5, b6⟩
      · obtain ⟨o, es, ep, e, hd, _⟩ := hns
        rw [q, e] at b3; cases b3; rw [hd] at b6; cases b6
      · rw [q, hT] at b3; cases b3; cases b6
      · rw [b6] at z; cases z
      · rw [b6] at z; cases z
    · obtain ⟨o, es, ep, e, hd, _⟩ := hns
      rw [z, hT] at e; cases e; cases hd
  have e0 : Env0 P w K mg (hidT s₁.heap H) callerA [] s₁ H :=
    ⟨rfl, ⟨hKb, nsK hns, ⟨mb, nsK hb, hbb⟩, ⟨mc, nsK l1, l2⟩⟩, fun b o e => of_hidT e, Nat.le_of_eq (hidT_size _ _), trivial, fun b z => (List.not_mem_nil z).elim, hok, .of_eq hg⟩
  have run := (F _ hKb (nsK hns) TB).rn callerA [] s₁ H ⟨[.ref a], []⟩ [.ref a] [.ref a] _ _ rfl hr e0 (hbind s₁ (.ref a)) (.cons rfl .nil) hS
  refine codeAny_mono run fun r s' h => ?_
  cases r with
  | error e => exact False.elim h
  | ok fl =>
    cases fl with
    | ret u =>
      obtain ⟨v, H', os, bare, un, hok', rv, hv⟩ := h
      cases (show v = .bl true from hv)
      cases (show u = Value.bool true from rv)
      have grown : ∃ more : Array Value, s'.heap.get? T = some { cls := .none, data := .fields more } := by
        obtain ⟨more, z⟩ := un.tbls T #[] hHT
        exact ⟨_, hok' T _ z⟩
      have same : ∀ b o, b ≠ T → s₁.heap.get? b = some o → s'.heap.get? b = some o := fun b o nb e => by
        cases q : H b with
        | none => exact un.keep b o e q (fun z => (List.not_mem_nil z).elim) (fun z => (List.not_mem_nil z).elim)
        | some u =>
          rcases hO b with z | z | ⟨ob, xs, z⟩
          · rw [q] at z; cases z
          · exact absurd z nb
          · have old := (hok b _ z).1
            rw [e] at old
            cases old
            exact (hok' b _ (un.frzs b _ _ z)).1
      refine ⟨rfl, ⟨fun b o e => ?_, fun b o e => ?_⟩, os, bare⟩
      · by_cases hb : b = T
        · obtain ⟨more, hm⟩ := grown
          subst hb
          rw [hT] at e
          cases e
          exact .inr (.inl ⟨(hC.tab hT).isCodeTable, rfl, #[], more, rfl, by rw [Array.empty_append]; exact hm⟩)
        · exact .inl (same b o hb e)
      · by_cases hb : b = T
        · obtain ⟨more, hm⟩ := grown
          subst hb
          exact ⟨_, hm⟩
        · exact ⟨o, same b o hb e⟩
    | next => exact False.elim h
    | brk => exact False.elim h
    | cont => exact False.elim h
theorem lawT (KX : K.In s₁.heap) (hns : s₁.heap.Ns mainGlobals mg) (hb : s₁.heap.Ns builtinsNs mb) (hbb : ∀ x : Str, x ≠ "__name__" → mb x = bootBuiltins x) (hlim : s₁.heap.NoLimit) (hg : s₁.gens = #[])
    (hT : s₁.heap.get? T = some { cls := .none, data := .fields #[] }) (nT : K.lookup T = none) (hC : PySem.W.CodeHd s₁.heap cL T)
    (hbm : ∃ (bm : Addr) (ob : Obj), mg "__builtins__" = some (.ref bm) ∧ bm ≠ builtinsNs ∧ s₁.heap.get? bm = some ob ∧ ob.cls = .type "module" ∧ ob.dict = some builtinsNs ∧ ob.data = .plain)
    (ha : s₁.heap.get? a = some { cls := .type "list", data := .seq vs.toArray }) (hi : IntsAre vs ns) (hl : ns.length ≤ sizeLine) (hr : Room k callerA) (F : ∀ base : Heap, K.In base → base.Ns mainGlobals mg → LamX.TabB base mg cL T → FnG P w K mg base k fa fd [x] sp) (hbind : ∀ (s : Shared) (u : Value), BindsTo s fd ⟨[u], []⟩ [(x, u)])
    (hsp : ∀ H : Hp, H T = some (.tbl #[]) → SqL K H a (ns.map V.int) → sp [.ref a] H (fun v _ => v = .bl true) fun _ _ _ => False) : codeAny (model P w) callerA (.call (.ref fa) ⟨[.ref a], []⟩) (OutG s₁) s₁ := by
  have rv := vals_ints hi
  have hl' : (ns.map V.int).length ≤ sizeLine := by rw [List.length_map]; exact hl
  have aT : a ≠ T := fun z => by rw [z, hT] at ha; cases ha
  have tb : ∀ {H : Hp}, ObjOk P w H s₁.heap T (.tbl #[]) := hT
  cases hk : K.lookup a with
  | some o =>
    have eo := (KX a o hk).symm.trans ha
    cases eo
    refine entryT (H := upd (fun _ => none) T (.tbl #[])) KX hns hb hbb hlim hg hT nT hC hbm ha hr F hbind upd_same (fun b => ?_) (hsp _ upd_same (.inr ⟨_, vs.toArray, _, hk, rfl, rfl, rfl, by rw [List.size_toArray, hi.length]; exact hl, by simpa using rv⟩)) (fun b u z => ?_) (fun b z => ?_) (fun z => ?_)
    · by_cases e : b = T
      · exact .inr (.inl e)
      · exact .inl (upd_ne e)
    · by_cases e : b = T
      · subst e; rw [upd_same] at z; cases z; exact tb
      · rw [upd_ne e] at z; cases z
    · by_cases e : b = T
      · exact .inr e
      · exact absurd (upd_ne e) z
    · exact absurd (upd_ne aT) z
  | none =>
    refine entryT (H := upd (upd (fun _ => none) T (.tbl #[])) a (.frz { cls := .type "list", data := .seq vs.toArray } (.lst (ns.map V.int)))) KX hns hb hbb hlim hg hT nT hC hbm ha hr F hbind (by rw [upd_ne (Ne.symm aT), upd_same]) (fun b => ?_) (hsp _ (by rw [upd_ne (Ne.symm aT), upd_same]) (.inl (.inr ⟨_, upd_same⟩))) (fun b u z => ?_) (fun b z => ?_) (fun _ => hk)
    · by_cases e : b = T
      · exact .inr (.inl e)
      · by_cases e2 : b = a
        · subst e2; exact .inr (.inr ⟨_, _, upd_same⟩)
        · exact .inl (by rw [upd_ne e2, upd_ne e])
    · by_cases e2 : b = a
      · subst e2; rw [upd_same] at z; cases z
        exact ⟨ha, hl', vs, _, rv, ha⟩
      · rw [upd_ne e2] at z
        by_cases e : b = T
        · subst e; rw [upd_same] at z; cases z; exact tb
        · rw [upd_ne e] at z; cases z
    · by_cases e2 : b = a
      · exact .inl e2
      · by_cases e : b = T
        · exact .inr e
        · exact absurd (by rw [upd_ne e2, upd_ne e]) z
end
theorem walkT {l : PySem.W.OpenLaw} {n k : Nat} {q : Program} {loose : List Str} {XP : (Str → Option Value) → Heap → Prop} {YP : World → Heap → Prop} {d : DefRec} {K : Params → PySem.W.Frag} {sp : World → Sp} {x : Str}
    (hn : l.most = some n) (hn2 : n ≤ sizeLine) (hdf : d.params.defaults = []) (hr : Room k callerA) (hY : ∀ (w : World) (h : Heap), YP w h → (K w.params).In h)
    (F : ∀ (w : World) (mg : Str → Option Value) (fa : Addr) (h : Heap), YP w h → (K w.params).In h → h.Ns mainGlobals mg → mg d.name = some (.ref fa) →
      ∃ (fd : FuncData) (cL T : Addr), h.get? T = some { cls := .none, data := .fields #[] } ∧ (K w.params).lookup T = none ∧ PySem.W.CodeHd h cL T ∧ (∀ (s : Shared) (u : Value), BindsTo s fd ⟨[u], []⟩ [(x, u)]) ∧
        (∀ (H : Hp) (a : Addr) (ns : List Int), ns.length ≤ n → H T = some (.tbl #[]) → SqL (K w.params) H a (ns.map V.int) → sp w [.ref a] H (fun v _ => v = .bl true) fun _ _ _ => False) ∧
        ∀ base : Heap, (K w.params).In base → base.Ns mainGlobals mg → LamX.TabB base mg cL T → FnG l.prog w (K w.params) mg base k fa fd [x] (sp w)) :
    PySem.W.WalkO q loose XP YP l.row.toRowW d [] (fun f vs => PySem.call f vs) := by
  refine Att.attach_call hn hdf fun w s₀ s₁ mg mb fa o pm cd doc a vs ns G Y ho hd hcd hmg hobj hints hlen hg => ?_
  have KX := hY w _ Y
  obtain ⟨fd, cL, T, hT, nT, hC, hb, hsp, hF⟩ := F w mg fa _ Y KX G.T.g hmg
  exact lawT KX G.T.g G.T.b G.T.builtins G.T.nolimit hg hT nT hC G.T.bmain hobj hints (Nat.le_trans hlen hn2) hr hF hb fun H hH hS => hsp H _ ns hlen hH hS
end Cw

/-! # Own exception classes as the written part tells them; comparisons while an exception is held -/
namespace Cw
open PySem PySem.Spec PyProof.Rows L2

def slotsB : List (Option Value) → Bool
  | [_, _, _, _, some (.builtin n), _] => decide (n = "ValueError.__new__")
  | _ => false
def mroB (C : Addr) : List Value → Bool
  | .ref D :: bm => decide (D = C) && PySem.HandSPX.refsVE bm
  | _ => false
def oexB (K : PySem.W.Frag) (C : Addr) : Bool := match K.lookup C with
  | some ⟨.type t, _, .cls cd, sl⟩ => decide (t = "type") && (mroB C cd.mro && (cd.hasDict && (!cd.hasDel && slotsB sl.toList)))
  | _ => false
theorem oexB_ok {K : PySem.W.Frag} {C : Addr} (h : oexB K C = true) : ∃ nm q N bs bm sn sub ab col dd k0 k1 k2 k3 k5, K.lookup C = some (excClassObj nm q C N bs bm true sn sub ab col dd k0 k1 k2 k3 k5 "ValueError.__new__") ∧ PySem.HandSPX.refsVE bm = true := by
  unfold oexB at h
  split at h
  · rename_i t dd cd sl ho
    simp only [Bool.and_eq_true, decide_eq_true_eq, Bool.not_eq_true'] at h
    obtain ⟨ht, hm, hd, hl, hs⟩ := h
    subst ht
    obtain ⟨nm, bs, mro, ns, qn, hasd, sn, sub, ab, col, del⟩ := cd
    dsimp only at hm hd hl
    subst hd hl
    unfold mroB at hm
    split at hm
    · rename_i D bm
      simp only [Bool.and_eq_true, decide_eq_true_eq] at hm
      obtain ⟨rfl, hv⟩ := hm
      obtain ⟨l⟩ := sl
      simp only at hs
      unfold slotsB at hs
      split at hs
      · rename_i k0 k1 k2 k3 n k5
        have hs := of_decide_eq_true hs
        subst hs
        exact ⟨nm, qn, ns, bs, bm, sn, sub, ab, col, dd, k0, k1, k2, k3, k5, ho, hv⟩
      · cases hs
    · cases hm
  · cases h
section
variable {X : Cx} {a b : Expr} {ta tb : TD} {pos : Pos}
theorem pd_neU (hu : X.A.units + 200 < cLine) (ha : PD X a ta) (hb : PD X b tb) : PD X (.Compare a [.NotEq] [b] pos) (dBin (fEq true) ta tb) := PE.imp (pe_cmpR (op_ne.or (op_neD (by omega))) ha hb (nomark _)) fun σ H Q h => lift_bin l2_ne h
theorem pd_eqU (hu : X.A.units + 200 < cLine) (ha : PD X a ta) (hb : PD X b tb) : PD X (.Compare a [.Eq] [b] pos) (dBin (fEq false) ta tb) := PE.imp (pe_cmpR (op_eq.or (op_eqD (by omega))) ha hb (nomark _)) fun σ H Q h => lift_bin l2_eq h
theorem pdt_neU (hu : X.A.units + 200 < cLine) (ha : PD X a ta) (hb : PD X b tb) : PDt X (.Compare a [.NotEq] [b] pos) (dT (dBin (fEq true) ta tb)) := pdt_cmp (op_ne.or (op_neD (by omega))) l2_ne ha hb (nomark _)
theorem pdt_eqU (hu : X.A.units + 200 < cLine) (ha : PD X a ta) (hb : PD X b tb) : PDt X (.Compare a [.Eq] [b] pos) (dT (dBin (fEq false) ta tb)) := pdt_cmp (op_eq.or (op_eqD (by omega))) l2_eq ha hb (nomark _)
theorem pd_inU (hu : X.A.units + 200 < cLine) (ha : PD X a ta) (hb : PD X b tb) (hm : behindInMarks .In b = false := by rfl) : PD X (.Compare a [.In] [b] pos) (dBin (fIn false) ta tb) :=
  PE.imp (pe_cmpR (op_in_str.or (op_in_seq.or ((op_inD (by omega)).or (op_inT (by omega))))) ha hb hm) fun σ H Q h => lift_bin l2_in h
theorem pdt_inU (hu : X.A.units + 200 < cLine) (ha : PD X a ta) (hb : PD X b tb) (hm : behindInMarks .In b = false := by rfl) : PDt X (.Compare a [.In] [b] pos) (dT (dBin (fIn false) ta tb)) :=
  pdt_cmp (op_in_str.or (op_in_seq.or ((op_inD (by omega)).or (op_inT (by omega))))) l2_in ha hb hm
end
theorem hotU {k : Nat} {A : Around} (r : L2H.RoomH k A) : A.units + 200 < cLine := by have := r.un; omega
end Cw

/-! # isinstance(x, (A, B)); {} -/
namespace Cw
open PySem PySem.Spec PyProof.Rows L2
theorem tyX_of {K : PySem.W.Frag} {H : Hp} {m : Ad} {x : D} {u : V} {t : Ty} (e1 : tyD x = some t) (hi : ∀ C, t ≠ .ins C) (r : W K H m x u) : TyX K H u t.val := by
  cases x <;> first | (cases e1; done) | skip
  · cases e1; cases (show u = _ from r); exact .base .non
  · cases e1; cases (show u = _ from r); exact .base (.bl _)
  · cases e1; cases (show u = _ from r); exact .base (.int _)
  · cases e1; cases (show u = _ from r); exact .base (.str _)
  · cases e1
    obtain ⟨a, xs, rfl, h1, h2⟩ := r
    rcases ex_t (ex_hid m H) h1 with (h1 | ⟨o, h1⟩) | ⟨o, its, n, hk, hc, _⟩
    · exact .base (.tup h1)
    · exact .fTuple h1
    · exact .kTuple hk hc
  · cases e1
    obtain ⟨a, xs, rfl, h1, h2⟩ := r
    exact .base (.lst h1)
  · cases e1; exact absurd rfl (hi _)
  · cases e1
    obtain ⟨a, kvs, rfl, h1, _⟩ := r
    rcases h1 with h1 | ⟨o, h1⟩
    · exact .base (.dK h1)
    · exact .fDict h1
theorem forX_inv {g : TGD} {tb : TSX} {De : DEX} (I : List D → Env → List Cell → Prop) (fin : ∀ ρ c, I [] ρ c → De.nx ρ c)
    (step : ∀ d ds ρ c (F : Env → List Cell → Prop), (∀ ρ c, I ds ρ c → F ρ c) → I (d :: ds) ρ c → g d ρ c fun ρ1 c1 => tb ⟨F, De.rt, De.nx, F, De.ex⟩ ρ1 c1) : ∀ ds ρ c, I ds ρ c → forX g tb De ds ρ c
  | [], ρ, c, h => fin ρ c h
  | d :: ds, ρ, c, h => step d ds ρ c _ (fun ρ c h => forX_inv I fin step ds ρ c h) h
/-- the pairs of places and items from the k-th place on -/
def pairsAt : Nat → List D → List D
  | _, [] => []
  | k, x :: r => .tup [.int (k : Nat), x] :: pairsAt (k + 1) r
theorem pairsAt_eq : ∀ (xs : List D) (k : Nat), (List.range xs.length).map (fun i => D.tup [.int ((k + i : Nat) : Int), xs.getD i .non]) = pairsAt k xs
  | [], _ => rfl
  | x :: r, k => by
    rw [List.length_cons, List.range_succ_eq_map, List.map_cons, List.map_map]
    show D.tup [.int ((k + 0 : Nat) : Int), x] :: _ = _ :: _
    rw [Nat.add_zero, ← pairsAt_eq r (k + 1)]
    congr 1
    apply List.map_congr_left
    intro i _
    show D.tup [.int ((k + (i + 1) : Nat) : Int), (x :: r).getD (i + 1) .non] = _
    rw [show k + (i + 1) = k + 1 + i by omega]
    rfl
theorem pairsOf_at (xs : List D) : pairsOf xs = pairsAt 0 xs := by
  rw [← pairsAt_eq xs 0]
  unfold pairsOf
  apply List.map_congr_left
  intro i _
  rw [Nat.zero_add]
def dIsi2 (g1 g2 : Ty → Option Bool) (ta : TD) : TD := fun ρ c Φ => ta ρ c fun x c1 => ∃ t b1 b2, vw c1 x = x ∧ tyD x = some t ∧ g1 t = some b1 ∧ g2 t = some b2 ∧ Φ (.bl (b1 || b2)) c1
section
variable {X : Cx} {e e1 e2 : Expr} {ta : TD} {pos pp tp : Pos} {kt : Nat}
theorem pd_isi2 {v1 v2 : V} {u1 u2 : Value} {g1 g2 : Ty → Option Bool} (T1 : IsiT X.K u1 g1) (T2 : IsiT X.K u2 g2) (n1 : ∀ C, g1 (.ins C) = none) (c1 : ClsV v1 u1) (c2 : ClsV v2 u2) (ha : PD X e ta) (h1 : PE X e1 (tC v1)) (h2 : PE X e2 (tC v2)) (hm : X.mg "isinstance" = none) (hg : Gl X "isinstance" := by rfl)
    (he : starEach [e, .Tuple [e1, e2] kt tp] X.env = (false, eval e X.env) :: starEach [.Tuple [e1, e2] kt tp] X.env := by rfl) (he2 : starEach [.Tuple [e1, e2] kt tp] X.env = (false, eval (.Tuple [e1, e2] kt tp) X.env) :: starEach [] X.env := by rfl)
    (h3 : starEach [e1, e2] X.env = (false, eval e1 X.env) :: starEach [e2] X.env := by rfl) (h4 : starEach [e2] X.env = (false, eval e2 X.env) :: starEach [] X.env := by rfl) (hpl : (backTo pos (starEach [.Tuple [e1, e2] kt tp] X.env)).any (·.1) = false := by rfl) :
    PD X (.Call (.Name "isinstance" pp) [e, .Tuple [e1, e2] kt tp] [] pos) (dIsi2 g1 g2 ta) :=
  PE.imp (pe_callB call_isiT hg hm boot_isinstance (pa_cons ha (pa_cons (pe_tup (pa_cons h1 (pa_cons h2 pa_nil h4) h3)) pa_nil he2) he) (by decide) (by decide) he hpl) fun σ H Q ⟨m, ρ, c, Φ, S, hh, q⟩ =>
  ⟨m, ρ, c, _, S, hh, fun x c' u H1 m1 ⟨t, b1, b2, hv, et, k1, k2, hx⟩ C1 R1 L1 => by
    refine ⟨by show 2 ≤ sizeLine; decide, fun p hp => ?_⟩
    have l := Le.new (o := .tup [v1, v2]) hp C1
    have hi : ∀ C, t ≠ .ins C := fun C z => by subst z; rw [n1] at k1; cases k1
    refine ⟨u, p, [v1, v2], t.val, [u1, u2], b1 || b2, rfl, upd_same, .cons c1 (.cons c2 .nil), tyX_of et hi (W.of (l.r R1)), ?_, q _ c' _ _ m1 hx (C1.new hp) rfl (L1.trans l)⟩
    refine kitAny_cons (T1.ok t b1 k1) (fun z => kitAny_cons (T2.ok t b2 k2) (fun z2 => by rw [z, z2]; rfl) fun z2 => by rw [z2, Bool.or_true]) fun z => by rw [z]; rfl⟩
theorem pd_dict0 : PD X (.Dict [] [] pos) (dC (.dct [] [])) := PE.imp pe_dnewK fun σ H Q ⟨m, ρ, c, Φ, S, h, q⟩ p hp =>
  q _ c _ _ m h (S.cr.new hp) ⟨p, [], rfl, .inl (new_at hp S.cr), rfl, rfl⟩ (Le.new hp S.cr)
end
end Cw

/-! # try .. several clauses `except A as n` -/
namespace Cw
open PySem PySem.Spec PyProof.Rows L2
def wAsN (K : PySem.W.Frag) (nN i : Nat) (De : Ends) : List (Value × TSP) → WX
  | [] => fun _ _ _ _ => False
  | (c, ts) :: r => fun cls d σ H => σ.length = nN → ∃ b, PySem.W.exmOne K cls c = some b ∧
      (b = true → ∀ p : Addr × Obj, H p.1 = none → Zc cls d p.2 → (∃ vs, p.2.data = .fields vs) → ts p cls d { nx := fun σ' H' => De.nx (σ'.set i none) H', rt := De.rt, bk := fun σ' H' => De.bk (σ'.set i none) H', ct := fun σ' H' => De.ct (σ'.set i none) H' } (σ.set i (some (.ref p.1))) H) ∧
      (b = false → wAsN K nN i De r cls d σ H)
inductive ClsN (X : Cx) (n : Str) : List ExceptHandler → List (Value × TSP) → Prop
  | nil : ClsN X n [] []
  | cons {x : Str} {c : Value} {ts : TSP} {b0 : Stmt} {suite : List Stmt} {np pos' : Pos} {hds : List ExceptHandler} {l : List (Value × TSP)} (g : Gl X x) (m : X.mg x = some c) (dbg : (x == ("__debug__" : Str)) = false)
      (hsu : ∀ (p : Addr × Obj) (cls : Value) (d : Option Addr) (pn : List (Addr × Obj)), Zc cls d p.2 → (∃ vs, p.2.data = .fields vs) → PSs (X.suite p.1 (p :: pn)) (b0 :: suite) (ts p cls d)) (r : ClsN X n hds l) :
      ClsN X n (.ExceptHandler (some (.Name x np)) (some n) (b0 :: suite) pos' :: hds) ((c, ts) :: l)
section
variable {X : Cx} {i : Nat} {n : Str} {body : List Stmt} {h0 : ExceptHandler} {hds : List ExceptHandler} {l : List (Value × TSP)} {tb : WX → TS} {pos : Pos}
theorem ps_try_asN (hst : X.stack = X.env :: X.outer) (hfr : X.env.frame = some X.env.locals) (hN : X.N.Nodup) (hi : X.N[i]? = some n) (hln : X.env.kindOf n = some .local)
    (hb : ∀ (W : WX) (pn : List (Addr × Obj)) (xe : Value → Shared → Prop), Takes (X.tr pn xe) W → PassesOwn (model X.prog X.w) X.A X.env xe → PSs (X.tr pn xe) body (tb W))
    (hh : ClsN X n (h0 :: hds) l) : PS X (.Try body (h0 :: hds) [] [] pos) (fun De σ H => tb (wAsN X.K X.N.length i De l) De σ H) := by
  refine ⟨fun pins s σ H De I hT => wpAny_Try_except ?_⟩
  have okX := I.ok
  have frames : X.A.frames = some (X.env :: X.outer) := by rw [okX.frames, hst]
  refine wpAny_mono ((hb (wAsN X.K X.N.length i De l) (X.pn ++ pins) (fun e sa => wpAny (model X.prog X.w) X.A (noteFrame e X.env) (fun _ sb => wpAny (model X.prog X.w) X.A (setFlight e none) (fun _ sc =>
    wpAny (model X.prog X.w) X.A (handleBy e X.env (h0 :: hds)) (SP X pins De) X.xe sc) X.xe sb) X.xe sa) (fun u sx air => ?_) PassesOwn.looking).run [] s σ H De (I.toTry _) hT) (fun fl sy end_ => ?_) (fun e sy bad => bad)
  · obtain ⟨a, B, sI, pinsI, σI, HI, cls, d, rfl, Jt, nb, up, sky, na, os, ag, wish⟩ := air
    have J : Inv X pins σI HI sI := Jt.ofTry okX
    have skyX : Sky B (X.env :: X.outer) a (Zc cls d) X.env.locals sx.heap := by rw [← hst]; exact sky
    show wpAny (model X.prog X.w) X.A (noteFrame (.ref a) X.env) _ _ _
    refine Sky.land Zc.steady frames hfr skyX fun hA flA upA => ?_
    obtain ⟨oA, vA, gA, zA, dA⟩ := flA.there
    have notframe : a ∉ frs (X.env :: X.outer) := fun hm => by
      obtain ⟨_, o', e', hnf⟩ := flA.2.2.1.mem hm
      rw [gA] at e'; cases e'
      exact hnf _ dA
    have nL : a ≠ X.env.locals := fun z => notframe (List.mem_filterMap.mpr ⟨X.env, List.mem_cons_self, by rw [hfr, z]⟩)
    have nF : a ∉ X.fs := fun hm => by
      obtain ⟨e, he, q⟩ := List.mem_filterMap.mp hm
      exact notframe (List.mem_filterMap.mpr ⟨e, List.mem_cons_of_mem _ he, q⟩)
    have JA : Inv X pins σI HI { sx with heap := hA } := J.landed nb flA.1 (up.trans upA) os ag
    have SA := JA.suite gA dA na nL nF
    have walk : ∀ {hs : List ExceptHandler} {ls : List (Value × TSP)}, ClsN X n hs ls → wAsN X.K X.N.length i De ls cls d σI HI → wpAny (model X.prog X.w) X.A (handleBy (.ref a) X.env hs) (SP X pins De) X.xe { sx with heap := hA } := by
      intro hs ls cl
      induction cl with
      | nil => intro z; exact z.elim
      | @cons x c ts b0 suite np pos' hs2 l2 g m dbg hsu r ih =>
        intro wish
        obtain ⟨b, mat, yes, no⟩ := wish J.len
        refine wpAny_handleBy_cons (codeAny_handlers_test ?_) (by intro q; cases q)
        have LT : PySem.W.Looks (model X.prog X.w) hA (typeOf (.ref a)) cls := fun A Q E s k q => wpAny_typeOf_ref (k _ _ gA) (by rw [zA.1]; exact q)
        refine ld_glob (X := X.suite a ((a, oA) :: (X.pn ++ pins))) SA g m ((PySem.W.exm_one (M := model X.prog X.w) JA.kIn LT mat).here ?_) dbg
        cases b with
        | false => exact ih (no rfl)
        | true =>
          refine codeAny_handlers_suite_as (HandSPX.lands_againZ flA fun hC flC upC => ?_)
          obtain ⟨oC, vC, gC, zC, dC⟩ := flC.there
          have JC : Inv X pins σI HI { sx with heap := hC } := J.landed nb flC.1 ((up.trans upA).trans upC) os ag
          have SC := JC.suite gC dC na nL nF
          refine store_ok (X := X.suite a ((a, oC) :: (X.pn ++ pins))) (v := .ref a) SC hN hi (.inl hln) rfl (fun s5 S5 => ?_) (.inr hln)
          refine wpAny_mono ((hsu (a, oC) cls d (X.pn ++ pins) zC ⟨_, dC⟩).run [] s5 _ HI _ S5 (yes rfl (a, oC) na zC ⟨_, dC⟩)) (fun fl s6 end6 => ?_) (fun _ _ z => False.elim z)
          have off : ∀ {σ6 : L2.St} {H6 : Hp} {Q : Shared → Prop}, Inv (X.suite a ((a, oC) :: (X.pn ++ pins))) [] σ6 H6 s6 → (∀ s7, Inv X pins (σ6.set i none) H6 s7 → Q s7) →
              wpAny (model X.prog X.w) X.A (do bindName X.env n .none; unbindBehindTheSuite X.env n pos') (fun _ s7 => Q s7) X.xe s6 := fun {σ6 H6 Q} S6 hq => gone_ok (S6.unsuite okX) hN hi hln hq
          cases fl with
          | next => obtain ⟨σ6, H6, S6, q6⟩ := end6; exact off S6 fun s7 J7 => ⟨_, _, J7, q6⟩
          | brk => obtain ⟨σ6, H6, S6, q6⟩ := end6; exact off S6 fun s7 J7 => ⟨_, _, J7, q6⟩
          | cont => obtain ⟨σ6, H6, S6, q6⟩ := end6; exact off S6 fun s7 J7 => ⟨_, _, J7, q6⟩
          | ret u => obtain ⟨v6, σ6, H6, S6, r6, q6⟩ := end6; exact off S6 fun s7 J7 => ⟨_, _, _, J7, r6, q6⟩
    exact walk hh wish
  · cases fl with
    | next => obtain ⟨σ', H', J', q⟩ := end_; exact wpAny_execs_nil ⟨σ', H', J'.ofTry okX, q⟩
    | brk => obtain ⟨σ', H', J', q⟩ := end_; exact ⟨σ', H', J'.ofTry okX, q⟩
    | cont => obtain ⟨σ', H', J', q⟩ := end_; exact ⟨σ', H', J'.ofTry okX, q⟩
    | ret u => obtain ⟨v, σ', H', J', r, q⟩ := end_; exact ⟨v, σ', H', J'.ofTry okX, r, q⟩
end
end Cw

/-! # x(lambda: e), x the def that tells by clauses what a call raises -/
namespace Cw
open PySem PySem.Spec PyProof.Rows L2
abbrev TSQ := Addr × Obj → TSD
def liftQ (K : PySem.W.Frag) (l : List (Value × TSQ)) : List (Value × TSP) := l.map fun q => (q.1, fun p _ _ => liftS K (q.2 p))
/-- the first clause that takes y -/
def clsQ (K : PySem.W.Frag) (y : XD) (P : TSQ → Prop) : List (Value × TSQ) → Prop
  | [] => False
  | (c, t) :: r => ∃ b, PySem.W.exmOne K (.ref y.C) c = some b ∧ (b = true → P t) ∧ (b = false → clsQ K y P r)
def dHeard (tell : XD → Option D) (told : D) (tx : TDX) : TD := fun ρ c Φ => tx ρ c (fun _ c1 => Φ told c1) fun y c1 => ∃ r, tell y = some r ∧ okDs 0 y.ds = true ∧ Φ r c1
theorem clsQ_wish {K : PySem.W.Frag} {De : Ends} {dd : Addr} {y : XD} {σ : L2.St} {H : Hp} {m : Ad} {c : List Cell} {Φ : D → List Cell → Prop} (hlen : σ.length = 2) (C : CR K H m c) {fs : List (Str × V)} (y1 : hid m H dd = some (.xd fs)) (y2 : fs.map (·.1) = y.ns) (y3 : RRL K H m y.ds (fs.map (·.2))) (k : KQ K H m Φ De.rt)
    {l : List (Value × TSQ)} (h : ∀ p : Addr × Obj, HeldO p dd y.C → clsQ K y (fun t => t p ⟨fun _ _ => False, Φ, fun _ _ => False, fun _ _ => False⟩ [none, some (.exc p.1 dd y.C y.ns y.ds)] c) l) (w : Addr × Obj) (hw : HeldO w dd y.C) :
    wAsN K 2 1 De (liftQ K l) (.ref y.C) (some dd) σ H := by
  induction l with
  | nil => exact (h w hw).elim
  | cons q r ih =>
    obtain ⟨c', t⟩ := q
    intro _
    obtain ⟨b, e, h1, h2⟩ := h w hw
    refine ⟨b, e, fun hb p hp hz hf => ?_, fun hb => ih fun p hp => ?_⟩
    · obtain ⟨b', e', h1', _⟩ := h p ⟨hz.1, hz.2, hf⟩
      rw [e] at e'
      cases e'
      refine ⟨m, [none, some (.exc p.1 dd y.C y.ns y.ds)], c, ⟨fun _ _ => False, Φ, fun _ _ => False, fun _ _ => False⟩, ⟨C, by rw [List.length_set, hlen]; rfl, fun i d ei => ?_⟩, h1' hb, fun _ _ _ _ _ z => z.elim, k, fun _ _ _ _ _ z => z.elim, fun _ _ _ _ _ z => z.elim⟩
      have hi : i = 1 := by
        match i, ei with
        | 1, _ => rfl
        | n + 2, ei => match n, ei with
          | n + 1, ei => simp at ei
      subst hi
      cases ei
      exact ⟨.ref p.1, by rw [List.getElem?_set_self (by omega)], fs, rfl, y1, y2, y3⟩
    · obtain ⟨b', e', _, h2'⟩ := h p hp
      rw [e] at e'
      cases e'
      exact h2' hb
theorem pd_heard {X : Cx} {x a ne : Str} {g cL P : Addr} {fdg : FuncData} {st : Stmt} {h0 : ExceptHandler} {hds : List ExceptHandler} {re : Expr} {k : Nat} {params : Arguments} {body : Expr} {scope : Scope} {tell : XD → Option D} {told : D} {tx : TDX} {lq : List (Value × TSQ)} {tret : TD}
    {p2 p3 p4 p6 p11 px lpos pos : Pos}
    (F : Fun X.K x x st g fdg) (Sg : FnScope [a, ne] [a] (defScope st))
    (hst : defBody st = [.Try [.Expr (.Call (.Name a p2) [] [] p3) p4] (h0 :: hds) [] [] p6, .Return (some re) p11])
    (hm : X.mg x = some (.ref g)) (hb : L2.Binds X.K fdg [a] [])
    (TB : LamX.TabB X.base X.mg cL P) (hcode : X.env.code = .ref cL) (hT : (P, (⟨lamQ, rfl⟩ : LQ)) ∈ tabsK X.K) (hgu : X.A.guards = some []) (hr : Room (k + 3) X.A)
    (hcl : ∀ (cdv : Value) (A : Around) (outer : List PySem.Env) (s : Shared) (H : Hp), A.guards = some [] → L2H.RoomH (k + 2) (A.deeper (envOfC x (defScope st) s.heap.objs.size g cdv)) →
      ClsN (cxOf CX0 X.prog X.w X.K X.mg X.base [a, ne] x (defScope st) g cdv A outer s H E0) ne (h0 :: hds) (liftQ X.K lq))
    (hre : ∀ (cdv : Value) (A : Around) (outer : List PySem.Env) (s : Shared) (H : Hp), PD (cxOf CX0 X.prog X.w X.K X.mg X.base [a, ne] x (defScope st) g cdv A outer s H E0) re tret)
    (hrt : ∀ (c : List Cell) (Ψ : D → List Cell → Prop), Ψ told c → tret [none, none] c Ψ)
    (hts : ∀ (dd : Addr) (y : XD) (r : D) (c : List Cell) (Ψ : D → List Cell → Prop), tell y = some r → okDs 0 y.ds = true → Ψ r c → ∀ p : Addr × Obj, HeldO p dd y.C → clsQ X.K y (fun t => t p ⟨fun _ _ => False, Ψ, fun _ _ => False, fun _ _ => False⟩ [none, some (.exc p.1 dd y.C y.ns y.ds)] c) lq)
    (hbody : ∀ (A : Around) (outer : List PySem.Env) (s : Shared) (H : Hp) (E : XK) (f c' : Addr), Room (k + 1) (A.deeper (LamX.lamEnv X scope s.heap.objs.size f c')) → PDX (LamX.lamCx X A outer s H E scope f c') E body tx)
    (L : LamX.LamS X.env.scope scope) (hq : X.env.qual ++ "<lambda>" = lamQ := by rfl) (hdef : defaultsOf params X.env = ([], []) := by rfl)
    (hbind : ∀ (q : Str) (cl : List (Str × Addr)) (pm cv ctv : Value), bindArgs (PySem.W.kla_fn "<lambda>" q params body scope cl pm cv ctv) ⟨[], []⟩ = pure [] := by intros; rfl)
    (hg : Gl X x := by rfl) (va : (defScope st).names.lookup a = some .local := by rfl) (ve : (defScope st).names.lookup ne = some .local := by rfl)
    (hdb : (x == ("__debug__" : Str)) = false := by decide) (da : (a == ("__debug__" : Str)) = false := by decide) (ca : (a == ("__classdict__" : Str)) = false := by decide)
    (hsw : ∀ (Z : Cx), swapsWith (.Call (.Name a p2) [] [] p3) none p4.line Z.env = pure false := by intros; rfl) :
    PD X (.Call (.Name x px) [.Lambda params body scope lpos] [] pos) (dHeard tell told tx) := by
  obtain ⟨oc, od, kV, doc, pm, an, cdv, ct, osl, rfl, lk, hcd⟩ := F.ex
  refine ⟨fun pins s σ H Q I ⟨m, ρ, c, Φ, S, h, q⟩ => ?_⟩
  obtain ⟨hP, tk⟩ := S.cr.tk _ hT
  refine wpAny_Call_Name_kw (ld_glob I hg hm ?_ hdb)
  refine PySem.W.callWith_K (h₀ := X.base) I.ok.mod.kin F.kp ?_ (by rfl) (by rfl)
  show wpAny _ _ (spliced ((false, eval (.Lambda params body scope lpos) X.env) :: backTo pos (starEach [] X.env))) _ _ s
  refine Calls.spliced_cons (lam_makeP I TB hcode (by rw [hq]; exact tk.tabS) hdef (L.has I.ok) fun f c' pm' ctv H1 s' I1 gr t1 hf hfn hfr hco => ?_)
  rw [hq] at gr t1
  obtain ⟨C1, L01⟩ := grown_le S.cr hP tk gr
  have S1 := S.step L01 C1
  refine Calls.spliced_nil ⟨I1.kIn, ?_⟩
  have rc : codeAny (model X.prog X.w) X.A (.call (.ref g) ⟨[.ref f], []⟩) (L2.CR C8.CX0 X.stack X.prog X.w H1 s' Q E0) s' := by
    refine LamX.run_ofS (N := [a, ne]) (ps := [a]) (us := [.ref f]) (vs := [.ref f]) lk hcd Sg (hr.mono (by omega) : Room ((k + 2) + 1) X.A) I1.env0 (hb s' [.ref f] I1.kIn rfl) (.cons rfl .nil) rfl fun hr' => ?_
    rw [hst]
    let Z : Cx := cxOf C8.CX0 X.prog X.w X.K X.mg X.base [a, ne] x (defScope st) g cdv X.A X.stack s' H1 E0
    have clauses : ClsN Z ne (h0 :: hds) (liftQ X.K lq) := hcl cdv X.A X.stack s' H1 hgu ⟨hr'.dp, hr'.un⟩
    have htry : ∀ (W : WX) (pn : List (Addr × Obj)) (xe : Value → Shared → Prop), Takes (Z.tr pn xe) W → PassesOwn (model Z.prog Z.w) Z.A Z.env xe → PSs (Z.tr pn xe) [.Expr (.Call (.Name a p2) [] [] p3) p4]
        (fun De σZ HZ => ∃ Ech : XK, (∀ cls d σ' H', Ech cls d H' → W cls d σ' H') ∧ σZ[0]? = some (some (.ref f)) ∧ HZ c' = some (LamX.CodeO c' (X.env.qual ++ "<lambda>")) ∧ liftX X.K Ech tx σ HZ (fun _ H' => De.nx σZ H')) := fun W pn xe tk2 _ => by
      refine ⟨fun pins2 s2 σ2 H2 De I2 ⟨Ech, hW, z1, z2, z3⟩ => ?_⟩
      have act : PE (Z.tr pn xe) (.Call (.Name a p2) [] [] p3) (fun σZ HZ Q => σZ[0]? = some (some (.ref f)) ∧ HZ c' = some (LamX.CodeO c' (X.env.qual ++ "<lambda>")) ∧ liftX X.K Ech tx σ HZ Q) :=
        LamX.pe_act (k := k + 1) (i := 0) (tb := liftX X.K Ech tx) I1 L hf hfn hfr (hbind _ _ _ _ _) tk2 hW hr' (fun A outer s H hr2 => hbody A outer s H Ech f c' hr2) rfl (.inl va) da ca
      have run : PS (Z.tr pn xe) (.Expr (.Call (.Name a p2) [] [] p3) p4) _ := ps_expr act (hsw _)
      exact (pss_one run).run pins2 s2 σ2 H2 De I2 ⟨z1, z2, z3⟩
    have tr := ps_try_asN (X := Z) (i := 1) (n := ne) (pos := p6) rfl rfl Sg.nd rfl ve htry clauses
    have ret : PSD Z (.Return (some re) p11) (dRet tret) := psd_ret (hre cdv X.A X.stack s' H1)
    refine ⟨_, pss_cons tr (pss_one ret), ?_⟩
    refine ⟨fun cls d H' => ∃ y c2 m', (∃ r, tell y = some r ∧ okDs 0 y.ds = true ∧ Φ r c2) ∧ CR X.K H' m' c2 ∧ IsX X.K H' m' y cls d ∧ Le m H1 m' H' ∧ ∃ w : Addr × Obj, ∀ dd, d = some dd → HeldO w dd y.C, ?_, rfl, hco, m, ρ, c, _, _, S1, h, ?_, ?_⟩
    · rintro cls d σ' H' ⟨y, c2, m', ⟨r, hr2, ok, hΦ⟩, C', ⟨rfl, dd, fs, rfl, y1, y2, y3⟩, l, w, hw⟩
      by_cases hlen : σ'.length = 2
      · exact clsQ_wish (De := _) hlen C' y1 y2 y3 (fun d c3 w H3 m3 hd C3 R3 l3 => q d c3 w H3 m3 hd C3 R3 (L01.trans (l.trans l3))) (fun p hp => hts dd y r c2 Φ hr2 ok hΦ p hp) w (hw dd rfl)
      · cases lq with
        | nil => exact (hts dd y r c2 Φ hr2 ok hΦ w (hw dd rfl)).elim
        | cons q r => intro hl; exact absurd hl hlen
    · intro d c2 v H2 m2 hd C2 R2 l2
      exact ⟨m2, [none, none], c2, ⟨fun _ _ => False, Φ, fun _ _ => False, fun _ _ => False⟩, ⟨C2, rfl, fun i d e => by
        match i, e with
        | n + 2, e => simp at e⟩, hrt c2 Φ hd, fun _ _ _ _ _ z => z.elim, fun d c3 w H3 m3 hd C3 R3 l3 => q d c3 w H3 m3 hd C3 R3 (L01.trans (l2.trans l3)), fun _ _ _ _ _ z => z.elim, fun _ _ _ _ _ z => z.elim⟩
    · intro y c2 cls d H2 m2 hy C2 R2 l2
      refine ⟨y, c2, m2, hy, C2, R2, l2, ⟨0, ⟨.ref y.C, d, .fields #[], #[]⟩⟩, fun dd e => ⟨rfl, e, _, rfl⟩⟩
  refine wpAny_call (codeAny_mono rc fun r s2 hq => ?_)
  cases r with
  | error e => exact (show False from hq).elim
  | ok fl =>
    cases fl with
    | ret u => exact I1.after hq
    | next => exact False.elim hq
    | brk => exact False.elim hq
    | cont => exact False.elim hq
end Cw

/-! # repr, of an empty dict too -/
namespace Cw
open PySem PySem.Spec PyProof.Rows L2
theorem reads_dict0 {P : Program} {w : World} {h : Heap} {a : Addr} (hd : h.DictOf (mixKind P w) a []) : Reads h (.ref a) (.dict []) [a] := by
  obtain ⟨o, es, ep, ho, hx, hdat, _, hp, _⟩ := hd
  have e : es.toList = [] := by
    cases z : es.toList with
    | nil => rfl
    | cons x r => rw [z] at hp; cases hp
  exact Reads.dict (kvs := []) (as := []) (bs := []) ho hx.1 hdat (by rw [e]; exact .nil) (by rw [e]; exact .nil)
section
variable {X : Cx}
def rReprE (K : PySem.W.Frag) : List V → Hp → VK → Prop := fun xs H Q => rReprA K xs H Q ∨ ∃ a, xs = [.ref a] ∧ Rd H a (.dK []) ∧ Q (.str "{}") H
theorem call_reprE (hg : X.A.guards = some []) (hu : X.A.units + 64 < cLine) : CallR X (.builtin "repr") (rReprE X.K) := by
  intro pins s σ H xs us Q I r h
  rcases h with h | ⟨a, rfl, h1, q⟩
  · exact call_reprA hg hu pins s σ H xs us Q I r h
  · cases r with
    | cons r rr =>
      cases rr
      cases r
      obtain ⟨_, hs, vs, kv, hd⟩ := dk_rd I.hok h1
      have e : vs = [] := by
        cases vs with
        | nil => rfl
        | cons x r => cases kv
      subst e
      exact PySem.repr_of_reads' (h₀ := s.heap) (reads_dict0 hd) (by rfl) (fun _ z => by
        have : sysModules = a := by simpa using z
        subst this
        simp at hs) hg (by show X.A.units + _ < cLine; have : (PyData.dict []).depth ≤ 2 := by decide
                           omega) (fun _ _ e => e) (fun h' u tk k => ⟨.str "{}", H, I.kept k, ⟨u, rfl⟩, q⟩) (by decide)
end
def fReprE : F1 := fun x c Φ => fReprA x c Φ ∨ (x = .dct [] [] ∧ Φ (.str "{}") c)
theorem l1_reprE {K : PySem.W.Frag} : L1f K fReprE (fun u H Q => rReprE K [u] H Q) := by
  intro x c Φ h H m u C r Q q
  rcases h with h | ⟨rfl, h3⟩
  · exact .inl (l1_reprA x c Φ h H m u C r Q q)
  · obtain ⟨a, kvs, rfl, h1, h2, _⟩ := r
    have e : kvs = [] := by
      cases kvs with
      | nil => rfl
      | cons x r => cases h2
    subst e
    exact .inr ⟨a, rfl, h1, q.pure C h3 rfl⟩
section
variable {X : Cx} {e : Expr} {ta : TD} {pos pp : Pos}
theorem pd_reprE (hgu : X.A.guards = some []) (hu : X.A.units + 64 < cLine) (ha : PD X e ta) (hm : X.mg "repr" = none) (hg : Gl X "repr" := by rfl) (he : starEach [e] X.env = (false, eval e X.env) :: starEach [] X.env := by rfl) (hpl : (backTo pos (starEach [] X.env)).any (·.1) = false := by rfl) :
    PD X (.Call (.Name "repr" pp) [e] [] pos) (dCB (un1 fReprE) (dCons ta dNil)) := pd_B1 (call_reprE hgu hu) l1_reprE (by decide +kernel) (by decide) (by decide) ha hg hm he hpl
end
/-! # f(k=x, ..) that may raise -/
section
variable {X : Cx} {E : XK} {k np : Nat} {f : Addr} {fd : FuncData} {ps ks : List Str} {S : Pmx} {x : Str} {p pos : Pos} {kws : List Keyword} {tks : TDs} {is : List Nat}
def xCallK (S : Pmx) (np n : Nat) (is : List Nat) (t : TDs) : TDX := fun ρ c Φ Ξ => t ρ c fun ds c1 => ds.length = n ∧ (perm is ds).length = np ∧ okDs 0 (perm is ds) = true ∧ S (perm is ds) (fun d => Φ d c1) fun x => Ξ x c1
theorem pdx_callPK (F : FnOk X.prog X.w X.K X.mg X.base (L2.CX X.prog X.w) k f fd ps (spX X.K np S)) (hr : Room k X.A) (hm : X.mg x = some (.ref f)) (hk : PySem.W.keepIn X.K (.ref f) = true) (hb : KBn X.K fd ps 0 ks (fun _ ws => perm is ws) (fun _ ws => perm is ws)) (hx : Passes (L2.CX X.prog X.w) X E)
    (hkw : PK X kws (liftA X.K tks)) (hg : Gl X x := by rfl) (hall : (backToKw pos (keywordEach kws X.env)).all (·.1.isSome) = true := by rfl) (hks : (backToKw pos (keywordEach kws X.env)).filterMap (·.1) = ks := by rfl)
    (hdb : (x == ("__debug__" : Str)) = false := by decide)
    (hpl : ((backTo pos (starEach [] X.env)).any (·.1) || (backToKw pos (keywordEach kws X.env)).any (·.1.isNone)) = false := by rfl) :
    PDX X E (.Call (.Name x p) [] kws pos) (xCallK S np ks.length is tks) := PE.imp (pe_callN0 F hr hg hm hk hb hx hkw hall hks hdb hpl) fun σ H Q ⟨m, ρ, c, Φ, Ξ, S', h, q, qx⟩ => by
  show liftA X.K tks σ H _
  exact ⟨m, ρ, c, _, S', h, fun ds c1 vs H1 m1 ⟨hn, hl, ok, hc⟩ C1 R1 L1 => ⟨rfl, by rw [← RL.length R1]; exact hn, sp_x C1 (rl_perm R1 is) hl ok hc (KQ.le (K := X.K) q L1) (KX.le (K := X.K) qx L1)⟩⟩
end
/-! # a clause's suite: the class is known by the reading; a clause that takes nothing -/
section
variable {X : Cx} {st : List Stmt} {p : Addr × Obj} {C : Addr} {t : Addr → TSD}
def qHeld (p : Addr × Obj) (C : Addr) (t : Addr → TSD) : TSD := fun De ρ c => ∃ dd, HeldO p dd C ∧ t dd De ρ c
theorem pss_held (h : ∀ dd, HeldO p dd C → PSDs X st (t dd)) : PSDs X st (qHeld p C t) :=
  ⟨fun pins s σ H De I ⟨m, ρ, c, De', S, ⟨dd, hE, hh⟩, k⟩ => (h dd hE).run pins s σ H De I ⟨m, ρ, c, De', S, hh, k⟩⟩
end
end Cw

/-! # static methods called on their class: C.m(..), C.m(), C.m(k=..), which may raise -/
namespace Cw
open PySem PySem.Spec PyProof.Rows L2
/-- C.m is a static method: its record at p, its def at g -/
structure SMet (K : PySem.W.Frag) (C : Addr) (mc : Value) (m : Str) (p g : Addr) : Prop where
  rd : ClX.CRead K C mc
  at_ : PySem.W.findCls K (.ref C) mc m = some (.get (.builtin "staticmethod.__get__") (.ref p) .none (.ref C))
  rc : ∃ rest, PySem.W.recIn K p "staticmethod" = some (.ref g :: rest)
  kp : PySem.W.keepIn K (.ref g) = true
section
variable {X : Cx} {pins : List (Addr × Obj)} {σ : L2.St} {H : Hp} {s : Shared} {C p g : Addr} {mc : Value} {m : Str} {A : Around} {E : Value → Shared → Prop}
theorem getmethsm_ok {pl : Sem Bool} {Q : Value × List Value → Shared → Prop} (I : Inv X pins σ H s) (k : SMet X.K C mc m p g)
    (h : ∀ s', Inv X pins σ H s' → Q (.ref g, []) s') : wpAny (model X.prog X.w) A (getMethod (.ref C) m pl) Q E s := by
  obtain ⟨rest, hp⟩ := k.rc
  refine PySem.W.method_cls I.kIn k.rd.ga (PySem.W.cls_bind I.kIn k.rd.rd k.at_ (wpAny_call (PySem.W.sm_get (s := { s with toks := s.toks + 1 }) I.kIn hp (PySem.W.handed_on rfl ?_))))
  exact h _ (I.tok _)
end
/-- C.m(..) -/
def tSMeth (C : Addr) (sp : Sp) (dvs : List V) (E : XK) (ta : TE) (t : TA) : TE := fun σ H Q => ta σ H fun x H1 => x = .ref C ∧ t σ H1 fun vs H2 => sp (vs ++ dvs) H2 Q E
section
variable {X : Cx} {CX : CXT} {k : Nat} {C p g : Addr} {mc : Value} {sp : Sp} {E : XK} {o e : Expr} {es : List Expr} {m : Str} {pos apos : Pos} {ta : TE} {t tk : TA} {pl : Sem Bool} {fd : FuncData} {ps ks : List Str} {ds : List Value} {dvs : List V} {kws : List Keyword} {gg : List Value → List Value → List Value} {gV : List V → List V → List V}
theorem pe_smeth (he : PE X o ta) (c : SMet X.K C mc m p g) (F : FnOk X.prog X.w X.K X.mg X.base CX k g fd ps sp) (hr : Room k X.A) (hb : Binds X.K fd ps ds) (hd : Vals dvs ds) (hx : Passes CX X E) (ha : PA X (e :: es) t)
    (hst : starEach (e :: es) X.env = (false, eval e X.env) :: starEach es X.env := by rfl) (hpl : (backTo pos (starEach es X.env)).any (·.1) = false := by rfl)
    (ht : eval (.Call (.Attribute o m apos) (e :: es) [] pos) X.env = (do
      let ov ← eval o X.env
      standAt apos.atName
      let (f, first) ← holding [ov] (getMethod ov m pl)
      callWith pos f first (backTo pos (starEach (e :: es) X.env)) (backToKw pos (keywordEach [] X.env))) := by rfl) :
    PE X (.Call (.Attribute o m apos) (e :: es) [] pos) (tSMeth C sp dvs E ta t) := by
  refine ⟨fun pins s σ H Q I h => ?_⟩
  refine PySem.W.methodCall_KW (pl := pl) (thn (he.run pins s σ H _ I h) fun u s1 ⟨x, H1, I1, rx, ex, q⟩ => ?_) ht
  subst ex
  obtain rfl : u = Value.ref C := rx
  refine getmethsm_ok I1 c fun s2 I2 => ?_
  refine PySem.W.callWith_K (h₀ := X.base) I2.ok.mod.kin c.kp (thn (ha.run pos pins s2 σ H1 _ I2 q) fun us s3 ⟨vs, H2, I3, rv, q2⟩ => ⟨I3.kIn, ?_⟩) hst hpl
  exact run_fn F hr hb hd hx I3 rv q2
theorem pe_smeth0 (he : PE X o ta) (c : SMet X.K C mc m p g) (F : FnOk X.prog X.w X.K X.mg X.base CX k g fd ps sp) (hr : Room k X.A) (hb : Binds X.K fd ps ds) (hd : Vals dvs ds) (hx : Passes CX X E)
    (ht : eval (.Call (.Attribute o m apos) [] [] pos) X.env = (do
      let ov ← eval o X.env
      standAt apos.atName
      let (f, first) ← holding [ov] (getMethod ov m pl)
      callWith pos f first (backTo pos (starEach [] X.env)) (backToKw pos (keywordEach [] X.env))) := by rfl) :
    PE X (.Call (.Attribute o m apos) [] [] pos) (tSMeth C sp dvs E ta tNil) := by
  refine ⟨fun pins s σ H Q I h => ?_⟩
  refine PySem.W.methodCall_KW (pl := pl) (thn (he.run pins s σ H _ I h) fun u s1 ⟨x, H1, I1, rx, ex, q⟩ => ?_) ht
  subst ex
  obtain rfl : u = Value.ref C := rx
  refine getmethsm_ok I1 c fun s2 I2 => ?_
  exact PySem.W.callWith_K0 I2.kIn c.kp (run_fn (us := []) F hr hb hd hx I2 .nil q)
theorem pe_smethK (he : PE X o ta) (c : SMet X.K C mc m p g) (F : FnOk X.prog X.w X.K X.mg X.base CX k g fd ps sp) (hr : Room k X.A) (hb : KBn X.K fd ps 0 ks gg gV) (hx : Passes CX X E)
    (hkw : PK X kws tk) (hall : (backToKw pos (keywordEach kws X.env)).all (·.1.isSome) = true := by rfl) (hks : (backToKw pos (keywordEach kws X.env)).filterMap (·.1) = ks := by rfl)
    (hpl : ((backTo pos (starEach [] X.env)).any (·.1) || (backToKw pos (keywordEach kws X.env)).any (·.1.isNone)) = false := by rfl)
    (ht : eval (.Call (.Attribute o m apos) [] kws pos) X.env = (do
      let ov ← eval o X.env
      standAt apos.atName
      let (f, first) ← holding [ov] (getMethod ov m pl)
      callWith pos f first (backTo pos (starEach [] X.env)) (backToKw pos (keywordEach kws X.env))) := by rfl) :
    PE X (.Call (.Attribute o m apos) [] kws pos) (fun σ H Q => ta σ H fun x H1 => x = .ref C ∧ tk σ H1 fun ws H2 => ws.length = ks.length ∧ sp (gV [] ws) H2 Q E) := by
  refine ⟨fun pins s σ H Q I h => ?_⟩
  refine PySem.W.methodCall_KW (pl := pl) (thn (he.run pins s σ H _ I h) fun u s1 ⟨x, H1, I1, rx, ex, q⟩ => ?_) ht
  subst ex
  obtain rfl : u = Value.ref C := rx
  refine getmethsm_ok I1 c fun s2 I2 => ?_
  refine PySem.W.callWith_KW0 (h₀ := X.base) I2.ok.mod.kin c.kp hall ?_ hpl
  refine thn (hkw.run pos pins s2 σ H1 _ I2 q) fun ws s3 ⟨zs, H2, I3, rz, l2, q2⟩ => ⟨I3.kIn, ?_⟩
  rw [hks]
  exact run_fnN (us := []) (vs := []) F hr hb hx I3 .nil rz rfl l2 q2
end
/-! ### over data -/
section
variable {X : Cx} {E : XK} {CX : CXT} {k np : Nat} {C p g : Addr} {mc : Value} {fd : FuncData} {ps ks : List Str} {S : Pm} {Sx : Pmx} {x m : Str} {xp pos apos : Pos} {e : Expr} {es : List Expr} {tas tks : TDs} {pl : Sem Bool} {ds : List Value} {dd : List D} {dvs : List V} {kws : List Keyword}
/-- what a def's defaults are as data -/
def DfOk (dd : List D) (dvs : List V) : Prop := ∀ (K : PySem.W.Frag) (m : Ad) (H : Hp), RRL K H m dd dvs
theorem dfOk_nil : DfOk [] [] := fun _ _ _ => rfl
theorem dfOk_int {i : Int} : DfOk [.int i] [.int i] := fun _ _ _ => ⟨_, _, rfl, rfl, rfl⟩
def xSCall (S : Pmx) (np : Nat) (dd : List D) (t : TDs) : TDX := fun ρ c Φ Ξ => t ρ c fun ds c1 => (ds ++ dd).length = np ∧ okDs 0 (ds ++ dd) = true ∧ S (ds ++ dd) (fun d => Φ d c1) fun x => Ξ x c1
theorem pdx_smeth (hm : X.mg x = some (.ref C)) (c : SMet X.K C mc m p g) (F : FnOk X.prog X.w X.K X.mg X.base (L2.CX X.prog X.w) k g fd ps (spX X.K np Sx)) (hr : Room k X.A) (hb : Binds X.K fd ps ds) (hd : Vals dvs ds) (hdd : DfOk dd dvs) (hx : Passes (L2.CX X.prog X.w) X E)
    (ha : PDs X (e :: es) tas) (hg : Gl X x := by rfl) (hdb : (x == ("__debug__" : Str)) = false := by decide)
    (hst : starEach (e :: es) X.env = (false, eval e X.env) :: starEach es X.env := by rfl) (hpl : (backTo pos (starEach es X.env)).any (·.1) = false := by rfl)
    (ht : eval (.Call (.Attribute (.Name x xp) m apos) (e :: es) [] pos) X.env = (do
      let ov ← eval (.Name x xp) X.env
      standAt apos.atName
      let (f, first) ← holding [ov] (getMethod ov m pl)
      callWith pos f first (backTo pos (starEach (e :: es) X.env)) (backToKw pos (keywordEach [] X.env))) := by rfl) :
    PDX X E (.Call (.Attribute (.Name x xp) m apos) (e :: es) [] pos) (xSCall Sx np dd tas) := PE.imp (pe_smeth (pe_glob (v := .ref C) hg hm rfl hdb) c F hr hb hd hx ha hst hpl ht) fun σ H Q ⟨m, ρ, c, Φ, Ξ, S', h, q, qx⟩ =>
    ⟨rfl, m, ρ, c, _, S', h, fun ds c1 vs H1 m1 ⟨hl, ok, hc⟩ C1 R1 L1 => sp_x C1 (R1.append (hdd _ _ _)) hl ok hc (KQ.le (K := X.K) q L1) (KX.le (K := X.K) qx L1)⟩
theorem pdx_smeth0 (hm : X.mg x = some (.ref C)) (c : SMet X.K C mc m p g) (F : FnOk X.prog X.w X.K X.mg X.base (L2.CX X.prog X.w) k g fd ps (spX X.K np Sx)) (hr : Room k X.A) (hb : Binds X.K fd ps ds) (hd : Vals dvs ds) (hdd : DfOk dd dvs) (hx : Passes (L2.CX X.prog X.w) X E)
    (hg : Gl X x := by rfl) (hdb : (x == ("__debug__" : Str)) = false := by decide)
    (ht : eval (.Call (.Attribute (.Name x xp) m apos) [] [] pos) X.env = (do
      let ov ← eval (.Name x xp) X.env
      standAt apos.atName
      let (f, first) ← holding [ov] (getMethod ov m pl)
      callWith pos f first (backTo pos (starEach [] X.env)) (backToKw pos (keywordEach [] X.env))) := by rfl) :
    PDX X E (.Call (.Attribute (.Name x xp) m apos) [] [] pos) (fun ρ c Φ Ξ => dd.length = np ∧ okDs 0 dd = true ∧ Sx dd (fun d => Φ d c) fun x => Ξ x c) := PE.imp (pe_smeth0 (pe_glob (v := .ref C) hg hm rfl hdb) c F hr hb hd hx ht) fun σ H Q ⟨m, ρ, c, Φ, Ξ, S', ⟨hl, ok, hc⟩, q, qx⟩ =>
    ⟨rfl, sp_x S'.cr (hdd _ _ _) hl ok hc q qx⟩
theorem pdx_smethK {is : List Nat} (hm : X.mg x = some (.ref C)) (c : SMet X.K C mc m p g) (F : FnOk X.prog X.w X.K X.mg X.base (L2.CX X.prog X.w) k g fd ps (spX X.K np Sx)) (hr : Room k X.A) (hb : KBn X.K fd ps 0 ks (fun _ ws => perm is ws) (fun _ ws => perm is ws)) (hx : Passes (L2.CX X.prog X.w) X E)
    (hkw : PK X kws (liftA X.K tks)) (hg : Gl X x := by rfl) (hdb : (x == ("__debug__" : Str)) = false := by decide) (hall : (backToKw pos (keywordEach kws X.env)).all (·.1.isSome) = true := by rfl) (hks : (backToKw pos (keywordEach kws X.env)).filterMap (·.1) = ks := by rfl)
    (hpl : ((backTo pos (starEach [] X.env)).any (·.1) || (backToKw pos (keywordEach kws X.env)).any (·.1.isNone)) = false := by rfl)
    (ht : eval (.Call (.Attribute (.Name x xp) m apos) [] kws pos) X.env = (do
      let ov ← eval (.Name x xp) X.env
      standAt apos.atName
      let (f, first) ← holding [ov] (getMethod ov m pl)
      callWith pos f first (backTo pos (starEach [] X.env)) (backToKw pos (keywordEach kws X.env))) := by rfl) :
    PDX X E (.Call (.Attribute (.Name x xp) m apos) [] kws pos) (xCallK Sx np ks.length is tks) := PE.imp (pe_smethK (pe_glob (v := .ref C) hg hm rfl hdb) c F hr hb hx hkw hall hks hpl ht) fun σ H Q ⟨m, ρ, c, Φ, Ξ, S', h, q, qx⟩ =>
    ⟨rfl, m, ρ, c, _, S', h, fun ds c1 vs H1 m1 ⟨hn, hl, ok, hc⟩ C1 R1 L1 => ⟨by rw [← RL.length R1]; exact hn, sp_x C1 (rl_perm R1 is) hl ok hc (KQ.le (K := X.K) q L1) (KX.le (K := X.K) qx L1)⟩⟩
end
end Cw

/-! # f'{n:+d}', f'{a}{b} c', static methods that raise nothing -/
namespace Cw
open PySem PySem.Spec PyProof.Rows L2 PySem.W
def plusT (n : Int) : Str := if n < 0 then toString n else "+" ++ toString n
theorem fmt_plus {n : Int} (h : -9 ≤ n ∧ n ≤ 9) (h0 : n ≠ 0) (t : Tok) : ∀ u, Meets (Builtin.«int.__format__» ⟨[.int n t, .str "+d" u], []⟩) (fun _ R s => ∀ t' k, R (.ok (.ret (.str (plusT n) t'))) { s with toks := k }) := by
  have e : n = -9 ∨ n = -8 ∨ n = -7 ∨ n = -6 ∨ n = -5 ∨ n = -4 ∨ n = -3 ∨ n = -2 ∨ n = -1 ∨ n = 1 ∨ n = 2 ∨ n = 3 ∨ n = 4 ∨ n = 5 ∨ n = 6 ∨ n = 7 ∨ n = 8 ∨ n = 9 := by omega
  rcases e with rfl | rfl | rfl | rfl | rfl | rfl | rfl | rfl | rfl | rfl | rfl | rfl | rfl | rfl | rfl | rfl | rfl | rfl
  · rw [show plusT (-9) = "-9" by decide +kernel]; kxf_run_i
  · rw [show plusT (-8) = "-8" by decide +kernel]; kxf_run_i
  · rw [show plusT (-7) = "-7" by decide +kernel]; kxf_run_i
  · rw [show plusT (-6) = "-6" by decide +kernel]; kxf_run_i
  · rw [show plusT (-5) = "-5" by decide +kernel]; kxf_run_i
  · rw [show plusT (-4) = "-4" by decide +kernel]; kxf_run_i
  · rw [show plusT (-3) = "-3" by decide +kernel]; kxf_run_i
  · rw [show plusT (-2) = "-2" by decide +kernel]; kxf_run_i
  · rw [show plusT (-1) = "-1" by decide +kernel]; kxf_run_i
  · rw [show plusT 1 = "+1" by decide +kernel]; kxf_run_i
  · rw [show plusT 2 = "+2" by decide +kernel]; kxf_run_i
  · rw [show plusT 3 = "+3" by decide +kernel]; kxf_run_i
  · rw [show plusT 4 = "+4" by decide +kernel]; kxf_run_i
  · rw [show plusT 5 = "+5" by decide +kernel]; kxf_run_i
  · rw [show plusT 6 = "+6" by decide +kernel]; kxf_run_i
  · rw [show plusT 7 = "+7" by decide +kernel]; kxf_run_i
  · rw [show plusT 8 = "+8" by decide +kernel]; kxf_run_i
  · rw [show plusT 9 = "+9" by decide +kernel]; kxf_run_i
section
variable {X : Cx} {a b : Expr} {ta tb : TD} {pos : Pos}
def tFmtP (te : TE) : TE := fun σ H Q => te σ H fun x H1 => ∃ n : Int, x = .int n ∧ (-9 ≤ n ∧ n ≤ 9) ∧ n ≠ 0 ∧ Q (.str (plusT n)) H1
theorem pe_fmtP {te : TE} {k1 : Nat} {p1 p2 : Pos} (he : PE X a te) : PE X (.FormattedValue a (-1) (some (.JoinedStr [.Constant (.str "+d") k1 p1] p2)) pos) (tFmtP te) := by
  refine ⟨fun pins s σ H Q I h => ?_⟩
  refine wpAny_FormattedValue_spec (thn (he.run pins s σ H _ I h) fun v s1 hv => ?_)
  obtain ⟨x, H1, I1, r1, n, rfl, hn, h0, q⟩ := hv
  obtain ⟨t, rfl⟩ := r1
  have j : PE X (.JoinedStr [.Constant (.str "+d") k1 p1] p2) (tC (.str "+d")) := pe_joined1 pe_str
  refine thn (j.run pins s1 σ H1 (fun y H2 => y = .str "+d" ∧ Q (.str (plusT n)) H2) I1 ⟨rfl, q⟩) fun r s2 hr => ?_
  obtain ⟨y, H2, I2, r2, rfl, q2⟩ := hr
  obtain ⟨t2, rfl⟩ := r2
  exact ⟨"+d", t2, rfl, KXf.field_int rfl (by decide) (by decide) (fmt_plus hn h0 t) fun t' k => ⟨.str (plusT n), H2, I2.tok _, ⟨_, rfl⟩, q2⟩⟩
/-- f'{n:+d}' -/
def dFmtP (ta : TD) : TD := fun ρ c Φ => ta ρ c fun x c1 => ∃ n : Int, x = .int n ∧ (-9 ≤ n ∧ n ≤ 9) ∧ n ≠ 0 ∧ Φ (.str (plusT n)) c1
theorem pd_fmtP {k1 : Nat} {p1 p2 p3 : Pos} (ha : PD X a ta) : PD X (.JoinedStr [.FormattedValue a (-1) (some (.JoinedStr [.Constant (.str "+d") k1 p1] p2)) p3] pos) (dFmtP ta) :=
  PE.imp (pe_joined1 (pe_fmtP ha)) fun σ H Q ⟨m, ρ, c, Φ, S, h, q⟩ =>
    ⟨m, ρ, c, _, S, h, fun x c1 u H1 m1 ⟨n, e, hn, h0, hΦ⟩ C1 R1 L1 => by
      subst e
      obtain rfl : u = V.int n := R1
      exact ⟨n, rfl, hn, h0, q (.str (plusT n)) c1 _ H1 m1 hΦ C1 rfl L1⟩⟩
/-- f'{a}{b} c' -/
def dFs2c (z : Str) (ta tb : TD) : TD := fun ρ c Φ => ta ρ c fun x c1 => ∃ a, fmtS x = some a ∧ a.length ≤ sizeLine ∧ tb ρ c1 fun y c2 => ∃ b, fmtS y = some b ∧ a.length + b.length + z.length ≤ sizeLine ∧ Φ (.str (a ++ b ++ z)) c2
theorem pd_fs2c {z : Str} {k3 : Nat} {p1 p2 p3 : Pos} (ha : PD X a ta) (hb : PD X b tb) : PD X (.JoinedStr [.FormattedValue a (-1) none p1, .FormattedValue b (-1) none p2, .Constant (.str z) k3 p3] pos) (dFs2c z ta tb) :=
  PE.imp (pe_joined (.cons (pe_fmt ha) (.cons (pe_fmt hb) (.cons pe_str .nil)))) fun σ H Q ⟨m, ρ, c, Φ, S, h, q⟩ =>
    ⟨m, ρ, c, _, S, h, fun x c1 u H1 m1 ⟨xa, ea, la, hx⟩ C1 R1 L1 => fmt_lift (Q := fun v H' => ∃ y : Str, v = .str y ∧ (Str.empty ++ y).length ≤ sizeLine ∧ tJs [tFmt (lift X.K tb), tC (.str z)] (Str.empty ++ y) σ H' fun out H1 => Q (.str out) H1) ea R1
      ⟨xa, rfl, by rw [str_nil_app]; exact la, m1, ρ, c1, _, S.step L1 C1, hx, fun y c2 v H2 m2 ⟨xb, eb, lb, hy⟩ C2 R2 L2 => fmt_lift (Q := fun v H' => ∃ y : Str, v = .str y ∧ (Str.empty ++ xa ++ y).length ≤ sizeLine ∧ tJs [tC (.str z)] (Str.empty ++ xa ++ y) σ H' fun out H1 => Q (.str out) H1) eb R2
        ⟨xb, rfl, by rw [str_nil_app, Str.length_append]; omega, z, rfl, by rw [str_nil_app, Str.length_append, Str.length_append]; exact lb, by
          show Q (.str (Str.empty ++ xa ++ xb ++ z)) H2
          rw [str_nil_app]
          exact q (.str (xa ++ xb ++ z)) c2 _ H2 m2 hy C2 rfl (L1.trans L2)⟩⟩⟩
end
/-! ### static methods that raise nothing -/
section
variable {X : Cx} {E : XK} {CX : CXT} {k np : Nat} {C p g : Addr} {mc : Value} {fd : FuncData} {ps ks : List Str} {S : Pm} {x m : Str} {xp pos apos : Pos} {e : Expr} {es : List Expr} {tas tks : TDs} {pl : Sem Bool} {ds : List Value} {dd : List D} {dvs : List V} {kws : List Keyword}
def dSCall (S : Pm) (np : Nat) (dd : List D) (t : TDs) : TD := fun ρ c Φ => t ρ c fun ds c1 => (ds ++ dd).length = np ∧ callP S (ds ++ dd) c1 Φ
theorem pd_smeth (hm : X.mg x = some (.ref C)) (c : SMet X.K C mc m p g) (F : FnOk X.prog X.w X.K X.mg X.base CX k g fd ps (spD X.K 0 np S)) (hr : Room k X.A) (hb : Binds X.K fd ps ds) (hd : Vals dvs ds) (hdd : DfOk dd dvs) (hx : Passes CX X E)
    (ha : PDs X (e :: es) tas) (hg : Gl X x := by rfl) (hdb : (x == ("__debug__" : Str)) = false := by decide)
    (hst : starEach (e :: es) X.env = (false, eval e X.env) :: starEach es X.env := by rfl) (hpl : (backTo pos (starEach es X.env)).any (·.1) = false := by rfl)
    (ht : eval (.Call (.Attribute (.Name x xp) m apos) (e :: es) [] pos) X.env = (do
      let ov ← eval (.Name x xp) X.env
      standAt apos.atName
      let (f, first) ← holding [ov] (getMethod ov m pl)
      callWith pos f first (backTo pos (starEach (e :: es) X.env)) (backToKw pos (keywordEach [] X.env))) := by rfl) :
    PD X (.Call (.Attribute (.Name x xp) m apos) (e :: es) [] pos) (dSCall S np dd tas) := PE.imp (pe_smeth (pe_glob (v := .ref C) hg hm rfl hdb) c F hr hb hd hx ha hst hpl ht) fun σ H Q ⟨m, ρ, c, Φ, S', h, q⟩ =>
    ⟨rfl, m, ρ, c, _, S', h, fun ds c1 vs H1 m1 ⟨hl, hc⟩ C1 R1 L1 => sp_pure C1 (R1.append (hdd _ _ _)) hl hc (KQ.le (K := X.K) q L1)⟩
theorem pd_smeth0 (hm : X.mg x = some (.ref C)) (c : SMet X.K C mc m p g) (F : FnOk X.prog X.w X.K X.mg X.base CX k g fd ps (spD X.K 0 np S)) (hr : Room k X.A) (hb : Binds X.K fd ps ds) (hd : Vals dvs ds) (hdd : DfOk dd dvs) (hx : Passes CX X E)
    (hg : Gl X x := by rfl) (hdb : (x == ("__debug__" : Str)) = false := by decide)
    (ht : eval (.Call (.Attribute (.Name x xp) m apos) [] [] pos) X.env = (do
      let ov ← eval (.Name x xp) X.env
      standAt apos.atName
      let (f, first) ← holding [ov] (getMethod ov m pl)
      callWith pos f first (backTo pos (starEach [] X.env)) (backToKw pos (keywordEach [] X.env))) := by rfl) :
    PD X (.Call (.Attribute (.Name x xp) m apos) [] [] pos) (fun ρ c Φ => dd.length = np ∧ callP S dd c Φ) := PE.imp (pe_smeth0 (pe_glob (v := .ref C) hg hm rfl hdb) c F hr hb hd hx ht) fun σ H Q ⟨m, ρ, c, Φ, S', ⟨hl, hc⟩, q⟩ =>
    ⟨rfl, sp_pure (E := E) S'.cr (hdd _ _ _) hl hc q⟩
theorem pd_smethK {is : List Nat} (hm : X.mg x = some (.ref C)) (c : SMet X.K C mc m p g) (F : FnOk X.prog X.w X.K X.mg X.base CX k g fd ps (spD X.K 0 np S)) (hr : Room k X.A) (hb : KBn X.K fd ps 0 ks (fun _ ws => perm is ws) (fun _ ws => perm is ws)) (hx : Passes CX X E)
    (hkw : PK X kws (liftA X.K tks)) (hg : Gl X x := by rfl) (hdb : (x == ("__debug__" : Str)) = false := by decide) (hall : (backToKw pos (keywordEach kws X.env)).all (·.1.isSome) = true := by rfl) (hks : (backToKw pos (keywordEach kws X.env)).filterMap (·.1) = ks := by rfl)
    (hpl : ((backTo pos (starEach [] X.env)).any (·.1) || (backToKw pos (keywordEach kws X.env)).any (·.1.isNone)) = false := by rfl)
    (ht : eval (.Call (.Attribute (.Name x xp) m apos) [] kws pos) X.env = (do
      let ov ← eval (.Name x xp) X.env
      standAt apos.atName
      let (f, first) ← holding [ov] (getMethod ov m pl)
      callWith pos f first (backTo pos (starEach [] X.env)) (backToKw pos (keywordEach kws X.env))) := by rfl) :
    PD X (.Call (.Attribute (.Name x xp) m apos) [] kws pos) (dCallPK S np ks.length is tks) := PE.imp (pe_smethK (pe_glob (v := .ref C) hg hm rfl hdb) c F hr hb hx hkw hall hks hpl ht) fun σ H Q ⟨m, ρ, c, Φ, S', h, q⟩ =>
    ⟨rfl, m, ρ, c, _, S', h, fun ds c1 vs H1 m1 ⟨hn, hl, hc⟩ C1 R1 L1 => ⟨by rw [← RL.length R1]; exact hn, sp_pure C1 (rl_perm R1 is) hl hc (KQ.le (K := X.K) q L1)⟩⟩
end
end Cw

/-! # repr of data with dicts in it -/
namespace Cw
open PySem PySem.Spec PyProof.Rows L2
def keyPy : Key → PyData
  | .inl i => .int i
  | .inr x => .str x
mutual
inductive DpG (K : PySem.W.Frag) (H : Hp) : V → PyData → Prop
  | non : DpG K H .non .none
  | bl (b : Bool) : DpG K H (.bl b) (.bool b)
  | int (i : Int) : DpG K H (.int i) (.int i)
  | str (x : Str) : DpG K H (.str x) (.str x)
  | lst {a : Addr} {xs : List V} {ds : List PyData} (h : SqL K H a xs) (r : DpGs K H xs ds) : DpG K H (.ref a) (.list ds)
  | tup {a : Addr} {xs : List V} {ds : List PyData} (h : SqT K H a xs) (r : DpGs K H xs ds) : DpG K H (.ref a) (.tuple ds)
  | dct {a : Addr} {kvs : List (Key × V)} {ps : List (PyData × PyData)} (h : Rd H a (.dK kvs)) (hk : ps.map (·.1) = kvs.map fun kv => keyPy kv.1) (r : DpGs K H (kvs.map (·.2)) (ps.map (·.2))) : DpG K H (.ref a) (.dict ps)
inductive DpGs (K : PySem.W.Frag) (H : Hp) : List V → List PyData → Prop
  | nil : DpGs K H [] []
  | cons {v : V} {vs : List V} {d : PyData} {ds : List PyData} (h : DpG K H v d) (r : DpGs K H vs ds) : DpGs K H (v :: vs) (d :: ds)
end
/-- what is known of a value that is shown -/
def Shw (P : Program) (w : World) (h : Heap) (u : Value) (d : PyData) : Prop := ∃ as bs, Reads h u d as ∧ ReadAtMost h d.depth bs ∧ ReprK P w bs h d.depth u d.shown
def Shws (P : Program) (w : World) (h : Heap) (us : List Value) (ds : List PyData) : Prop := ∃ as bs, ReadsAll h us ds as ∧ ReadAtMost h (PyData.depthAll ds) bs ∧ ReprAllK P w bs h (PyData.depthAll ds) us (PyData.shownAll ds)
section
variable {P : Program} {w : World} {h : Heap}
theorem shw_plain {u : Value} {d : PyData} {as : List Addr} (r : Reads h u d as) (i : ReprIs P w u d.shown) : Shw P w h u d :=
  ⟨as, [], r, (fun _ z => nomatch z), .of_is i _ _ _⟩
theorem shws_cons {u : Value} {us : List Value} {d : PyData} {ds : List PyData} : Shw P w h u d → Shws P w h us ds → Shws P w h (u :: us) (d :: ds) := by
  rintro ⟨a1, b1, r1, m1, k1⟩ ⟨a2, b2, r2, m2, k2⟩
  have l1 : d.depth ≤ PyData.depthAll (d :: ds) := by rw [PyData.depthAll]; exact Nat.le_max_left _ _
  have l2 : PyData.depthAll ds ≤ PyData.depthAll (d :: ds) := by rw [PyData.depthAll]; exact Nat.le_max_right _ _
  refine ⟨a1 ++ a2, b1 ++ b2, .cons r1 r2, (m1.mono l1).append (m2.mono l2), ?_⟩
  have e : PyData.shownAll (d :: ds) = d.shown :: PyData.shownAll ds := by rw [PyData.shownAll]
  rw [e]
  exact .cons ((k1.more fun _ z => List.mem_append_left _ z).level_le l1) (k2.more_le (fun _ z => List.mem_append_right _ z) l2)
theorem shws_nil : Shws P w h [] [] := ⟨[], [], .nil, (fun _ z => nomatch z), by rw [PyData.shownAll]; exact .nil⟩
theorem keys_reads (hz : ∀ x : Str, (reprText x).length ≤ sizeLine → True) : ∀ {es : List DictEntry} {vs : List (Key × Value)}, Pairs (mixKind P w) es vs →
    PyData.showableAll (vs.map fun q => keyPy q.1) = true → (∀ t ∈ PyData.shownAll (vs.map fun q => keyPy q.1), t.length ≤ sizeLine) →
    Shws P w h (es.map (·.key)) (vs.map fun q => keyPy q.1) ∧ es.map (·.val) = vs.map (·.2)
  | _, _, .nil, _, _ => ⟨shws_nil, rfl⟩
  | _, _, .cons (e := e) (kv := kv) (es := es) (kvs := kvs) hk hv r, hs, hl => by
    have hs' : (keyPy kv.1).showable = true ∧ PyData.showableAll (kvs.map fun q => keyPy q.1) = true := by simpa [PyData.showableAll] using hs
    have hl' : ∀ t ∈ (keyPy kv.1).shown :: PyData.shownAll (kvs.map fun q => keyPy q.1), t.length ≤ sizeLine := fun t ht => hl t (by
      rw [List.map_cons, PyData.shownAll]; exact ht)
    obtain ⟨i1, i2⟩ := keys_reads hz r hs'.2 fun t ht => hl' t (List.mem_cons_of_mem _ ht)
    have one : Shw P w h e.key (keyPy kv.1) := by
      have q1 := hs'.1
      have q2 := hl' _ List.mem_cons_self
      rcases keyIs_shape hk with ⟨i, t, e1, e2⟩ | ⟨x, t, e1, e2⟩
      · rw [e2]
        rw [e1] at q1 ⊢
        refine shw_plain (Reads.int i t) ?_
        rw [show (keyPy (Sum.inl i)).shown = toString i from PyData.shown_int i]
        exact ReprIs.int t (of_decide_eq_true q1)
      · rw [e2]
        rw [e1] at q2 ⊢
        refine shw_plain (Reads.str x t) ?_
        rw [show (keyPy (Sum.inr x)).shown = reprText x from PyData.shown_str x] at q2 ⊢
        exact ReprIs.str x t q2
    exact ⟨shws_cons one i1, by rw [List.map_cons, List.map_cons, i2, hv]⟩
end
section
variable {X : Cx} {pins : List (Addr × Obj)} {σ : L2.St} {H : Hp} {s : Shared}
/-- the three kinds of rows, above what is known of their parts -/
theorem shw_list {a : Addr} {o : Obj} {its : List Value} {n : Nat} {ds : List PyData} {P : Program} {w : World} {h : Heap} (e1 : h.get? a = some o) (e2 : o.cls = .type "list") (e3 : o.data = .seq its.toArray n) (z : Shws P w h its ds) : Shw P w h (.ref a) (.list ds) := by
  obtain ⟨as, bs, r, m, k⟩ := z
  have rr : Reads h (.ref a) (.list ds) (a :: as) := .list e1 e2 e3 r
  have lt : PyData.depthAll ds < (PyData.list ds).depth := by rw [PyData.depth]; exact Nat.lt_succ_self _
  refine ⟨_, a :: bs, rr, .cons rr (Nat.le_of_lt lt) m, ?_⟩
  have es : (PyData.list ds).shown = listText (PyData.shownAll ds) := by rw [PyData.shown]
  have ed : (PyData.list ds).depth = PyData.depthAll ds + 1 := by rw [PyData.depth]
  have nin := not_mem_of_deeper rr lt m
  rw [es, ed]
  cases its with
  | nil =>
    cases r
    rw [show listText (PyData.shownAll []) = "[]" by rw [PyData.shownAll]; rfl]
    exact ReprK.listEmpty e1 e2 e3
  | cons x l => exact ReprK.list e1 e2 e3 nin (by have := k.length_eq; simpa using this) fun i y e => k.item i y (by simpa using e)
theorem shw_tup {a : Addr} {o : Obj} {its : List Value} {n : Nat} {ds : List PyData} {P : Program} {w : World} {h : Heap} (e1 : h.get? a = some o) (e2 : o.cls = .type "tuple") (e3 : o.data = .seq its.toArray n) (z : Shws P w h its ds) : Shw P w h (.ref a) (.tuple ds) := by
  obtain ⟨as, bs, r, m, k⟩ := z
  have rr : Reads h (.ref a) (.tuple ds) as := .tuple e1 e2 e3 r
  have lt : PyData.depthAll ds < (PyData.tuple ds).depth := by rw [PyData.depth]; exact Nat.lt_succ_self _
  refine ⟨_, a :: bs, rr, .cons rr (Nat.le_of_lt lt) m, ?_⟩
  have es : (PyData.tuple ds).shown = tupleText (PyData.shownAll ds) := by rw [PyData.shown]
  have ed : (PyData.tuple ds).depth = PyData.depthAll ds + 1 := by rw [PyData.depth]
  have nin := not_mem_of_deeper rr lt m
  rw [es, ed]
  exact ReprK.tuple e1 e2 e3 nin k
theorem shw_dct {a : Addr} {o : Obj} {es : Array DictEntry} {n : Nat} {ps : List (PyData × PyData)} {P : Program} {w : World} {h : Heap} (e1 : h.get? a = some o) (e2 : o.cls = .type "dict") (e3 : o.data = .dict es n) (hs : (a == sysModules) = false)
    (z1 : Shws P w h (es.toList.map (·.key)) (ps.map (·.1))) (z2 : Shws P w h (es.toList.map (·.val)) (ps.map (·.2))) : Shw P w h (.ref a) (.dict ps) := by
  obtain ⟨as, bs, r, m, k⟩ := z1
  obtain ⟨cs, ds, r2, m2, k2⟩ := z2
  have rr : Reads h (.ref a) (.dict ps) (a :: as ++ cs) := .dict e1 e2 e3 r r2
  have q1 := PyData.depthAll_keys_le ps
  have q2 := PyData.depthAll_vals_le ps
  have lt : PyData.depthKv ps < (PyData.dict ps).depth := by rw [PyData.depth]; exact Nat.lt_succ_self _
  have mm := (m.mono q1).append (m2.mono q2)
  refine ⟨_, a :: (bs ++ ds), rr, .cons rr (Nat.le_of_lt lt) mm, ?_⟩
  have es' : (PyData.dict ps).shown = dictText (PyData.shownKv ps) := by rw [PyData.shown]
  have ed : (PyData.dict ps).depth = PyData.depthKv ps + 1 := by rw [PyData.depth]
  have nin := not_mem_of_deeper rr lt mm
  rw [es', ed, PyData.shownKv_eq]
  refine ReprK.dict e1 e2 e3 hs nin (ReprEntriesK.of_two _ _ _ ?_ ?_)
  · exact k.more_le (fun _ z => List.mem_append_left _ z) q1
  · exact k2.more_le (fun _ z => List.mem_append_right _ z) q2
theorem kv_keys : ∀ {kvs : List (Key × V)} {vs : List (Key × Value)}, KV kvs vs → (vs.map fun q => keyPy q.1) = kvs.map fun kv => keyPy kv.1
  | _, _, .nil => rfl
  | _, _, .cons h r => by rw [List.map_cons, List.map_cons, kv_keys r, h.1]
theorem kv_vals : ∀ {kvs : List (Key × V)} {vs : List (Key × Value)}, KV kvs vs → Vals (kvs.map (·.2)) (vs.map (·.2))
  | _, _, .nil => .nil
  | _, _, .cons h r => .cons h.2 (kv_vals r)
theorem size_vals : ∀ ps : List (PyData × PyData), sizeOf (ps.map (·.2)) ≤ sizeOf ps
  | [] => Nat.le_refl _
  | (k, v) :: r => by
    have := size_vals r
    simp only [List.map_cons, List.cons.sizeOf_spec, Prod.mk.sizeOf_spec]
    omega
mutual
theorem DpG.shw (I : Inv X pins σ H s) : ∀ (d : PyData) (v : V) (u : Value), DpG X.K H v d → RelV v u → d.showable = true → d.shown.length ≤ sizeLine → Shw X.prog X.w s.heap u d
  | .none, _, _, h, r, _, _ => by
    cases h; cases r
    exact shw_plain Reads.none (by rw [PyData.shown_none]; exact ReprIs.none)
  | .bool b, _, _, h, r, _, _ => by
    cases h; cases r
    exact shw_plain (Reads.bool b) (by rw [PyData.shown_bool]; exact ReprIs.bool b)
  | .int i, _, _, h, r, q, _ => by
    cases h
    obtain ⟨t, rfl⟩ := r
    exact shw_plain (Reads.int i t) (by rw [PyData.shown_int]; exact ReprIs.int t (of_decide_eq_true q))
  | .str x, _, _, h, r, _, z => by
    cases h
    obtain ⟨t, rfl⟩ := r
    rw [PyData.shown_str] at z
    exact shw_plain (Reads.str x t) (by rw [PyData.shown_str]; exact ReprIs.str x t z)
  | .list ds, _, _, h, r, q, z => by
    cases h with
    | lst hh ha =>
      cases r
      obtain ⟨its, rv, ⟨o, n, ho, hc, _, hd⟩, _⟩ := I.list hh
      have z : (listText (PyData.shownAll ds)).length ≤ sizeLine := by rw [PyData.shown] at z; exact z
      exact shw_list ho hc hd (DpG.shws I ds _ its ha rv (by simpa [PyData.showable] using q) fun t ht => Nat.le_trans (listText_mem_le ht) z)
  | .tuple ds, _, _, h, r, q, z => by
    cases h with
    | tup hh ha =>
      cases r
      obtain ⟨its, rv, ⟨o, ho, hc, n, hd⟩, _⟩ := I.tuple hh
      have z : (tupleText (PyData.shownAll ds)).length ≤ sizeLine := by rw [PyData.shown] at z; exact z
      exact shw_tup ho hc hd (DpG.shws I ds _ its ha rv (by simpa [PyData.showable] using q) fun t ht => Nat.le_trans (tupleText_mem_le ht) z)
  | .dict ps, _, _, h, r, q, z => by
    cases h with
    | dct hh hk ha =>
      rename_i a kvs
      cases r
      obtain ⟨_, hsys, vs, kv, o, es, ep, ho, hx, hdat, _, hp, _⟩ := dk_rd I.hok hh
      have z : (dictText (PyData.shownKv ps)).length ≤ sizeLine := by rw [PyData.shown] at z; exact z
      obtain ⟨q1, q2⟩ := PyData.showableKv_split ps (by simpa [PyData.showable] using q)
      have ek : (vs.map fun q => keyPy q.1) = ps.map (·.1) := by rw [hk]; exact kv_keys kv
      have rv : Vals (kvs.map (·.2)) (vs.map (·.2)) := kv_vals kv
      obtain ⟨k1, k2⟩ := keys_reads (h := s.heap) (P := X.prog) (w := X.w) (fun _ _ => True.intro) hp (by rw [ek]; exact q1) (by
        rw [ek]
        intro t ht
        obtain ⟨p, hp, hl⟩ := PyData.shownKv_key_le ps t ht
        exact Nat.le_trans hl (Nat.le_trans (dictText_mem_le hp) z))
      rw [ek] at k1
      refine shw_dct ho hx.1 hdat hsys k1 ?_
      rw [k2]
      refine DpG.shws I (ps.map (·.2)) _ _ ha rv q2 fun t ht => ?_
      obtain ⟨p, hp, hl⟩ := PyData.shownKv_val_le ps t ht
      exact Nat.le_trans hl (Nat.le_trans (dictText_mem_le hp) z)
  termination_by d => sizeOf d
  decreasing_by all_goals (first | (simp only [PyData.list.sizeOf_spec, PyData.tuple.sizeOf_spec, List.cons.sizeOf_spec]; omega) | (have := size_vals ps; simp only [PyData.dict.sizeOf_spec]; omega))
theorem DpG.shws (I : Inv X pins σ H s) : ∀ (ds : List PyData) (vs : List V) (us : List Value), DpGs X.K H vs ds → Vals vs us → PyData.showableAll ds = true → (∀ t ∈ PyData.shownAll ds, t.length ≤ sizeLine) → Shws X.prog X.w s.heap us ds
  | [], _, _, h, r, _, _ => by
    cases h; cases r
    exact shws_nil
  | d :: ds, _, _, h, r, q, z => by
    cases h with
    | cons h1 h2 =>
      cases r with
      | cons r1 r2 =>
        have q' : d.showable = true ∧ PyData.showableAll ds = true := by simpa [PyData.showableAll] using q
        have z' : ∀ t ∈ d.shown :: PyData.shownAll ds, t.length ≤ sizeLine := fun t ht => z t (by rw [PyData.shownAll]; exact ht)
        exact shws_cons (DpG.shw I d _ _ h1 r1 q'.1 (z' _ List.mem_cons_self)) (DpG.shws I ds _ _ h2 r2 q'.2 fun t ht => z' t (List.mem_cons_of_mem _ ht))
  termination_by ds => sizeOf ds
  decreasing_by all_goals (first | (simp only [PyData.list.sizeOf_spec, PyData.tuple.sizeOf_spec, List.cons.sizeOf_spec]; omega) | (have := size_vals ps; simp only [PyData.dict.sizeOf_spec]; omega))
end
end
section
variable {A : Around} {E : Value → Shared → Prop} {s : Shared} {Q : Value → Shared → Prop} {P : Program} {w : World}
theorem top_list {a : Addr} {o : Obj} {its : List Value} {n : Nat} {ds : List PyData} (e1 : s.heap.get? a = some o) (e2 : o.cls = .type "list") (e3 : o.data = .seq its.toArray n) (z : Shws P w s.heap its ds)
    (hg : A.guards = some []) (hu : A.units + ((PyData.list ds).depth + 1) < cLine) (hz : (PyData.list ds).shown.length ≤ sizeLine)
    (hQ : ∀ h' u tk, (∀ b o, s.heap.get? b = some o → h'.get? b = some o) → Q (.str (PyData.list ds).shown u) { s with heap := h', toks := tk }) : wpAny (model P w) A (call (.builtin "repr") [.ref a]) Q E s := by
  obtain ⟨as, bs, r, m, k⟩ := z
  have rr : Reads s.heap (.ref a) (.list ds) (a :: as) := .list e1 e2 e3 r
  have lt : PyData.depthAll ds < (PyData.list ds).depth := by rw [PyData.depth]; exact Nat.lt_succ_self _
  have es : (PyData.list ds).shown = listText (PyData.shownAll ds) := by rw [PyData.shown]
  have ed : (PyData.list ds).depth = PyData.depthAll ds + 1 := by rw [PyData.depth]
  have nin := not_mem_of_deeper rr lt m
  rw [es] at hQ hz
  rw [ed] at hu
  refine call_repr_slot (by omega) ⟨o, e1, e2⟩ F.slot_list_repr.toG ?_
  cases its with
  | nil =>
    cases r
    refine call_list_repr_empty ⟨o, e1, e2⟩ e1 e3 ⟨_, _, rfl, ?_⟩
    have := hQ s.heap s.toks (s.toks + 1) fun _ _ e => e
    rw [show listText (PyData.shownAll []) = "[]" by rw [PyData.shownAll]; rfl] at this
    exact this
  | cons x l =>
    exact call_list_reprK e1 e2 e3 nin (by have := k.length_eq; simpa using this) (fun i y e => k.item i y (by simpa using e)) hg (fun b _ => Clear.nil b) (by show A.units + 1 + (PyData.depthAll ds + 1) < cLine; omega) (fun _ _ e => e) (fun h' u tk hk => ⟨_, _, rfl, hQ h' u tk hk⟩) hz
theorem top_tup {a : Addr} {o : Obj} {its : List Value} {n : Nat} {ds : List PyData} (e1 : s.heap.get? a = some o) (e2 : o.cls = .type "tuple") (e3 : o.data = .seq its.toArray n) (z : Shws P w s.heap its ds)
    (hg : A.guards = some []) (hu : A.units + ((PyData.tuple ds).depth + 1) < cLine) (hz : (PyData.tuple ds).shown.length ≤ sizeLine)
    (hQ : ∀ h' u tk, (∀ b o, s.heap.get? b = some o → h'.get? b = some o) → Q (.str (PyData.tuple ds).shown u) { s with heap := h', toks := tk }) : wpAny (model P w) A (call (.builtin "repr") [.ref a]) Q E s := by
  obtain ⟨as, bs, r, m, k⟩ := z
  have rr : Reads s.heap (.ref a) (.tuple ds) as := .tuple e1 e2 e3 r
  have lt : PyData.depthAll ds < (PyData.tuple ds).depth := by rw [PyData.depth]; exact Nat.lt_succ_self _
  have es : (PyData.tuple ds).shown = tupleText (PyData.shownAll ds) := by rw [PyData.shown]
  have ed : (PyData.tuple ds).depth = PyData.depthAll ds + 1 := by rw [PyData.depth]
  have nin := not_mem_of_deeper rr lt m
  rw [es] at hQ hz
  rw [ed] at hu
  refine call_repr_slot (by omega) ⟨o, e1, e2⟩ F.slot_tuple_repr ?_
  exact call_tuple_reprK e1 e2 e3 nin k hg (fun b _ => Clear.nil b) (by show A.units + 1 + (PyData.depthAll ds + 1) < cLine; omega) (fun _ _ e => e) (fun h' u tk hk => ⟨_, _, rfl, hQ h' u tk hk⟩) hz
theorem top_dct {a : Addr} {o : Obj} {es : Array DictEntry} {n : Nat} {ps : List (PyData × PyData)} (e1 : s.heap.get? a = some o) (e2 : o.cls = .type "dict") (e3 : o.data = .dict es n) (hs : (a == sysModules) = false)
    (z1 : Shws P w s.heap (es.toList.map (·.key)) (ps.map (·.1))) (z2 : Shws P w s.heap (es.toList.map (·.val)) (ps.map (·.2)))
    (hg : A.guards = some []) (hu : A.units + ((PyData.dict ps).depth + 1) < cLine) (hz : (PyData.dict ps).shown.length ≤ sizeLine)
    (hQ : ∀ h' u tk, (∀ b o, s.heap.get? b = some o → h'.get? b = some o) → Q (.str (PyData.dict ps).shown u) { s with heap := h', toks := tk }) : wpAny (model P w) A (call (.builtin "repr") [.ref a]) Q E s := by
  obtain ⟨as, bs, r, m, k⟩ := z1
  obtain ⟨cs, ds, r2, m2, k2⟩ := z2
  have rr : Reads s.heap (.ref a) (.dict ps) (a :: as ++ cs) := .dict e1 e2 e3 r r2
  have q1 := PyData.depthAll_keys_le ps
  have q2 := PyData.depthAll_vals_le ps
  have lt : PyData.depthKv ps < (PyData.dict ps).depth := by rw [PyData.depth]; exact Nat.lt_succ_self _
  have mm := (m.mono q1).append (m2.mono q2)
  have es' : (PyData.dict ps).shown = dictText (PyData.shownKv ps) := by rw [PyData.shown]
  have ed : (PyData.dict ps).depth = PyData.depthKv ps + 1 := by rw [PyData.depth]
  have nin := not_mem_of_deeper rr lt mm
  rw [es', PyData.shownKv_eq] at hQ hz
  rw [ed] at hu
  refine call_repr_slot (by omega) ⟨o, e1, e2⟩ F.slot_dict_repr ?_
  have pr := ReprEntriesK.of_two es.toList _ _ (k.more_le (fun _ z => List.mem_append_left ds z) q1) (k2.more_le (fun _ z => List.mem_append_right bs z) q2)
  exact call_dict_reprK e1 e2 e3 hs nin pr hg (fun b _ => Clear.nil b) (by show A.units + 1 + (PyData.depthKv ps + 1) < cLine; omega) (fun _ _ e => e) (fun h' u tk hk => ⟨_, _, rfl, hQ h' u tk hk⟩) hz
end
structure ShowG (p : PyData) : Prop where
  sh : p.showable = true
  dp : p.depth ≤ 60
  sz : p.shown.length ≤ sizeLine
section
variable {X : Cx}
def rReprG (K : PySem.W.Frag) : List V → Hp → VK → Prop := fun xs H Q => ∃ v d, xs = [v] ∧ DpG K H v d ∧ ShowG d ∧ Q (.str d.shown) H
theorem call_reprG (hg : X.A.guards = some []) (hu : X.A.units + 64 < cLine) : CallR X (.builtin "repr") (rReprG X.K) := by
  intro pins s σ H xs us Q I r h
  obtain ⟨v, d, rfl, hd, S, q⟩ := h
  cases r with
  | cons r rr =>
    cases rr
    have hdp := S.dp
    have hz := S.sz
    cases d with
    | none =>
      cases hd; cases r
      exact PySem.P.repr_of_none ⟨.str "None", H, I.tok _, ⟨_, rfl⟩, by rw [PyData.shown_none] at q; exact q⟩
    | bool b =>
      cases hd; cases r
      exact PySem.P.repr_of_bool ⟨.str (if b then "True" else "False"), H, I.tok _, ⟨_, by cases b <;> rfl⟩, by rw [PyData.shown_bool] at q; exact q⟩
    | int i =>
      cases hd
      obtain ⟨t, rfl⟩ := r
      have hs : i.natAbs.log2 < 1920 := of_decide_eq_true S.sh
      exact PySem.P.repr_of_int hs ⟨.str (toString i), H, I.tok _, ⟨_, rfl⟩, by rw [PyData.shown_int] at q; exact q⟩
    | str x =>
      cases hd
      obtain ⟨t, rfl⟩ := r
      rw [PyData.shown_str] at hz
      exact PySem.P.repr_of_str ⟨.str (reprText x), H, I.tok _, ⟨_, rfl⟩, by rw [PyData.shown_str] at q; exact q⟩ hz
    | list ds =>
      cases hd with
      | lst hh ha =>
        cases r
        obtain ⟨its, rv, ⟨o, n, ho, hc, _, hdd⟩, _⟩ := I.list hh
        have z : (listText (PyData.shownAll ds)).length ≤ sizeLine := by rw [PyData.shown] at hz; exact hz
        exact top_list ho hc hdd (DpG.shws I ds _ its ha rv (by simpa [PyData.showable] using S.sh) fun t ht => Nat.le_trans (listText_mem_le ht) z) hg (by omega) S.sz fun h' u tk k => ⟨.str (PyData.list ds).shown, H, I.kept k, ⟨u, rfl⟩, q⟩
    | tuple ds =>
      cases hd with
      | tup hh ha =>
        cases r
        obtain ⟨its, rv, ⟨o, ho, hc, n, hdd⟩, _⟩ := I.tuple hh
        have z : (tupleText (PyData.shownAll ds)).length ≤ sizeLine := by rw [PyData.shown] at hz; exact hz
        exact top_tup ho hc hdd (DpG.shws I ds _ its ha rv (by simpa [PyData.showable] using S.sh) fun t ht => Nat.le_trans (tupleText_mem_le ht) z) hg (by omega) S.sz fun h' u tk k => ⟨.str (PyData.tuple ds).shown, H, I.kept k, ⟨u, rfl⟩, q⟩
    | dict ps =>
      cases hd with
      | dct hh hk ha =>
        cases r
        obtain ⟨_, hsys, vs, kv, o, es, ep, ho, hx, hdat, _, hp, _⟩ := dk_rd I.hok hh
        have z : (dictText (PyData.shownKv ps)).length ≤ sizeLine := by rw [PyData.shown] at hz; exact hz
        obtain ⟨q1, q2⟩ := PyData.showableKv_split ps (by simpa [PyData.showable] using S.sh)
        have ek : (vs.map fun q => keyPy q.1) = ps.map (·.1) := by rw [hk]; exact kv_keys kv
        obtain ⟨k1, k2⟩ := keys_reads (h := s.heap) (P := X.prog) (w := X.w) (fun _ _ => True.intro) hp (by rw [ek]; exact q1) (by
          rw [ek]
          intro t ht
          obtain ⟨p, hp, hl⟩ := PyData.shownKv_key_le ps t ht
          exact Nat.le_trans hl (Nat.le_trans (dictText_mem_le hp) z))
        rw [ek] at k1
        refine top_dct ho hx.1 hdat hsys k1 ?_ hg (by omega) S.sz fun h' u tk k => ⟨.str (PyData.dict ps).shown, H, I.kept k, ⟨u, rfl⟩, q⟩
        rw [k2]
        refine DpG.shws I (ps.map (·.2)) _ _ ha (kv_vals kv) q2 fun t ht => ?_
        obtain ⟨p, hp, hl⟩ := PyData.shownKv_val_le ps t ht
        exact Nat.le_trans hl (Nat.le_trans (dictText_mem_le hp) z)
end
/-! ### over data -/
mutual
def D.pyG : D → Option PyData
  | .non => some .none
  | .bl b => some (.bool b)
  | .int i => some (.int i)
  | .str x => some (.str x)
  | .tup ds => (D.pysG ds).map .tuple
  | .lst ds => (D.pysG ds).map .list
  | .fl ds => (D.pysG ds).map .list
  | .dct ks ds => (D.pysG ds).map fun ps => .dict ((ks.map keyPy).zip ps)
  | .cell _ => none
  | .ins _ _ _ => none
  | .dcT _ _ => none
  | .exc _ _ _ _ _ => none
  | .raw _ => none
def D.pysG : List D → Option (List PyData)
  | [] => some []
  | d :: ds => match D.pyG d, D.pysG ds with
    | some p, some ps => some (p :: ps)
    | _, _ => none
end
theorem pysG_len : ∀ {ds : List D} {ps : List PyData}, D.pysG ds = some ps → ps.length = ds.length
  | [], _, e => by rw [D.pysG] at e; cases e; rfl
  | d :: ds, _, e => by
    rw [D.pysG] at e
    cases e2 : D.pyG d with
    | none => rw [e2] at e; cases e
    | some p =>
      cases e3 : D.pysG ds with
      | none => rw [e2, e3] at e; cases e
      | some qs => rw [e2, e3] at e; cases e; rw [List.length_cons, List.length_cons, pysG_len e3]
section
variable {K : PySem.W.Frag} {m : List Addr} {H : Hp}
theorem dct_of {a : Addr} {kvs : List (Key × V)} {ks : List Key} {ps : List PyData} (h : Rd H a (.dK kvs)) (hk : kvs.map (·.1) = ks) (hl : ps.length = kvs.length) (r : DpGs K H (kvs.map (·.2)) ps) : DpG K H (.ref a) (.dict ((ks.map keyPy).zip ps)) := by
  have l2 : (ks.map keyPy).length = ps.length := by rw [← hk, List.length_map, List.length_map, hl]
  refine .dct h ?_ ?_
  · rw [List.map_fst_zip (by omega), ← hk, List.map_map]; rfl
  · rw [List.map_snd_zip (by omega)]; exact r
mutual
theorem R.dpG : ∀ (d : D) (v : V) (p : PyData), R K m H d v → D.pyG d = some p → DpG K H v p
  | .non, _, _, h, e => by cases e; cases (show _ = V.non from h); exact .non
  | .bl b, _, _, h, e => by cases e; cases (show _ = V.bl b from h); exact .bl b
  | .int i, _, _, h, e => by cases e; cases (show _ = V.int i from h); exact .int i
  | .str x, _, _, h, e => by cases e; cases (show _ = V.str x from h); exact .str x
  | .tup ds, _, p, ⟨a, xs, e1, h1, h2⟩, e => by
    subst e1
    rw [D.pyG] at e
    cases e2 : D.pysG ds with
    | none => rw [e2] at e; cases e
    | some ps => rw [e2] at e; cases e; exact .tup h1 (RL.dpG ds xs ps h2 e2)
  | .lst ds, _, p, ⟨a, xs, e1, h1, h2⟩, e => by
    subst e1
    rw [D.pyG] at e
    cases e2 : D.pysG ds with
    | none => rw [e2] at e; cases e
    | some ps => rw [e2] at e; cases e; exact .lst (SqL.of h1) (RL.dpG ds xs ps h2 e2)
  | .fl ds, _, p, ⟨a, xs, e1, h1, h2⟩, e => by
    subst e1
    rw [D.pyG] at e
    cases e2 : D.pysG ds with
    | none => rw [e2] at e; cases e
    | some ps => rw [e2] at e; cases e; exact .lst h1 (RL.dpG ds xs ps h2 e2)
  | .dct ks ds, _, p, ⟨a, kvs, e1, h1, h2, h3⟩, e => by
    subst e1
    rw [D.pyG] at e
    cases e2 : D.pysG ds with
    | none => rw [e2] at e; cases e
    | some ps => rw [e2] at e; cases e; exact dct_of h1 h2 (by rw [pysG_len e2, RL.length h3, List.length_map]) (RL.dpG ds _ ps h3 e2)
  | .cell _, _, _, _, e => by rw [D.pyG] at e; cases e
  | .ins _ _ _, _, _, _, e => by rw [D.pyG] at e; cases e
  | .dcT _ _, _, _, _, e => by rw [D.pyG] at e; cases e
  | .exc _ _ _ _ _, _, _, _, e => by rw [D.pyG] at e; cases e
  | .raw _, _, _, _, e => by rw [D.pyG] at e; cases e
theorem RL.dpG : ∀ (ds : List D) (vs : List V) (ps : List PyData), RL K m H ds vs → D.pysG ds = some ps → DpGs K H vs ps
  | [], _, _, h, e => by cases (show _ = [] from h); rw [D.pysG] at e; cases e; exact .nil
  | d :: ds, _, ps, ⟨x, r, e1, h1, h2⟩, e => by
    subst e1
    rw [D.pysG] at e
    cases e2 : D.pyG d with
    | none => rw [e2] at e; cases e
    | some p =>
      cases e3 : D.pysG ds with
      | none => rw [e2, e3] at e; cases e
      | some qs => rw [e2, e3] at e; cases e; exact .cons (R.dpG d x p h1 e2) (RL.dpG ds r qs h2 e3)
end
mutual
theorem DpG.mono {H' : Hp} (e : Ex H H') : ∀ {v : V} {d : PyData}, DpG K H v d → DpG K H' v d
  | _, _, .non => .non
  | _, _, .bl b => .bl b
  | _, _, .int i => .int i
  | _, _, .str x => .str x
  | _, _, .lst h r => .lst (ex_l e h) (DpGs.mono e r)
  | _, _, .tup h r => .tup (ex_t e h) (DpGs.mono e r)
  | _, _, .dct h hk r => .dct (ex_rd e h) hk (DpGs.mono e r)
theorem DpGs.mono {H' : Hp} (e : Ex H H') : ∀ {vs : List V} {ds : List PyData}, DpGs K H vs ds → DpGs K H' vs ds
  | _, _, .nil => .nil
  | _, _, .cons h r => .cons (DpG.mono e h) (DpGs.mono e r)
end
end
theorem W.dpG {K : PySem.W.Frag} {m : Ad} {H : Hp} : ∀ {d : D} {v : V} {p : PyData}, W K H m d v → D.pyG d = some p → DpG K H v p
  | .non, _, _, h, e => DpG.mono (ex_hid m H) (R.dpG (m := m.ix) .non _ _ h e)
  | .bl b, _, _, h, e => DpG.mono (ex_hid m H) (R.dpG (m := m.ix) (.bl b) _ _ h e)
  | .int i, _, _, h, e => DpG.mono (ex_hid m H) (R.dpG (m := m.ix) (.int i) _ _ h e)
  | .str x, _, _, h, e => DpG.mono (ex_hid m H) (R.dpG (m := m.ix) (.str x) _ _ h e)
  | .tup ds, _, _, h, e => DpG.mono (ex_hid m H) (R.dpG (m := m.ix) (.tup ds) _ _ h e)
  | .fl ds, _, _, h, e => DpG.mono (ex_hid m H) (R.dpG (m := m.ix) (.fl ds) _ _ h e)
  | .lst ds, _, p, ⟨a, xs, e1, h1, h2⟩, e => by
    subst e1
    rw [D.pyG] at e
    cases e2 : D.pysG ds with
    | none => rw [e2] at e; cases e
    | some ps => rw [e2] at e; cases e; exact .lst (SqL.of h1) (DpGs.mono (ex_hid m H) (RL.dpG ds xs ps h2 e2))
  | .dct ks ds, _, p, ⟨a, kvs, e1, h1, h2, h3⟩, e => by
    subst e1
    rw [D.pyG] at e
    cases e2 : D.pysG ds with
    | none => rw [e2] at e; cases e
    | some ps => rw [e2] at e; cases e; exact dct_of h1 h2 (by rw [pysG_len e2, RL.length h3, List.length_map]) (DpGs.mono (ex_hid m H) (RL.dpG ds _ ps h3 e2))
  | .cell _, _, _, _, e => by rw [D.pyG] at e; cases e
  | .ins _ _ _, _, _, _, e => by rw [D.pyG] at e; cases e
  | .dcT _ _, _, _, _, e => by rw [D.pyG] at e; cases e
  | .exc _ _ _ _ _, _, _, _, e => by rw [D.pyG] at e; cases e
  | .raw _, _, _, _, e => by rw [D.pyG] at e; cases e
def fReprG : F1 := fun x c Φ => ∃ p, D.pyG x = some p ∧ ShowG p ∧ Φ (.str p.shown) c
theorem l1_reprG {K : PySem.W.Frag} : L1f K fReprG (fun u H Q => rReprG K [u] H Q) := by
  intro x c Φ h H m u C r Q q
  obtain ⟨p, h1, h2, h3⟩ := h
  exact ⟨u, p, rfl, W.dpG r h1, h2, q.pure C h3 rfl⟩
section
variable {X : Cx} {e : Expr} {ta : TD} {pos pp : Pos}
theorem pd_reprG (hgu : X.A.guards = some []) (hu : X.A.units + 64 < cLine) (ha : PD X e ta) (hm : X.mg "repr" = none) (hg : Gl X "repr" := by rfl) (he : starEach [e] X.env = (false, eval e X.env) :: starEach [] X.env := by rfl) (hpl : (backTo pos (starEach [] X.env)).any (·.1) = false := by rfl) :
    PD X (.Call (.Name "repr" pp) [e] [] pos) (dCB (un1 fReprG) (dCons ta dNil)) := pd_B1 (call_reprG hgu hu) l1_reprG (by decide +kernel) (by decide) (by decide) ha hg hm he hpl
end
end Cw

/-! # defs with defaults -/
namespace Cw
open PySem PySem.Spec PyProof.Rows L2
section
variable {P : Program} {w : World} {K : PySem.W.Frag} {mg : Str → Option Value} {base : Heap} {x qual : Str} {st : Stmt} {f : Addr} {fd : FuncData} {N ps ks : List Str} {k n0 : Nat} {dvs : List V} {kws : List (Str × V)}
abbrev FunF (K : PySem.W.Frag) (x qual : Str) (st : Stmt) (dvs : List V) (f : Addr) (fd : FuncData) : Prop := FunD K x qual (defArgs st) (defBody st) (defScope st) dvs [] f fd
theorem fnDF {S : Pm} (F : FunF K x qual st dvs f fd) (Sc : FnScope N ps (defScope st))
    (hbody : ∀ (cdv : Value) (A : Around) (outer : List PySem.Env) (s : Shared) (H : Hp) (E : XK), Room k (A.deeper (envOfC qual (defScope st) s.heap.objs.size f cdv)) →
      ∃ ts, PSDs (cxOf CX0 P w K mg base N qual (defScope st) f cdv A outer s H E).nox (defBody st) ts ∧
        ∀ c ds Φ, c.length = n0 → ds.length = ps.length → S c ds Φ → ts ⟨fun _ c' => retD n0 Φ .non c', retD n0 Φ, fun _ _ => False, fun _ _ => False⟩ (startD N ds) c) :
    FnOk P w K mg base CX0 (k + 1) f fd ps (spD K n0 ps.length S) := by
  refine FunD.ok F Sc (fun vs H Q E ⟨m, c, ds, Φ, h1, h2, C, r, _⟩ => by rw [← RL.length r]; exact h2) (fun cdv A outer s H vs Q E hr h => ?_)
  obtain ⟨m, c, ds, Φ, h1, h2, C, r, hS, q⟩ := h
  obtain ⟨ts, hp, ht⟩ := hbody cdv A outer s H E hr
  have hn : m.ix.length = n0 := by rw [C.len]; exact h1
  exact ⟨_, hp.nox, m, startD N ds, c, _, start_slots C r, ht c ds Φ h1 h2 hS, fun σ' H' m' ρ' c' h' S' l => ret_ok hn q h' S'.cr rfl l, fun d c' v H' m' h' C' r' l => ret_ok hn q h' C' r' l, fun _ _ _ _ _ z => z.elim, fun _ _ _ _ _ z => z.elim⟩
theorem fnXF {S : Pmx} (F : FunF K x qual st dvs f fd) (Sc : FnScope N ps (defScope st))
    (hbody : ∀ (cdv : Value) (A : Around) (outer : List PySem.Env) (s : Shared) (H : Hp) (E : XK), Room k (A.deeper (envOfC qual (defScope st) s.heap.objs.size f cdv)) →
      ∃ ts, PSXs (cxOf (L2.CX P w) P w K mg base N qual (defScope st) f cdv A outer s H E) E (defBody st) ts ∧ ∀ ds Φ Ξ, ds.length = ps.length → S ds Φ Ξ → ts (endX Φ Ξ) (startD N ds) []) :
    FnOk P w K mg base (L2.CX P w) (k + 1) f fd ps (spX K ps.length S) := by
  refine FunD.ok F Sc (fun vs H Q E ⟨m, ds, Φ, Ξ, h2, C, r, _⟩ => by rw [← RL.length r]; exact h2) (fun cdv A outer s H vs Q E hr ⟨m, ds, Φ, Ξ, h2, C, r, hS, q, qx⟩ => ?_)
  obtain ⟨ts, hp, ht⟩ := hbody cdv A outer s H E hr
  have hn : m.ix.length = 0 := C.len
  refine ⟨_, hp, m, startD N ds, [], endX Φ Ξ, start_slots C r, ht ds Φ Ξ h2 hS, fun σ' H' m' ρ' c' h' S' l => ?_, fun d c' v H' m' h' C' r' l => ?_, fun _ _ _ _ _ z => z.elim, fun _ _ _ _ _ z => z.elim, fun y c' cls dd H' m' ⟨h1, h3⟩ C' r' l => ?_⟩
  · exact ret_ok (Φ := fun d _ => Φ d) hn (fun d c2 w H2 hd C2 R2 L2 => q d w H2 hd (by cases c2 with | nil => exact C2 | cons _ _ => have := C2.len; rw [hn] at this; cases this) R2 L2) h' S'.cr rfl l
  · exact ret_ok (Φ := fun d _ => Φ d) hn (fun d c2 w H2 hd C2 R2 L2 => q d w H2 hd (by cases c2 with | nil => exact C2 | cons _ _ => have := C2.len; rw [hn] at this; cases this) R2 L2) h' C' r' l
  · have ex : Ex (hid m' H') (hid m H') := ex_cut l.pre l.hd
    have C2 : CR K H' m [] := C'.cut l.pre l.hd hn rfl
    obtain ⟨e1, dx, fs, e2, e3, e4, e5⟩ := r'
    exact qx y cls dd H' h3 C2 ⟨e1, dx, fs, e2, ex dx _ e3, e4, RL.low ex (low_cut l.pre hn) _ _ h1 e5⟩ ⟨fun _ _ e => e, l.ex.trans ex, rfl, l.hk' ex, fun _ h => .inl h, l.al⟩
theorem FunF.kb {is : List Nat} (F : FunF K x qual st dvs f fd) (hd : dvs ≠ [])
    (h : ∀ (T : Addr) (kV doc pm : Value) (an : Option Addr) (cdv ct : Value) (its ws : List Value), its.length = dvs.length → ws.length = ks.length →
      ∃ k, bindArgs (PySem.W.fnOf x qual (defArgs st) (defBody st) (defScope st) (.ref T) kV doc pm an cdv ct) ⟨[], ks.zip ws⟩ = seqItems? (.ref T) >>= k ∧ k (some its.toArray) = pure (ps.zip (perm is ws))) : KBn K fd ps 0 ks (fun _ ws => perm is ws) (fun _ ws => perm is ws) := by
  obtain ⟨oc, od, dV, kV, doc, pm, an, cdv, ct, osl, rfl, lk, hcd, hD, hK⟩ := F.ex
  rcases hD with ⟨e, _⟩ | ⟨_, T, o, its, m, rfl, lT, oT, rT⟩
  · exact absurd e hd
  · refine ⟨fun s us ws X l1 l2 => ?_, fun _ r2 => vals_perm r2 is⟩
    cases us with
    | cons _ _ => cases l1
    | nil =>
      obtain ⟨k, e1, e2⟩ := h T kV doc pm an cdv ct its ws rT.length.symm l2
      refine BindsTo.of_looks fun M => ?_
      rw [e1]
      exact looks_items X lT oT (.of_pure e2)
theorem funF_mk {oc : Value} {od an : Option Addr} {osl : Array (Option Value)} {T : Addr} {o : Obj} {its : List Value} {n : Nat} {kV doc pm cdv ct : Value} (l : K.lookup f = some ⟨oc, od, .func (PySem.W.fnOf x qual (defArgs st) (defBody st) (defScope st) (.ref T) kV doc pm an cdv ct), osl⟩)
    (c : PySem.W.codeIn K cdv qual = true) (k : PySem.W.keepIn K (.ref f) = true) (hd : dvs ≠ []) (lT : K.lookup T = some o) (oT : o.data = .seq its.toArray n) (r : Vals dvs its) :
    FunF K x qual st dvs f (PySem.W.fnOf x qual (defArgs st) (defBody st) (defScope st) (.ref T) kV doc pm an cdv ct) :=
  ⟨⟨oc, od, .ref T, kV, doc, pm, an, cdv, ct, osl, rfl, l, c, .inr ⟨hd, T, o, its, n, rfl, lT, oT, r⟩, .inl rfl⟩, k⟩
end
end Cw

namespace K08
open PySem PySem.Spec PyProof.Rows L2 Cw
def topS (i : Nat) : Stmt := PySem.Challenge.pw_cornerways_k08_oblongs.main.body.getD i (.Pass ⟨0, 0, 0, 0⟩)
abbrev st_is_any_integer : Stmt := topS 29
theorem sc_is_any_integer : FnScope ["value"] ["value"] (defScope st_is_any_integer) := ⟨rfl, rfl, rfl, by decide +kernel, rfl, by decide +kernel, by decide +kernel⟩
abbrev st_is_integer : Stmt := topS 30
theorem sc_is_integer : FnScope ["value", "least", "most"] ["value", "least", "most"] (defScope st_is_integer) := ⟨rfl, rfl, rfl, by decide +kernel, rfl, by decide +kernel, by decide +kernel⟩
abbrev st_number_of : Stmt := topS 31
theorem sc_number_of : FnScope ["text", "least", "most"] ["text", "least", "most"] (defScope st_number_of) := ⟨rfl, rfl, rfl, by decide +kernel, rfl, by decide +kernel, by decide +kernel⟩
abbrev st_plus_of : Stmt := topS 36
theorem sc_plus_of : FnScope ["text", "number"] ["text"] (defScope st_plus_of) := ⟨rfl, rfl, rfl, by decide +kernel, rfl, by decide +kernel, by decide +kernel⟩
abbrev st_plus_text : Stmt := topS 37
theorem sc_plus_text : FnScope ["plus"] ["plus"] (defScope st_plus_text) := ⟨rfl, rfl, rfl, by decide +kernel, rfl, by decide +kernel, by decide +kernel⟩
abbrev st_side_of : Stmt := topS 38
theorem sc_side_of : FnScope ["text", "words", "plus"] ["text"] (defScope st_side_of) := ⟨rfl, rfl, rfl, by decide +kernel, rfl, by decide +kernel, by decide +kernel⟩
abbrev st_sides_of : Stmt := topS 39
theorem sc_sides_of : FnScope ["text", "sides", "part"] ["text"] (defScope st_sides_of) := ⟨rfl, rfl, rfl, by decide +kernel, rfl, by decide +kernel, by decide +kernel⟩
abbrev st__law_spring : Stmt := topS 42
theorem sc__law_spring : FnScope ["_law_cells", "_law_at", "_law_own", "_law_mixed", "_law_cell"] ["_law_cells", "_law_at"] (defScope st__law_spring) := ⟨rfl, rfl, rfl, by decide +kernel, rfl, by decide +kernel, by decide +kernel⟩
abbrev st__law_take : Stmt := topS 43
theorem sc__law_take : FnScope ["_law_spring_here", "_law_much", "_law_here", "_law_factor", "_law_figure"] ["_law_spring_here", "_law_much"] (defScope st__law_take) := ⟨rfl, rfl, rfl, by decide +kernel, rfl, by decide +kernel, by decide +kernel⟩
abbrev st__law_sort : Stmt := topS 44
theorem sc__law_sort : FnScope ["_law_e", "_law_fits", "_law_at", "_law_bases", "_law_roots"] ["_law_e"] (defScope st__law_sort) := ⟨rfl, rfl, rfl, by decide +kernel, rfl, by decide +kernel, by decide +kernel⟩
abbrev st__law_told : Stmt := topS 45
theorem sc__law_told : FnScope ["_law_e", "_law_word"] ["_law_e", "_law_word"] (defScope st__law_told) := ⟨rfl, rfl, rfl, by decide +kernel, rfl, by decide +kernel, by decide +kernel⟩
abbrev st__law_caught : Stmt := topS 46
theorem sc__law_caught : FnScope ["_law_act", "_law_found", "_law_e", "_law_word"] ["_law_act"] (defScope st__law_caught) := ⟨rfl, rfl, rfl, by decide +kernel, rfl, by decide +kernel, by decide +kernel⟩
abbrev st__law_sorts : Stmt := topS 47
theorem sc__law_sorts : FnScope ["_law_found"] [] (defScope st__law_sorts) := ⟨rfl, rfl, rfl, by decide +kernel, rfl, by decide +kernel, by decide +kernel⟩
abbrev st__law_shut_row : Stmt := topS 48
theorem sc__law_shut_row : FnScope ["_law_shut", "_law_letter", "_law_more", "_law_bend"] ["_law_shut"] (defScope st__law_shut_row) := ⟨rfl, rfl, rfl, by decide +kernel, rfl, by decide +kernel, by decide +kernel⟩
abbrev st__law_plan : Stmt := topS 49
theorem sc__law_plan : FnScope ["_law_shuts", "_law_shut"] ["_law_shuts"] (defScope st__law_plan) := ⟨rfl, rfl, rfl, by decide +kernel, rfl, by decide +kernel, by decide +kernel⟩
abbrev st__law_shuts_by : Stmt := topS 50
theorem sc__law_shuts_by : FnScope ["_law_shift", "_law_letter"] ["_law_shift"] (defScope st__law_shuts_by) := ⟨rfl, rfl, rfl, by decide +kernel, rfl, by decide +kernel, by decide +kernel⟩
abbrev st__law_is : Stmt := topS 51
theorem sc__law_is : FnScope ["_law_mine", "_law_shuts", "_law_told_here"] ["_law_mine", "_law_shuts"] (defScope st__law_is) := ⟨rfl, rfl, rfl, by decide +kernel, rfl, by decide +kernel, by decide +kernel⟩
abbrev st__law_right : Stmt := topS 52
theorem sc__law_right : FnScope ["_law_spring_here", "_law_shift", "_law_shuts", "_law_some", "_law_strange", "_law_wanted", "_law_told_here"] ["_law_spring_here"] (defScope st__law_right) := ⟨rfl, rfl, rfl, by decide +kernel, rfl, by decide +kernel, by decide +kernel⟩
abbrev st_law : Stmt := topS 53
theorem sc_law : FnScope ["_law_cells", "_law_at"] ["_law_cells"] (defScope st_law) := ⟨rfl, rfl, rfl, by decide +kernel, rfl, by decide +kernel, by decide +kernel⟩
abbrev st_Room___init__ : Stmt := inClass (topS 40) 0
theorem sc_Room___init__ : FnScope ["self", "text", "sides", "side"] ["self", "text"] (defScope st_Room___init__) := ⟨rfl, rfl, rfl, by decide +kernel, rfl, by decide +kernel, by decide +kernel⟩
abbrev st_Room_oblong : Stmt := inClass (topS 40) 1
theorem sc_Room_oblong : FnScope ["by", "plus", "letter"] ["by"] (defScope st_Room_oblong) := ⟨rfl, rfl, rfl, by decide +kernel, rfl, by decide +kernel, by decide +kernel⟩
abbrev st_Room_text : Stmt := inClass (topS 40) 2
theorem sc_Room_text : FnScope ["self"] ["self"] (defScope st_Room_text) := ⟨rfl, rfl, rfl, by decide +kernel, rfl, by decide +kernel, by decide +kernel⟩
abbrev st_Room_sides : Stmt := inClass (topS 40) 3
theorem sc_Room_sides : FnScope ["self"] ["self"] (defScope st_Room_sides) := ⟨rfl, rfl, rfl, by decide +kernel, rfl, by decide +kernel, by decide +kernel⟩
abbrev st_Room_letters : Stmt := inClass (topS 40) 4
theorem sc_Room_letters : FnScope ["self"] ["self"] (defScope st_Room_letters) := ⟨rfl, rfl, rfl, by decide +kernel, rfl, by decide +kernel, by decide +kernel⟩
abbrev st_Room___eq__ : Stmt := inClass (topS 40) 6
theorem sc_Room___eq__ : FnScope ["self", "other"] ["self", "other"] (defScope st_Room___eq__) := ⟨rfl, rfl, rfl, by decide +kernel, rfl, by decide +kernel, by decide +kernel⟩
abbrev st_Room___str__ : Stmt := inClass (topS 40) 7
theorem sc_Room___str__ : FnScope ["self"] ["self"] (defScope st_Room___str__) := ⟨rfl, rfl, rfl, by decide +kernel, rfl, by decide +kernel, by decide +kernel⟩
abbrev st_Room___len__ : Stmt := inClass (topS 40) 8
theorem sc_Room___len__ : FnScope ["self"] ["self"] (defScope st_Room___len__) := ⟨rfl, rfl, rfl, by decide +kernel, rfl, by decide +kernel, by decide +kernel⟩
abbrev stI_InvalidNumber : Stmt := inClass (topS 6) 0
theorem scI_InvalidNumber : FnScope ["self", "given"] ["self", "given"] (defScope stI_InvalidNumber) := ⟨rfl, rfl, rfl, by decide +kernel, rfl, by decide +kernel, by decide +kernel⟩
def gOwn (C : Addr) : Ty → Option Bool
  | .ins D => if D = C then some true else none
  | _ => some false
structure Tx (K : PySem.W.Frag) (mg : Str → Option Value) where
  n_ValueError : mg "ValueError" = none
  n_LookupError : mg "LookupError" = none
  n_ArithmeticError : mg "ArithmeticError" = none
  n_isinstance : mg "isinstance" = none
  n_int : mg "int" = none
  n_bool : mg "bool" = none
  n_len : mg "len" = none
  n_tuple : mg "tuple" = none
  n_str : mg "str" = none
  n_abs : mg "abs" = none
  n_divmod : mg "divmod" = none
  n_repr : mg "repr" = none
  n_range : mg "range" = none
  n_all : mg "all" = none
  n_max : mg "max" = none
  n_min : mg "min" = none
  n_sorted : mg "sorted" = none
  n_staticmethod : mg "staticmethod" = none
  c_DIGITS : ∃ t, mg "DIGITS" = some (.str "0123456789" t)
  c_MOST_SIDES : ∃ t, mg "MOST_SIDES" = some (.int 12 t)
  c_MOST_PLUS : ∃ t, mg "MOST_PLUS" = some (.int 9 t)
  c_TURNS : TupK K mg "TURNS" ["out", "in"]
  c_SIDE_LETTERS : TupK K mg "SIDE_LETTERS" ["x", "y", "z"]
  a_is_any_integer : Addr
  d_is_any_integer : FuncData
  F_is_any_integer : Fun K "is_any_integer" "is_any_integer" st_is_any_integer a_is_any_integer d_is_any_integer
  g_is_any_integer : mg "is_any_integer" = some (.ref a_is_any_integer)
  b_is_any_integer : Binds K d_is_any_integer ["value"] []
  a_is_integer : Addr
  d_is_integer : FuncData
  F_is_integer : Fun K "is_integer" "is_integer" st_is_integer a_is_integer d_is_integer
  g_is_integer : mg "is_integer" = some (.ref a_is_integer)
  b_is_integer : Binds K d_is_integer ["value", "least", "most"] []
  a_number_of : Addr
  d_number_of : FuncData
  F_number_of : Fun K "number_of" "number_of" st_number_of a_number_of d_number_of
  g_number_of : mg "number_of" = some (.ref a_number_of)
  b_number_of : Binds K d_number_of ["text", "least", "most"] []
  a_plus_of : Addr
  d_plus_of : FuncData
  F_plus_of : Fun K "plus_of" "plus_of" st_plus_of a_plus_of d_plus_of
  g_plus_of : mg "plus_of" = some (.ref a_plus_of)
  b_plus_of : Binds K d_plus_of ["text"] []
  a_plus_text : Addr
  d_plus_text : FuncData
  F_plus_text : Fun K "plus_text" "plus_text" st_plus_text a_plus_text d_plus_text
  g_plus_text : mg "plus_text" = some (.ref a_plus_text)
  b_plus_text : Binds K d_plus_text ["plus"] []
  a_side_of : Addr
  d_side_of : FuncData
  F_side_of : Fun K "side_of" "side_of" st_side_of a_side_of d_side_of
  g_side_of : mg "side_of" = some (.ref a_side_of)
  b_side_of : Binds K d_side_of ["text"] []
  a_sides_of : Addr
  d_sides_of : FuncData
  F_sides_of : Fun K "sides_of" "sides_of" st_sides_of a_sides_of d_sides_of
  g_sides_of : mg "sides_of" = some (.ref a_sides_of)
  b_sides_of : Binds K d_sides_of ["text"] []
  a__law_spring : Addr
  d__law_spring : FuncData
  F__law_spring : Fun K "_law_spring" "_law_spring" st__law_spring a__law_spring d__law_spring
  g__law_spring : mg "_law_spring" = some (.ref a__law_spring)
  b__law_spring : Binds K d__law_spring ["_law_cells", "_law_at"] []
  a__law_take : Addr
  d__law_take : FuncData
  F__law_take : Fun K "_law_take" "_law_take" st__law_take a__law_take d__law_take
  g__law_take : mg "_law_take" = some (.ref a__law_take)
  b__law_take : Binds K d__law_take ["_law_spring_here", "_law_much"] []
  a__law_sort : Addr
  d__law_sort : FuncData
  F__law_sort : Fun K "_law_sort" "_law_sort" st__law_sort a__law_sort d__law_sort
  g__law_sort : mg "_law_sort" = some (.ref a__law_sort)
  b__law_sort : Binds K d__law_sort ["_law_e"] []
  a__law_told : Addr
  d__law_told : FuncData
  F__law_told : Fun K "_law_told" "_law_told" st__law_told a__law_told d__law_told
  g__law_told : mg "_law_told" = some (.ref a__law_told)
  b__law_told : Binds K d__law_told ["_law_e", "_law_word"] []
  a__law_caught : Addr
  d__law_caught : FuncData
  F__law_caught : Fun K "_law_caught" "_law_caught" st__law_caught a__law_caught d__law_caught
  g__law_caught : mg "_law_caught" = some (.ref a__law_caught)
  b__law_caught : Binds K d__law_caught ["_law_act"] []
  a__law_sorts : Addr
  d__law_sorts : FuncData
  F__law_sorts : Fun K "_law_sorts" "_law_sorts" st__law_sorts a__law_sorts d__law_sorts
  g__law_sorts : mg "_law_sorts" = some (.ref a__law_sorts)
  b__law_sorts : Binds K d__law_sorts [] []
  a__law_shut_row : Addr
  d__law_shut_row : FuncData
  F__law_shut_row : Fun K "_law_shut_row" "_law_shut_row" st__law_shut_row a__law_shut_row d__law_shut_row
  g__law_shut_row : mg "_law_shut_row" = some (.ref a__law_shut_row)
  b__law_shut_row : Binds K d__law_shut_row ["_law_shut"] []
  a__law_plan : Addr
  d__law_plan : FuncData
  F__law_plan : Fun K "_law_plan" "_law_plan" st__law_plan a__law_plan d__law_plan
  g__law_plan : mg "_law_plan" = some (.ref a__law_plan)
  b__law_plan : Binds K d__law_plan ["_law_shuts"] []
  a__law_shuts_by : Addr
  d__law_shuts_by : FuncData
  F__law_shuts_by : Fun K "_law_shuts_by" "_law_shuts_by" st__law_shuts_by a__law_shuts_by d__law_shuts_by
  g__law_shuts_by : mg "_law_shuts_by" = some (.ref a__law_shuts_by)
  b__law_shuts_by : Binds K d__law_shuts_by ["_law_shift"] []
  a__law_is : Addr
  d__law_is : FuncData
  F__law_is : Fun K "_law_is" "_law_is" st__law_is a__law_is d__law_is
  g__law_is : mg "_law_is" = some (.ref a__law_is)
  b__law_is : Binds K d__law_is ["_law_mine", "_law_shuts"] []
  a__law_right : Addr
  d__law_right : FuncData
  F__law_right : Fun K "_law_right" "_law_right" st__law_right a__law_right d__law_right
  g__law_right : mg "_law_right" = some (.ref a__law_right)
  b__law_right : Binds K d__law_right ["_law_spring_here"] []
  a_law : Addr
  d_law : FuncData
  F_law : Fun K "law" "law" st_law a_law d_law
  g_law : mg "law" = some (.ref a_law)
  b_law : Binds K d_law ["_law_cells"] []
  C_Room : Addr
  g_Room : mg "Room" = some (.ref C_Room)
  cl_Room : Cls K C_Room
  na_whole : NoAttr K C_Room "whole"
  na_rows : NoAttr K C_Room "rows"
  na_alphabet : NoAttr K C_Room "alphabet"
  ne_Room : PySem.W.findIn K (.ref C_Room) "__ne__" = some (some (.builtin "object.__ne__"))
  mro_Room : PySem.W.mroIn K C_Room (.type "object") = some true
  bool_Room : PySem.W.findIn K (.ref C_Room) "__bool__" = some none
  i_Room : IsiT K (.ref C_Room) (gOwn C_Room)
  a_Room___init__ : Addr
  d_Room___init__ : FuncData
  F_Room___init__ : Fun K "__init__" "Room.__init__" st_Room___init__ a_Room___init__ d_Room___init__
  b_Room___init__ : Binds K d_Room___init__ ["self", "text"] []
  mk_Room : Mk K C_Room a_Room___init__
  kb_Room : KBn K d_Room___init__ ["self", "text"] 1 ["text"] (fun us ws => us ++ ws) (fun us ws => us ++ ws)
  a_Room_oblong : Addr
  d_Room_oblong : FuncData
  F_Room_oblong : FunF K "oblong" "Room.oblong" st_Room_oblong [V.int 0] a_Room_oblong d_Room_oblong
  sp_Room_oblong : Addr
  S_Room_oblong : SMet K C_Room (.type "type") "oblong" sp_Room_oblong a_Room_oblong
  b_Room_oblong : Binds K d_Room_oblong ["by"] []
  b0_Room_oblong : ∃ ds, Vals [V.int 0] ds ∧ Binds K d_Room_oblong ["by"] ds
  kw_Room_oblong : KBn K d_Room_oblong ["by"] 0 ["by"] (fun _ ws => perm [0] ws) (fun _ ws => perm [0] ws)
  a_Room_text : Addr
  d_Room_text : FuncData
  F_Room_text : Fun K "text" "Room.text" st_Room_text a_Room_text d_Room_text
  b_Room_text : Binds K d_Room_text ["self"] []
  p_Room_text : Addr
  P_Room_text : PropOf K C_Room "text" p_Room_text a_Room_text
  a_Room_sides : Addr
  d_Room_sides : FuncData
  F_Room_sides : Fun K "sides" "Room.sides" st_Room_sides a_Room_sides d_Room_sides
  b_Room_sides : Binds K d_Room_sides ["self"] []
  p_Room_sides : Addr
  P_Room_sides : PropOf K C_Room "sides" p_Room_sides a_Room_sides
  a_Room_letters : Addr
  d_Room_letters : FuncData
  F_Room_letters : Fun K "letters" "Room.letters" st_Room_letters a_Room_letters d_Room_letters
  b_Room_letters : Binds K d_Room_letters ["self"] []
  p_Room_letters : Addr
  P_Room_letters : PropOf K C_Room "letters" p_Room_letters a_Room_letters
  a_Room___eq__ : Addr
  d_Room___eq__ : FuncData
  F_Room___eq__ : Fun K "__eq__" "Room.__eq__" st_Room___eq__ a_Room___eq__ d_Room___eq__
  b_Room___eq__ : Binds K d_Room___eq__ ["self", "other"] []
  f_Room___eq__ : PySem.W.findIn K (.ref C_Room) "__eq__" = some (some (.ref a_Room___eq__))
  k_Room___eq__ : PySem.W.isFn K (.ref a_Room___eq__) = true
  a_Room___str__ : Addr
  d_Room___str__ : FuncData
  F_Room___str__ : Fun K "__str__" "Room.__str__" st_Room___str__ a_Room___str__ d_Room___str__
  b_Room___str__ : Binds K d_Room___str__ ["self"] []
  f_Room___str__ : PySem.W.findIn K (.ref C_Room) "__str__" = some (some (.ref a_Room___str__))
  k_Room___str__ : PySem.W.isFn K (.ref a_Room___str__) = true
  a_Room___len__ : Addr
  d_Room___len__ : FuncData
  F_Room___len__ : Fun K "__len__" "Room.__len__" st_Room___len__ a_Room___len__ d_Room___len__
  b_Room___len__ : Binds K d_Room___len__ ["self"] []
  f_Room___len__ : PySem.W.findIn K (.ref C_Room) "__len__" = some (some (.ref a_Room___len__))
  k_Room___len__ : PySem.W.isFn K (.ref a_Room___len__) = true
  C_BadValue : Addr
  g_BadValue : mg "BadValue" = some (.ref C_BadValue)
  C_InvalidText : Addr
  g_InvalidText : mg "InvalidText" = some (.ref C_InvalidText)
  C_InvalidLine : Addr
  g_InvalidLine : mg "InvalidLine" = some (.ref C_InvalidLine)
  C_InvalidState : Addr
  g_InvalidState : mg "InvalidState" = some (.ref C_InvalidState)
  C_InvalidNumber : Addr
  g_InvalidNumber : mg "InvalidNumber" = some (.ref C_InvalidNumber)
  C_InvalidName : Addr
  g_InvalidName : mg "InvalidName" = some (.ref C_InvalidName)
  C_InvalidIndex : Addr
  g_InvalidIndex : mg "InvalidIndex" = some (.ref C_InvalidIndex)
  C_InvalidWish : Addr
  g_InvalidWish : mg "InvalidWish" = some (.ref C_InvalidWish)
  C_InvalidClaim : Addr
  g_InvalidClaim : mg "InvalidClaim" = some (.ref C_InvalidClaim)
  C_NotBorders : Addr
  g_NotBorders : mg "NotBorders" = some (.ref C_NotBorders)
  C_NotARoom : Addr
  g_NotARoom : mg "NotARoom" = some (.ref C_NotARoom)
  C_InvalidSizes : Addr
  g_InvalidSizes : mg "InvalidSizes" = some (.ref C_InvalidSizes)
  C_InvalidFilling : Addr
  g_InvalidFilling : mg "InvalidFilling" = some (.ref C_InvalidFilling)
  C_InvalidNames : Addr
  g_InvalidNames : mg "InvalidNames" = some (.ref C_InvalidNames)
  C_InvalidLines : Addr
  g_InvalidLines : mg "InvalidLines" = some (.ref C_InvalidLines)
  C_BadName : Addr
  g_BadName : mg "BadName" = some (.ref C_BadName)
  C_UnknownName : Addr
  g_UnknownName : mg "UnknownName" = some (.ref C_UnknownName)
  C_InUse : Addr
  g_InUse : mg "InUse" = some (.ref C_InUse)
  C_NoAnswer : Addr
  g_NoAnswer : mg "NoAnswer" = some (.ref C_NoAnswer)
  C_OtherLetters : Addr
  g_OtherLetters : mg "OtherLetters" = some (.ref C_OtherLetters)
  C_TooMany : Addr
  g_TooMany : mg "TooMany" = some (.ref C_TooMany)
  C_NothingToUndo : Addr
  g_NothingToUndo : mg "NothingToUndo" = some (.ref C_NothingToUndo)
  C_NotAsked : Addr
  g_NotAsked : mg "NotAsked" = some (.ref C_NotAsked)
  C_Broken : Addr
  g_Broken : mg "Broken" = some (.ref C_Broken)
  ox_InvalidNumber : OexC K C_InvalidNumber
  xa_InvalidNumber : ExcA K C_InvalidNumber
  no_InvalidNumber_given : PySem.W.findIn K (.ref C_InvalidNumber) "given" = some none
  no_InvalidNumber_index : PySem.W.findIn K (.ref C_InvalidNumber) "index" = some none
  no_InvalidNumber_shown : PySem.W.findIn K (.ref C_InvalidNumber) "shown" = some none
  no_InvalidNumber_limit : PySem.W.findIn K (.ref C_InvalidNumber) "limit" = some none
  aI_InvalidNumber : Addr
  dI_InvalidNumber : FuncData
  FI_InvalidNumber : Fun K "__init__" "InvalidNumber.__init__" stI_InvalidNumber aI_InvalidNumber dI_InvalidNumber
  iC_InvalidNumber : PySem.W.findIn K (.ref C_InvalidNumber) "__init__" = some (some (.ref aI_InvalidNumber))
  tI_InvalidNumber : PySem.W.typeIn K (.ref aI_InvalidNumber) = some (.type "function")
  bI_InvalidNumber : Binds K dI_InvalidNumber ["self", "given"] []

  xm_InvalidNumber : PySem.W.exmAny K (.ref C_InvalidNumber) [.ref C_BadValue, .ref C_BadName, .ref C_NoAnswer] = some true
  kt_InvalidNumber_BadValue : PySem.W.kitOne K (.ref C_InvalidNumber) (.ref C_BadValue) = some true
  kt_InvalidNumber_InvalidText : PySem.W.kitOne K (.ref C_InvalidNumber) (.ref C_InvalidText) = some false
  kt_InvalidNumber_InvalidLine : PySem.W.kitOne K (.ref C_InvalidNumber) (.ref C_InvalidLine) = some false
  kt_InvalidNumber_InvalidState : PySem.W.kitOne K (.ref C_InvalidNumber) (.ref C_InvalidState) = some false
  kt_InvalidNumber_InvalidNumber : PySem.W.kitOne K (.ref C_InvalidNumber) (.ref C_InvalidNumber) = some true
  kt_InvalidNumber_InvalidName : PySem.W.kitOne K (.ref C_InvalidNumber) (.ref C_InvalidName) = some false
  kt_InvalidNumber_InvalidIndex : PySem.W.kitOne K (.ref C_InvalidNumber) (.ref C_InvalidIndex) = some false
  kt_InvalidNumber_InvalidWish : PySem.W.kitOne K (.ref C_InvalidNumber) (.ref C_InvalidWish) = some false
  kt_InvalidNumber_InvalidClaim : PySem.W.kitOne K (.ref C_InvalidNumber) (.ref C_InvalidClaim) = some false
  kt_InvalidNumber_NotBorders : PySem.W.kitOne K (.ref C_InvalidNumber) (.ref C_NotBorders) = some false
  kt_InvalidNumber_NotARoom : PySem.W.kitOne K (.ref C_InvalidNumber) (.ref C_NotARoom) = some false
  kt_InvalidNumber_InvalidSizes : PySem.W.kitOne K (.ref C_InvalidNumber) (.ref C_InvalidSizes) = some false
  kt_InvalidNumber_InvalidFilling : PySem.W.kitOne K (.ref C_InvalidNumber) (.ref C_InvalidFilling) = some false
  kt_InvalidNumber_InvalidNames : PySem.W.kitOne K (.ref C_InvalidNumber) (.ref C_InvalidNames) = some false
  kt_InvalidNumber_InvalidLines : PySem.W.kitOne K (.ref C_InvalidNumber) (.ref C_InvalidLines) = some false
  kt_InvalidNumber_BadName : PySem.W.kitOne K (.ref C_InvalidNumber) (.ref C_BadName) = some false
  kt_InvalidNumber_UnknownName : PySem.W.kitOne K (.ref C_InvalidNumber) (.ref C_UnknownName) = some false
  kt_InvalidNumber_InUse : PySem.W.kitOne K (.ref C_InvalidNumber) (.ref C_InUse) = some false
  kt_InvalidNumber_NoAnswer : PySem.W.kitOne K (.ref C_InvalidNumber) (.ref C_NoAnswer) = some false
  kt_InvalidNumber_OtherLetters : PySem.W.kitOne K (.ref C_InvalidNumber) (.ref C_OtherLetters) = some false
  kt_InvalidNumber_TooMany : PySem.W.kitOne K (.ref C_InvalidNumber) (.ref C_TooMany) = some false
  kt_InvalidNumber_NothingToUndo : PySem.W.kitOne K (.ref C_InvalidNumber) (.ref C_NothingToUndo) = some false
  kt_InvalidNumber_NotAsked : PySem.W.kitOne K (.ref C_InvalidNumber) (.ref C_NotAsked) = some false
  kt_InvalidNumber_Broken : PySem.W.kitOne K (.ref C_InvalidNumber) (.ref C_Broken) = some false
  kt_InvalidNumber_ValueError : PySem.W.kitOne K (.ref C_InvalidNumber) (.type "ValueError") = some true
  kt_InvalidNumber_LookupError : PySem.W.kitOne K (.ref C_InvalidNumber) (.type "LookupError") = some false
  kt_InvalidNumber_ArithmeticError : PySem.W.kitOne K (.ref C_InvalidNumber) (.type "ArithmeticError") = some false
  cL : Addr
  P : Addr
  FC : FunC K "_law_right" "_law_right" st__law_right a__law_right d__law_right (.ref cL)
  hTab : tabsK K = [(P, (⟨lamQ, rfl⟩ : LQ))]
  hT : (P, (⟨lamQ, rfl⟩ : LQ)) ∈ tabsK K
theorem own_is {C D : Addr} {b : Bool} (h : gOwn C (.ins D) = some b) : D = C := by
  have h : (if D = C then some true else none) = some b := h
  by_cases e : D = C
  · exact e
  · rw [if_neg e] at h; cases h
theorem own_kit {K : PySem.W.Frag} {C : Addr} (k0 : PySem.W.kitOne K (.type "NoneType") (.ref C) = some false) (k1 : PySem.W.kitOne K (.type "bool") (.ref C) = some false) (k2 : PySem.W.kitOne K (.type "int") (.ref C) = some false) (k3 : PySem.W.kitOne K (.type "str") (.ref C) = some false) (k4 : PySem.W.kitOne K (.type "tuple") (.ref C) = some false) (k5 : PySem.W.kitOne K (.type "list") (.ref C) = some false) (k6 : PySem.W.kitOne K (.type "dict") (.ref C) = some false) (t : Ty) (b : Bool) (h : gOwn C t = some b) : PySem.W.kitOne K t.val (.ref C) = some b := by
  cases t <;> first | (cases h; first | exact k0 | exact k1 | exact k2 | exact k3 | exact k4 | exact k5 | exact k6) | skip
  rename_i D
  have e := own_is h
  subst e
  have h : (if D = D then some true else none) = some b := h
  rw [if_pos rfl] at h
  cases h
  show PySem.W.kitOne K (.ref D) (.ref D) = some true
  unfold PySem.W.kitOne
  rw [if_pos (by simp)]
def mkTx {K : PySem.W.Frag} {h : Heap} {mg : Str → Option Value} (X : K.In h) (G : h.Ns mainGlobals mg) {t_DIGITS : Tok} {t_MOST_SIDES : Tok} {t_MOST_PLUS : Tok} {p_TURNS : Addr} {n_TURNS : Nat} {q_TURNS_0 : Tok} {q_TURNS_1 : Tok} {dd_TURNS : Option Addr} {sl_TURNS : Array (Option Value)} {p_SIDE_LETTERS : Addr} {n_SIDE_LETTERS : Nat} {q_SIDE_LETTERS_0 : Tok} {q_SIDE_LETTERS_1 : Tok} {q_SIDE_LETTERS_2 : Tok} {dd_SIDE_LETTERS : Option Addr} {sl_SIDE_LETTERS : Array (Option Value)} {f_is_any_integer : Addr} {oc_is_any_integer kV_is_any_integer dc_is_any_integer pm_is_any_integer cd_is_any_integer ct_is_any_integer : Value} {od_is_any_integer an_is_any_integer : Option Addr} {sl_is_any_integer : Array (Option Value)} {f_is_integer : Addr} {oc_is_integer kV_is_integer dc_is_integer pm_is_integer cd_is_integer ct_is_integer : Value} {od_is_integer an_is_integer : Option Addr} {sl_is_integer : Array (Option Value)} {f_number_of : Addr} {oc_number_of kV_number_of dc_number_of pm_number_of cd_number_of ct_number_of : Value} {od_number_of an_number_of : Option Addr} {sl_number_of : Array (Option Value)} {f_plus_of : Addr} {oc_plus_of kV_plus_of dc_plus_of pm_plus_of cd_plus_of ct_plus_of : Value} {od_plus_of an_plus_of : Option Addr} {sl_plus_of : Array (Option Value)} {f_plus_text : Addr} {oc_plus_text kV_plus_text dc_plus_text pm_plus_text cd_plus_text ct_plus_text : Value} {od_plus_text an_plus_text : Option Addr} {sl_plus_text : Array (Option Value)} {f_side_of : Addr} {oc_side_of kV_side_of dc_side_of pm_side_of cd_side_of ct_side_of : Value} {od_side_of an_side_of : Option Addr} {sl_side_of : Array (Option Value)} {f_sides_of : Addr} {oc_sides_of kV_sides_of dc_sides_of pm_sides_of cd_sides_of ct_sides_of : Value} {od_sides_of an_sides_of : Option Addr} {sl_sides_of : Array (Option Value)} {f__law_spring : Addr} {oc__law_spring kV__law_spring dc__law_spring pm__law_spring cd__law_spring ct__law_spring : Value} {od__law_spring an__law_spring : Option Addr} {sl__law_spring : Array (Option Value)} {f__law_take : Addr} {oc__law_take kV__law_take dc__law_take pm__law_take cd__law_take ct__law_take : Value} {od__law_take an__law_take : Option Addr} {sl__law_take : Array (Option Value)} {f__law_sort : Addr} {oc__law_sort kV__law_sort dc__law_sort pm__law_sort cd__law_sort ct__law_sort : Value} {od__law_sort an__law_sort : Option Addr} {sl__law_sort : Array (Option Value)} {f__law_told : Addr} {oc__law_told kV__law_told dc__law_told pm__law_told cd__law_told ct__law_told : Value} {od__law_told an__law_told : Option Addr} {sl__law_told : Array (Option Value)} {f__law_caught : Addr} {oc__law_caught kV__law_caught dc__law_caught pm__law_caught cd__law_caught ct__law_caught : Value} {od__law_caught an__law_caught : Option Addr} {sl__law_caught : Array (Option Value)} {f__law_sorts : Addr} {oc__law_sorts kV__law_sorts dc__law_sorts pm__law_sorts cd__law_sorts ct__law_sorts : Value} {od__law_sorts an__law_sorts : Option Addr} {sl__law_sorts : Array (Option Value)} {f__law_shut_row : Addr} {oc__law_shut_row kV__law_shut_row dc__law_shut_row pm__law_shut_row cd__law_shut_row ct__law_shut_row : Value} {od__law_shut_row an__law_shut_row : Option Addr} {sl__law_shut_row : Array (Option Value)} {f__law_plan : Addr} {oc__law_plan kV__law_plan dc__law_plan pm__law_plan cd__law_plan ct__law_plan : Value} {od__law_plan an__law_plan : Option Addr} {sl__law_plan : Array (Option Value)} {f__law_shuts_by : Addr} {oc__law_shuts_by kV__law_shuts_by dc__law_shuts_by pm__law_shuts_by cd__law_shuts_by ct__law_shuts_by : Value} {od__law_shuts_by an__law_shuts_by : Option Addr} {sl__law_shuts_by : Array (Option Value)} {f__law_is : Addr} {oc__law_is kV__law_is dc__law_is pm__law_is cd__law_is ct__law_is : Value} {od__law_is an__law_is : Option Addr} {sl__law_is : Array (Option Value)} {f__law_right : Addr} {oc__law_right kV__law_right dc__law_right pm__law_right cd__law_right ct__law_right : Value} {od__law_right an__law_right : Option Addr} {sl__law_right : Array (Option Value)} {f_law : Addr} {oc_law kV_law dc_law pm_law cd_law ct_law : Value} {od_law an_law : Option Addr} {sl_law : Array (Option Value)} {C_Room : Addr} {f_Room___init__ : Addr} {oc_Room___init__ kV_Room___init__ dc_Room___init__ pm_Room___init__ cd_Room___init__ ct_Room___init__ : Value} {od_Room___init__ an_Room___init__ : Option Addr} {sl_Room___init__ : Array (Option Value)} {f_Room_oblong dT_Room_oblong sp_Room_oblong : Addr} {oc_Room_oblong kV_Room_oblong dc_Room_oblong pm_Room_oblong cd_Room_oblong ct_Room_oblong do_Room_oblong : Value} {od_Room_oblong an_Room_oblong dd_Room_oblong : Option Addr} {sl_Room_oblong ds_Room_oblong : Array (Option Value)} {dn_Room_oblong : Nat} {rest_Room_oblong : List Value} {dt_Room_oblong_0 : Tok} {p_Room_text : Addr} {rest_Room_text : List Value} {f_Room_text : Addr} {oc_Room_text kV_Room_text dc_Room_text pm_Room_text cd_Room_text ct_Room_text : Value} {od_Room_text an_Room_text : Option Addr} {sl_Room_text : Array (Option Value)} {p_Room_sides : Addr} {rest_Room_sides : List Value} {f_Room_sides : Addr} {oc_Room_sides kV_Room_sides dc_Room_sides pm_Room_sides cd_Room_sides ct_Room_sides : Value} {od_Room_sides an_Room_sides : Option Addr} {sl_Room_sides : Array (Option Value)} {p_Room_letters : Addr} {rest_Room_letters : List Value} {f_Room_letters : Addr} {oc_Room_letters kV_Room_letters dc_Room_letters pm_Room_letters cd_Room_letters ct_Room_letters : Value} {od_Room_letters an_Room_letters : Option Addr} {sl_Room_letters : Array (Option Value)} {f_Room___eq__ : Addr} {oc_Room___eq__ kV_Room___eq__ dc_Room___eq__ pm_Room___eq__ cd_Room___eq__ ct_Room___eq__ : Value} {od_Room___eq__ an_Room___eq__ : Option Addr} {sl_Room___eq__ : Array (Option Value)} {f_Room___str__ : Addr} {oc_Room___str__ kV_Room___str__ dc_Room___str__ pm_Room___str__ cd_Room___str__ ct_Room___str__ : Value} {od_Room___str__ an_Room___str__ : Option Addr} {sl_Room___str__ : Array (Option Value)} {f_Room___len__ : Addr} {oc_Room___len__ kV_Room___len__ dc_Room___len__ pm_Room___len__ cd_Room___len__ ct_Room___len__ : Value} {od_Room___len__ an_Room___len__ : Option Addr} {sl_Room___len__ : Array (Option Value)} {C_BadValue : Addr} {C_InvalidText : Addr} {C_InvalidLine : Addr} {C_InvalidState : Addr} {C_InvalidNumber : Addr} {C_InvalidName : Addr} {C_InvalidIndex : Addr} {C_InvalidWish : Addr} {C_InvalidClaim : Addr} {C_NotBorders : Addr} {C_NotARoom : Addr} {C_InvalidSizes : Addr} {C_InvalidFilling : Addr} {C_InvalidNames : Addr} {C_InvalidLines : Addr} {C_BadName : Addr} {C_UnknownName : Addr} {C_InUse : Addr} {C_NoAnswer : Addr} {C_OtherLetters : Addr} {C_TooMany : Addr} {C_NothingToUndo : Addr} {C_NotAsked : Addr} {C_Broken : Addr} {f_InvalidNumber_I : Addr} {oc_InvalidNumber_I kV_InvalidNumber_I dc_InvalidNumber_I pm_InvalidNumber_I cd_InvalidNumber_I ct_InvalidNumber_I : Value} {od_InvalidNumber_I an_InvalidNumber_I : Option Addr} {sl_InvalidNumber_I : Array (Option Value)} {cL : Addr} {P : Addr}
    (z_ValueError : PySem.W.nsIn K mainGlobals "ValueError" = some none)
    (z_LookupError : PySem.W.nsIn K mainGlobals "LookupError" = some none)
    (z_ArithmeticError : PySem.W.nsIn K mainGlobals "ArithmeticError" = some none)
    (z_isinstance : PySem.W.nsIn K mainGlobals "isinstance" = some none)
    (z_int : PySem.W.nsIn K mainGlobals "int" = some none)
    (z_bool : PySem.W.nsIn K mainGlobals "bool" = some none)
    (z_len : PySem.W.nsIn K mainGlobals "len" = some none)
    (z_tuple : PySem.W.nsIn K mainGlobals "tuple" = some none)
    (z_str : PySem.W.nsIn K mainGlobals "str" = some none)
    (z_abs : PySem.W.nsIn K mainGlobals "abs" = some none)
    (z_divmod : PySem.W.nsIn K mainGlobals "divmod" = some none)
    (z_repr : PySem.W.nsIn K mainGlobals "repr" = some none)
    (z_range : PySem.W.nsIn K mainGlobals "range" = some none)
    (z_all : PySem.W.nsIn K mainGlobals "all" = some none)
    (z_max : PySem.W.nsIn K mainGlobals "max" = some none)
    (z_min : PySem.W.nsIn K mainGlobals "min" = some none)
    (z_sorted : PySem.W.nsIn K mainGlobals "sorted" = some none)
    (z_staticmethod : PySem.W.nsIn K mainGlobals "staticmethod" = some none)
    (s_DIGITS : PySem.W.nsIn K mainGlobals "DIGITS" = some (some (.str "0123456789" t_DIGITS)))
    (s_MOST_SIDES : PySem.W.nsIn K mainGlobals "MOST_SIDES" = some (some (.int 12 t_MOST_SIDES)))
    (s_MOST_PLUS : PySem.W.nsIn K mainGlobals "MOST_PLUS" = some (some (.int 9 t_MOST_PLUS)))
    (s_TURNS : PySem.W.nsIn K mainGlobals "TURNS" = some (some (.ref p_TURNS)))
    (l_TURNS : K.lookup p_TURNS = some { cls := .type "tuple", dict := dd_TURNS, data := .seq #[.str "out" q_TURNS_0, .str "in" q_TURNS_1] n_TURNS, slots := sl_TURNS })
    (s_SIDE_LETTERS : PySem.W.nsIn K mainGlobals "SIDE_LETTERS" = some (some (.ref p_SIDE_LETTERS)))
    (l_SIDE_LETTERS : K.lookup p_SIDE_LETTERS = some { cls := .type "tuple", dict := dd_SIDE_LETTERS, data := .seq #[.str "x" q_SIDE_LETTERS_0, .str "y" q_SIDE_LETTERS_1, .str "z" q_SIDE_LETTERS_2] n_SIDE_LETTERS, slots := sl_SIDE_LETTERS })
    (ag_is_any_integer : PySem.W.nsIn K mainGlobals "is_any_integer" = some (some (.ref f_is_any_integer)))
    (l_is_any_integer : K.lookup f_is_any_integer = some ⟨oc_is_any_integer, od_is_any_integer, .func (PySem.W.fnOf "is_any_integer" "is_any_integer" (defArgs st_is_any_integer) (defBody st_is_any_integer) (defScope st_is_any_integer) .none kV_is_any_integer dc_is_any_integer pm_is_any_integer an_is_any_integer cd_is_any_integer ct_is_any_integer), sl_is_any_integer⟩)
    (c_is_any_integer : PySem.W.codeIn K cd_is_any_integer "is_any_integer" = true)
    (k_is_any_integer : PySem.W.keepIn K (.ref f_is_any_integer) = true)
    (ag_is_integer : PySem.W.nsIn K mainGlobals "is_integer" = some (some (.ref f_is_integer)))
    (l_is_integer : K.lookup f_is_integer = some ⟨oc_is_integer, od_is_integer, .func (PySem.W.fnOf "is_integer" "is_integer" (defArgs st_is_integer) (defBody st_is_integer) (defScope st_is_integer) .none kV_is_integer dc_is_integer pm_is_integer an_is_integer cd_is_integer ct_is_integer), sl_is_integer⟩)
    (c_is_integer : PySem.W.codeIn K cd_is_integer "is_integer" = true)
    (k_is_integer : PySem.W.keepIn K (.ref f_is_integer) = true)
    (ag_number_of : PySem.W.nsIn K mainGlobals "number_of" = some (some (.ref f_number_of)))
    (l_number_of : K.lookup f_number_of = some ⟨oc_number_of, od_number_of, .func (PySem.W.fnOf "number_of" "number_of" (defArgs st_number_of) (defBody st_number_of) (defScope st_number_of) .none kV_number_of dc_number_of pm_number_of an_number_of cd_number_of ct_number_of), sl_number_of⟩)
    (c_number_of : PySem.W.codeIn K cd_number_of "number_of" = true)
    (k_number_of : PySem.W.keepIn K (.ref f_number_of) = true)
    (ag_plus_of : PySem.W.nsIn K mainGlobals "plus_of" = some (some (.ref f_plus_of)))
    (l_plus_of : K.lookup f_plus_of = some ⟨oc_plus_of, od_plus_of, .func (PySem.W.fnOf "plus_of" "plus_of" (defArgs st_plus_of) (defBody st_plus_of) (defScope st_plus_of) .none kV_plus_of dc_plus_of pm_plus_of an_plus_of cd_plus_of ct_plus_of), sl_plus_of⟩)
    (c_plus_of : PySem.W.codeIn K cd_plus_of "plus_of" = true)
    (k_plus_of : PySem.W.keepIn K (.ref f_plus_of) = true)
    (ag_plus_text : PySem.W.nsIn K mainGlobals "plus_text" = some (some (.ref f_plus_text)))
    (l_plus_text : K.lookup f_plus_text = some ⟨oc_plus_text, od_plus_text, .func (PySem.W.fnOf "plus_text" "plus_text" (defArgs st_plus_text) (defBody st_plus_text) (defScope st_plus_text) .none kV_plus_text dc_plus_text pm_plus_text an_plus_text cd_plus_text ct_plus_text), sl_plus_text⟩)
    (c_plus_text : PySem.W.codeIn K cd_plus_text "plus_text" = true)
    (k_plus_text : PySem.W.keepIn K (.ref f_plus_text) = true)
    (ag_side_of : PySem.W.nsIn K mainGlobals "side_of" = some (some (.ref f_side_of)))
    (l_side_of : K.lookup f_side_of = some ⟨oc_side_of, od_side_of, .func (PySem.W.fnOf "side_of" "side_of" (defArgs st_side_of) (defBody st_side_of) (defScope st_side_of) .none kV_side_of dc_side_of pm_side_of an_side_of cd_side_of ct_side_of), sl_side_of⟩)
    (c_side_of : PySem.W.codeIn K cd_side_of "side_of" = true)
    (k_side_of : PySem.W.keepIn K (.ref f_side_of) = true)
    (ag_sides_of : PySem.W.nsIn K mainGlobals "sides_of" = some (some (.ref f_sides_of)))
    (l_sides_of : K.lookup f_sides_of = some ⟨oc_sides_of, od_sides_of, .func (PySem.W.fnOf "sides_of" "sides_of" (defArgs st_sides_of) (defBody st_sides_of) (defScope st_sides_of) .none kV_sides_of dc_sides_of pm_sides_of an_sides_of cd_sides_of ct_sides_of), sl_sides_of⟩)
    (c_sides_of : PySem.W.codeIn K cd_sides_of "sides_of" = true)
    (k_sides_of : PySem.W.keepIn K (.ref f_sides_of) = true)
    (ag__law_spring : PySem.W.nsIn K mainGlobals "_law_spring" = some (some (.ref f__law_spring)))
    (l__law_spring : K.lookup f__law_spring = some ⟨oc__law_spring, od__law_spring, .func (PySem.W.fnOf "_law_spring" "_law_spring" (defArgs st__law_spring) (defBody st__law_spring) (defScope st__law_spring) .none kV__law_spring dc__law_spring pm__law_spring an__law_spring cd__law_spring ct__law_spring), sl__law_spring⟩)
    (c__law_spring : PySem.W.codeIn K cd__law_spring "_law_spring" = true)
    (k__law_spring : PySem.W.keepIn K (.ref f__law_spring) = true)
    (ag__law_take : PySem.W.nsIn K mainGlobals "_law_take" = some (some (.ref f__law_take)))
    (l__law_take : K.lookup f__law_take = some ⟨oc__law_take, od__law_take, .func (PySem.W.fnOf "_law_take" "_law_take" (defArgs st__law_take) (defBody st__law_take) (defScope st__law_take) .none kV__law_take dc__law_take pm__law_take an__law_take cd__law_take ct__law_take), sl__law_take⟩)
    (c__law_take : PySem.W.codeIn K cd__law_take "_law_take" = true)
    (k__law_take : PySem.W.keepIn K (.ref f__law_take) = true)
    (ag__law_sort : PySem.W.nsIn K mainGlobals "_law_sort" = some (some (.ref f__law_sort)))
    (l__law_sort : K.lookup f__law_sort = some ⟨oc__law_sort, od__law_sort, .func (PySem.W.fnOf "_law_sort" "_law_sort" (defArgs st__law_sort) (defBody st__law_sort) (defScope st__law_sort) .none kV__law_sort dc__law_sort pm__law_sort an__law_sort cd__law_sort ct__law_sort), sl__law_sort⟩)
    (c__law_sort : PySem.W.codeIn K cd__law_sort "_law_sort" = true)
    (k__law_sort : PySem.W.keepIn K (.ref f__law_sort) = true)
    (ag__law_told : PySem.W.nsIn K mainGlobals "_law_told" = some (some (.ref f__law_told)))
    (l__law_told : K.lookup f__law_told = some ⟨oc__law_told, od__law_told, .func (PySem.W.fnOf "_law_told" "_law_told" (defArgs st__law_told) (defBody st__law_told) (defScope st__law_told) .none kV__law_told dc__law_told pm__law_told an__law_told cd__law_told ct__law_told), sl__law_told⟩)
    (c__law_told : PySem.W.codeIn K cd__law_told "_law_told" = true)
    (k__law_told : PySem.W.keepIn K (.ref f__law_told) = true)
    (ag__law_caught : PySem.W.nsIn K mainGlobals "_law_caught" = some (some (.ref f__law_caught)))
    (l__law_caught : K.lookup f__law_caught = some ⟨oc__law_caught, od__law_caught, .func (PySem.W.fnOf "_law_caught" "_law_caught" (defArgs st__law_caught) (defBody st__law_caught) (defScope st__law_caught) .none kV__law_caught dc__law_caught pm__law_caught an__law_caught cd__law_caught ct__law_caught), sl__law_caught⟩)
    (c__law_caught : PySem.W.codeIn K cd__law_caught "_law_caught" = true)
    (k__law_caught : PySem.W.keepIn K (.ref f__law_caught) = true)
    (ag__law_sorts : PySem.W.nsIn K mainGlobals "_law_sorts" = some (some (.ref f__law_sorts)))
    (l__law_sorts : K.lookup f__law_sorts = some ⟨oc__law_sorts, od__law_sorts, .func (PySem.W.fnOf "_law_sorts" "_law_sorts" (defArgs st__law_sorts) (defBody st__law_sorts) (defScope st__law_sorts) .none kV__law_sorts dc__law_sorts pm__law_sorts an__law_sorts cd__law_sorts ct__law_sorts), sl__law_sorts⟩)
    (c__law_sorts : PySem.W.codeIn K cd__law_sorts "_law_sorts" = true)
    (k__law_sorts : PySem.W.keepIn K (.ref f__law_sorts) = true)
    (ag__law_shut_row : PySem.W.nsIn K mainGlobals "_law_shut_row" = some (some (.ref f__law_shut_row)))
    (l__law_shut_row : K.lookup f__law_shut_row = some ⟨oc__law_shut_row, od__law_shut_row, .func (PySem.W.fnOf "_law_shut_row" "_law_shut_row" (defArgs st__law_shut_row) (defBody st__law_shut_row) (defScope st__law_shut_row) .none kV__law_shut_row dc__law_shut_row pm__law_shut_row an__law_shut_row cd__law_shut_row ct__law_shut_row), sl__law_shut_row⟩)
    (c__law_shut_row : PySem.W.codeIn K cd__law_shut_row "_law_shut_row" = true)
    (k__law_shut_row : PySem.W.keepIn K (.ref f__law_shut_row) = true)
    (ag__law_plan : PySem.W.nsIn K mainGlobals "_law_plan" = some (some (.ref f__law_plan)))
    (l__law_plan : K.lookup f__law_plan = some ⟨oc__law_plan, od__law_plan, .func (PySem.W.fnOf "_law_plan" "_law_plan" (defArgs st__law_plan) (defBody st__law_plan) (defScope st__law_plan) .none kV__law_plan dc__law_plan pm__law_plan an__law_plan cd__law_plan ct__law_plan), sl__law_plan⟩)
    (c__law_plan : PySem.W.codeIn K cd__law_plan "_law_plan" = true)
    (k__law_plan : PySem.W.keepIn K (.ref f__law_plan) = true)
    (ag__law_shuts_by : PySem.W.nsIn K mainGlobals "_law_shuts_by" = some (some (.ref f__law_shuts_by)))
    (l__law_shuts_by : K.lookup f__law_shuts_by = some ⟨oc__law_shuts_by, od__law_shuts_by, .func (PySem.W.fnOf "_law_shuts_by" "_law_shuts_by" (defArgs st__law_shuts_by) (defBody st__law_shuts_by) (defScope st__law_shuts_by) .none kV__law_shuts_by dc__law_shuts_by pm__law_shuts_by an__law_shuts_by cd__law_shuts_by ct__law_shuts_by), sl__law_shuts_by⟩)
    (c__law_shuts_by : PySem.W.codeIn K cd__law_shuts_by "_law_shuts_by" = true)
    (k__law_shuts_by : PySem.W.keepIn K (.ref f__law_shuts_by) = true)
    (ag__law_is : PySem.W.nsIn K mainGlobals "_law_is" = some (some (.ref f__law_is)))
    (l__law_is : K.lookup f__law_is = some ⟨oc__law_is, od__law_is, .func (PySem.W.fnOf "_law_is" "_law_is" (defArgs st__law_is) (defBody st__law_is) (defScope st__law_is) .none kV__law_is dc__law_is pm__law_is an__law_is cd__law_is ct__law_is), sl__law_is⟩)
    (c__law_is : PySem.W.codeIn K cd__law_is "_law_is" = true)
    (k__law_is : PySem.W.keepIn K (.ref f__law_is) = true)
    (ag__law_right : PySem.W.nsIn K mainGlobals "_law_right" = some (some (.ref f__law_right)))
    (l__law_right : K.lookup f__law_right = some ⟨oc__law_right, od__law_right, .func (PySem.W.fnOf "_law_right" "_law_right" (defArgs st__law_right) (defBody st__law_right) (defScope st__law_right) .none kV__law_right dc__law_right pm__law_right an__law_right cd__law_right ct__law_right), sl__law_right⟩)
    (c__law_right : PySem.W.codeIn K cd__law_right "_law_right" = true)
    (k__law_right : PySem.W.keepIn K (.ref f__law_right) = true)
    (ag_law : PySem.W.nsIn K mainGlobals "law" = some (some (.ref f_law)))
    (l_law : K.lookup f_law = some ⟨oc_law, od_law, .func (PySem.W.fnOf "law" "law" (defArgs st_law) (defBody st_law) (defScope st_law) .none kV_law dc_law pm_law an_law cd_law ct_law), sl_law⟩)
    (c_law : PySem.W.codeIn K cd_law "law" = true)
    (k_law : PySem.W.keepIn K (.ref f_law) = true)
    (aC_Room : PySem.W.nsIn K mainGlobals "Room" = some (some (.ref C_Room)))
    (pg_Room : PySem.W.plainGet K C_Room Str.empty = true)
    (hd_Room : PySem.W.hasDictIn K C_Room = true)
    (po_Room : PySem.W.plainOver K C_Room = true)
    (sa_Room : PySem.W.findIn K (.ref C_Room) "__setattr__" = some (some (.builtin "object.__setattr__")))
    (mk_Room : PySem.W.makesIn K C_Room = true)
    (kc_Room : PySem.W.keepIn K (.ref C_Room) = true)
    (ne_Room : PySem.W.findIn K (.ref C_Room) "__ne__" = some (some (.builtin "object.__ne__")))
    (mro_Room : PySem.W.mroIn K C_Room (.type "object") = some true)
    (bool_Room : PySem.W.findIn K (.ref C_Room) "__bool__" = some none)
    (hcl_Room : PySem.W.findIn K (.ref C_Room) "__class__" = some (some (.builtin "object.__class__")))
    (hsp_Room : PySem.W.specialIn K (.builtin "object.__class__") "__get__" = some (some (.builtin "getset_descriptor.__get__")))
    (htk_Room : PySem.W.takesIn K (.builtin "object.__class__") = some true)
    (kwNoneType_Room : PySem.W.kitOne K (.type "NoneType") (.ref C_Room) = some false)
    (kwbool_Room : PySem.W.kitOne K (.type "bool") (.ref C_Room) = some false)
    (kwint_Room : PySem.W.kitOne K (.type "int") (.ref C_Room) = some false)
    (kwstr_Room : PySem.W.kitOne K (.type "str") (.ref C_Room) = some false)
    (kwtuple_Room : PySem.W.kitOne K (.type "tuple") (.ref C_Room) = some false)
    (kwlist_Room : PySem.W.kitOne K (.type "list") (.ref C_Room) = some false)
    (kwdict_Room : PySem.W.kitOne K (.type "dict") (.ref C_Room) = some false)
    (na_whole_Room : PySem.W.findIn K (.ref C_Room) "whole" = some none)
    (na_rows_Room : PySem.W.findIn K (.ref C_Room) "rows" = some none)
    (na_alphabet_Room : PySem.W.findIn K (.ref C_Room) "alphabet" = some none)
    (l_Room___init__ : K.lookup f_Room___init__ = some ⟨oc_Room___init__, od_Room___init__, .func (PySem.W.fnOf "__init__" "Room.__init__" (defArgs st_Room___init__) (defBody st_Room___init__) (defScope st_Room___init__) .none kV_Room___init__ dc_Room___init__ pm_Room___init__ an_Room___init__ cd_Room___init__ ct_Room___init__), sl_Room___init__⟩)
    (c_Room___init__ : PySem.W.codeIn K cd_Room___init__ "Room.__init__" = true)
    (k_Room___init__ : PySem.W.keepIn K (.ref f_Room___init__) = true)
    (e_Room___init__ : PySem.W.findIn K (.ref C_Room) "__init__" = some (some (.ref f_Room___init__)))
    (i_Room___init__ : PySem.W.isFn K (.ref f_Room___init__) = true)
    (e_Room_oblong : PySem.W.findIn K (.ref C_Room) "oblong" = some (some (.ref sp_Room_oblong)))
    (fc_Room_oblong : PySem.W.findCls K (.ref C_Room) (.type "type") "oblong" = some (.get (.builtin "staticmethod.__get__") (.ref sp_Room_oblong) .none (.ref C_Room)))
    (r_Room_oblong : PySem.W.recIn K sp_Room_oblong "staticmethod" = some (.ref f_Room_oblong :: rest_Room_oblong))
    (rd_Room_oblong : PySem.W.readsIn K C_Room (.type "type") = true)
    (ga_Room_oblong : PySem.W.specialIn K (.ref C_Room) "__getattribute__" = some (some (.builtin "type.__getattribute__")))
    (l_Room_oblong : K.lookup f_Room_oblong = some ⟨oc_Room_oblong, od_Room_oblong, .func (PySem.W.fnOf "oblong" "Room.oblong" (defArgs st_Room_oblong) (defBody st_Room_oblong) (defScope st_Room_oblong) (.ref dT_Room_oblong) kV_Room_oblong dc_Room_oblong pm_Room_oblong an_Room_oblong cd_Room_oblong ct_Room_oblong), sl_Room_oblong⟩)
    (c_Room_oblong : PySem.W.codeIn K cd_Room_oblong "Room.oblong" = true)
    (k_Room_oblong : PySem.W.keepIn K (.ref f_Room_oblong) = true)
    (ld_Room_oblong : K.lookup dT_Room_oblong = some { cls := do_Room_oblong, dict := dd_Room_oblong, data := .seq #[Value.int 0 dt_Room_oblong_0] dn_Room_oblong, slots := ds_Room_oblong })
    (l_Room_text : K.lookup f_Room_text = some ⟨oc_Room_text, od_Room_text, .func (PySem.W.fnOf "text" "Room.text" (defArgs st_Room_text) (defBody st_Room_text) (defScope st_Room_text) .none kV_Room_text dc_Room_text pm_Room_text an_Room_text cd_Room_text ct_Room_text), sl_Room_text⟩)
    (c_Room_text : PySem.W.codeIn K cd_Room_text "Room.text" = true)
    (k_Room_text : PySem.W.keepIn K (.ref f_Room_text) = true)
    (e_Room_text : PySem.W.findIn K (.ref C_Room) "text" = some (some (.ref p_Room_text)))
    (g_Room_text : PySem.W.specialIn K (.ref p_Room_text) "__get__" = some (some (.builtin "property.__get__")))
    (tk_Room_text : PySem.W.takesIn K (.ref p_Room_text) = some true)
    (r_Room_text : PySem.W.recIn K p_Room_text "property" = some (.ref f_Room_text :: rest_Room_text))
    (l_Room_sides : K.lookup f_Room_sides = some ⟨oc_Room_sides, od_Room_sides, .func (PySem.W.fnOf "sides" "Room.sides" (defArgs st_Room_sides) (defBody st_Room_sides) (defScope st_Room_sides) .none kV_Room_sides dc_Room_sides pm_Room_sides an_Room_sides cd_Room_sides ct_Room_sides), sl_Room_sides⟩)
    (c_Room_sides : PySem.W.codeIn K cd_Room_sides "Room.sides" = true)
    (k_Room_sides : PySem.W.keepIn K (.ref f_Room_sides) = true)
    (e_Room_sides : PySem.W.findIn K (.ref C_Room) "sides" = some (some (.ref p_Room_sides)))
    (g_Room_sides : PySem.W.specialIn K (.ref p_Room_sides) "__get__" = some (some (.builtin "property.__get__")))
    (tk_Room_sides : PySem.W.takesIn K (.ref p_Room_sides) = some true)
    (r_Room_sides : PySem.W.recIn K p_Room_sides "property" = some (.ref f_Room_sides :: rest_Room_sides))
    (l_Room_letters : K.lookup f_Room_letters = some ⟨oc_Room_letters, od_Room_letters, .func (PySem.W.fnOf "letters" "Room.letters" (defArgs st_Room_letters) (defBody st_Room_letters) (defScope st_Room_letters) .none kV_Room_letters dc_Room_letters pm_Room_letters an_Room_letters cd_Room_letters ct_Room_letters), sl_Room_letters⟩)
    (c_Room_letters : PySem.W.codeIn K cd_Room_letters "Room.letters" = true)
    (k_Room_letters : PySem.W.keepIn K (.ref f_Room_letters) = true)
    (e_Room_letters : PySem.W.findIn K (.ref C_Room) "letters" = some (some (.ref p_Room_letters)))
    (g_Room_letters : PySem.W.specialIn K (.ref p_Room_letters) "__get__" = some (some (.builtin "property.__get__")))
    (tk_Room_letters : PySem.W.takesIn K (.ref p_Room_letters) = some true)
    (r_Room_letters : PySem.W.recIn K p_Room_letters "property" = some (.ref f_Room_letters :: rest_Room_letters))
    (l_Room___eq__ : K.lookup f_Room___eq__ = some ⟨oc_Room___eq__, od_Room___eq__, .func (PySem.W.fnOf "__eq__" "Room.__eq__" (defArgs st_Room___eq__) (defBody st_Room___eq__) (defScope st_Room___eq__) .none kV_Room___eq__ dc_Room___eq__ pm_Room___eq__ an_Room___eq__ cd_Room___eq__ ct_Room___eq__), sl_Room___eq__⟩)
    (c_Room___eq__ : PySem.W.codeIn K cd_Room___eq__ "Room.__eq__" = true)
    (k_Room___eq__ : PySem.W.keepIn K (.ref f_Room___eq__) = true)
    (e_Room___eq__ : PySem.W.findIn K (.ref C_Room) "__eq__" = some (some (.ref f_Room___eq__)))
    (i_Room___eq__ : PySem.W.isFn K (.ref f_Room___eq__) = true)
    (l_Room___str__ : K.lookup f_Room___str__ = some ⟨oc_Room___str__, od_Room___str__, .func (PySem.W.fnOf "__str__" "Room.__str__" (defArgs st_Room___str__) (defBody st_Room___str__) (defScope st_Room___str__) .none kV_Room___str__ dc_Room___str__ pm_Room___str__ an_Room___str__ cd_Room___str__ ct_Room___str__), sl_Room___str__⟩)
    (c_Room___str__ : PySem.W.codeIn K cd_Room___str__ "Room.__str__" = true)
    (k_Room___str__ : PySem.W.keepIn K (.ref f_Room___str__) = true)
    (e_Room___str__ : PySem.W.findIn K (.ref C_Room) "__str__" = some (some (.ref f_Room___str__)))
    (i_Room___str__ : PySem.W.isFn K (.ref f_Room___str__) = true)
    (l_Room___len__ : K.lookup f_Room___len__ = some ⟨oc_Room___len__, od_Room___len__, .func (PySem.W.fnOf "__len__" "Room.__len__" (defArgs st_Room___len__) (defBody st_Room___len__) (defScope st_Room___len__) .none kV_Room___len__ dc_Room___len__ pm_Room___len__ an_Room___len__ cd_Room___len__ ct_Room___len__), sl_Room___len__⟩)
    (c_Room___len__ : PySem.W.codeIn K cd_Room___len__ "Room.__len__" = true)
    (k_Room___len__ : PySem.W.keepIn K (.ref f_Room___len__) = true)
    (e_Room___len__ : PySem.W.findIn K (.ref C_Room) "__len__" = some (some (.ref f_Room___len__)))
    (i_Room___len__ : PySem.W.isFn K (.ref f_Room___len__) = true)
    (aC_BadValue : PySem.W.nsIn K mainGlobals "BadValue" = some (some (.ref C_BadValue)))
    (aC_InvalidText : PySem.W.nsIn K mainGlobals "InvalidText" = some (some (.ref C_InvalidText)))
    (aC_InvalidLine : PySem.W.nsIn K mainGlobals "InvalidLine" = some (some (.ref C_InvalidLine)))
    (aC_InvalidState : PySem.W.nsIn K mainGlobals "InvalidState" = some (some (.ref C_InvalidState)))
    (aC_InvalidNumber : PySem.W.nsIn K mainGlobals "InvalidNumber" = some (some (.ref C_InvalidNumber)))
    (aC_InvalidName : PySem.W.nsIn K mainGlobals "InvalidName" = some (some (.ref C_InvalidName)))
    (aC_InvalidIndex : PySem.W.nsIn K mainGlobals "InvalidIndex" = some (some (.ref C_InvalidIndex)))
    (aC_InvalidWish : PySem.W.nsIn K mainGlobals "InvalidWish" = some (some (.ref C_InvalidWish)))
    (aC_InvalidClaim : PySem.W.nsIn K mainGlobals "InvalidClaim" = some (some (.ref C_InvalidClaim)))
    (aC_NotBorders : PySem.W.nsIn K mainGlobals "NotBorders" = some (some (.ref C_NotBorders)))
    (aC_NotARoom : PySem.W.nsIn K mainGlobals "NotARoom" = some (some (.ref C_NotARoom)))
    (aC_InvalidSizes : PySem.W.nsIn K mainGlobals "InvalidSizes" = some (some (.ref C_InvalidSizes)))
    (aC_InvalidFilling : PySem.W.nsIn K mainGlobals "InvalidFilling" = some (some (.ref C_InvalidFilling)))
    (aC_InvalidNames : PySem.W.nsIn K mainGlobals "InvalidNames" = some (some (.ref C_InvalidNames)))
    (aC_InvalidLines : PySem.W.nsIn K mainGlobals "InvalidLines" = some (some (.ref C_InvalidLines)))
    (aC_BadName : PySem.W.nsIn K mainGlobals "BadName" = some (some (.ref C_BadName)))
    (aC_UnknownName : PySem.W.nsIn K mainGlobals "UnknownName" = some (some (.ref C_UnknownName)))
    (aC_InUse : PySem.W.nsIn K mainGlobals "InUse" = some (some (.ref C_InUse)))
    (aC_NoAnswer : PySem.W.nsIn K mainGlobals "NoAnswer" = some (some (.ref C_NoAnswer)))
    (aC_OtherLetters : PySem.W.nsIn K mainGlobals "OtherLetters" = some (some (.ref C_OtherLetters)))
    (aC_TooMany : PySem.W.nsIn K mainGlobals "TooMany" = some (some (.ref C_TooMany)))
    (aC_NothingToUndo : PySem.W.nsIn K mainGlobals "NothingToUndo" = some (some (.ref C_NothingToUndo)))
    (aC_NotAsked : PySem.W.nsIn K mainGlobals "NotAsked" = some (some (.ref C_NotAsked)))
    (aC_Broken : PySem.W.nsIn K mainGlobals "Broken" = some (some (.ref C_Broken)))
    (oex_InvalidNumber : oexB K C_InvalidNumber = true)
    (ecl_InvalidNumber : (PySem.W.clsIn K C_InvalidNumber).isSome = true)
    (ehd_InvalidNumber : PySem.W.hasDictIn K C_InvalidNumber = true)
    (ega_InvalidNumber : PySem.W.findIn K (.ref C_InvalidNumber) "__getattribute__" = some (some (.builtin "BaseException.__getattribute__")))
    (egt_InvalidNumber : PySem.W.findIn K (.ref C_InvalidNumber) "__getattr__" = some none)
    (esu_InvalidNumber : PySem.W.subIn K (.ref C_InvalidNumber) (.type "BaseException") = some true)
    (ehc_InvalidNumber : PySem.W.findIn K (.ref C_InvalidNumber) "__class__" = some (some (.builtin "object.__class__")))
    (esp_InvalidNumber : PySem.W.specialIn K (.builtin "object.__class__") "__get__" = some (some (.builtin "getset_descriptor.__get__")))
    (etk_InvalidNumber : PySem.W.takesIn K (.builtin "object.__class__") = some true)
    (emr_InvalidNumber : PySem.W.mroIn K C_InvalidNumber (.type "object") = some true)
    (esa_InvalidNumber : PySem.W.findIn K (.ref C_InvalidNumber) "__setattr__" = some (some (.builtin "object.__setattr__")))
    (ety_InvalidNumber : PySem.W.typeIn K (.ref C_InvalidNumber) = some (.type "type"))
    (ekp_InvalidNumber : PySem.W.keepIn K (.ref C_InvalidNumber) = true)
    (enogiven_InvalidNumber : PySem.W.findIn K (.ref C_InvalidNumber) "given" = some none)
    (enoindex_InvalidNumber : PySem.W.findIn K (.ref C_InvalidNumber) "index" = some none)
    (enoshown_InvalidNumber : PySem.W.findIn K (.ref C_InvalidNumber) "shown" = some none)
    (enolimit_InvalidNumber : PySem.W.findIn K (.ref C_InvalidNumber) "limit" = some none)
    (exm_InvalidNumber : PySem.W.exmAny K (.ref C_InvalidNumber) [.ref C_BadValue, .ref C_BadName, .ref C_NoAnswer] = some true)
    (kt_InvalidNumber_BadValue : PySem.W.kitOne K (.ref C_InvalidNumber) (.ref C_BadValue) = some true)
    (kt_InvalidNumber_InvalidText : PySem.W.kitOne K (.ref C_InvalidNumber) (.ref C_InvalidText) = some false)
    (kt_InvalidNumber_InvalidLine : PySem.W.kitOne K (.ref C_InvalidNumber) (.ref C_InvalidLine) = some false)
    (kt_InvalidNumber_InvalidState : PySem.W.kitOne K (.ref C_InvalidNumber) (.ref C_InvalidState) = some false)
    (kt_InvalidNumber_InvalidNumber : PySem.W.kitOne K (.ref C_InvalidNumber) (.ref C_InvalidNumber) = some true)
    (kt_InvalidNumber_InvalidName : PySem.W.kitOne K (.ref C_InvalidNumber) (.ref C_InvalidName) = some false)
    (kt_InvalidNumber_InvalidIndex : PySem.W.kitOne K (.ref C_InvalidNumber) (.ref C_InvalidIndex) = some false)
    (kt_InvalidNumber_InvalidWish : PySem.W.kitOne K (.ref C_InvalidNumber) (.ref C_InvalidWish) = some false)
    (kt_InvalidNumber_InvalidClaim : PySem.W.kitOne K (.ref C_InvalidNumber) (.ref C_InvalidClaim) = some false)
    (kt_InvalidNumber_NotBorders : PySem.W.kitOne K (.ref C_InvalidNumber) (.ref C_NotBorders) = some false)
    (kt_InvalidNumber_NotARoom : PySem.W.kitOne K (.ref C_InvalidNumber) (.ref C_NotARoom) = some false)
    (kt_InvalidNumber_InvalidSizes : PySem.W.kitOne K (.ref C_InvalidNumber) (.ref C_InvalidSizes) = some false)
    (kt_InvalidNumber_InvalidFilling : PySem.W.kitOne K (.ref C_InvalidNumber) (.ref C_InvalidFilling) = some false)
    (kt_InvalidNumber_InvalidNames : PySem.W.kitOne K (.ref C_InvalidNumber) (.ref C_InvalidNames) = some false)
    (kt_InvalidNumber_InvalidLines : PySem.W.kitOne K (.ref C_InvalidNumber) (.ref C_InvalidLines) = some false)
    (kt_InvalidNumber_BadName : PySem.W.kitOne K (.ref C_InvalidNumber) (.ref C_BadName) = some false)
    (kt_InvalidNumber_UnknownName : PySem.W.kitOne K (.ref C_InvalidNumber) (.ref C_UnknownName) = some false)
    (kt_InvalidNumber_InUse : PySem.W.kitOne K (.ref C_InvalidNumber) (.ref C_InUse) = some false)
    (kt_InvalidNumber_NoAnswer : PySem.W.kitOne K (.ref C_InvalidNumber) (.ref C_NoAnswer) = some false)
    (kt_InvalidNumber_OtherLetters : PySem.W.kitOne K (.ref C_InvalidNumber) (.ref C_OtherLetters) = some false)
    (kt_InvalidNumber_TooMany : PySem.W.kitOne K (.ref C_InvalidNumber) (.ref C_TooMany) = some false)
    (kt_InvalidNumber_NothingToUndo : PySem.W.kitOne K (.ref C_InvalidNumber) (.ref C_NothingToUndo) = some false)
    (kt_InvalidNumber_NotAsked : PySem.W.kitOne K (.ref C_InvalidNumber) (.ref C_NotAsked) = some false)
    (kt_InvalidNumber_Broken : PySem.W.kitOne K (.ref C_InvalidNumber) (.ref C_Broken) = some false)
    (kt_InvalidNumber_ValueError : PySem.W.kitOne K (.ref C_InvalidNumber) (.type "ValueError") = some true)
    (kt_InvalidNumber_LookupError : PySem.W.kitOne K (.ref C_InvalidNumber) (.type "LookupError") = some false)
    (kt_InvalidNumber_ArithmeticError : PySem.W.kitOne K (.ref C_InvalidNumber) (.type "ArithmeticError") = some false)
    (e_InvalidNumber_I : PySem.W.findIn K (.ref C_InvalidNumber) "__init__" = some (some (.ref f_InvalidNumber_I)))
    (l_InvalidNumber_I : K.lookup f_InvalidNumber_I = some ⟨oc_InvalidNumber_I, od_InvalidNumber_I, .func (PySem.W.fnOf "__init__" "InvalidNumber.__init__" (defArgs stI_InvalidNumber) (defBody stI_InvalidNumber) (defScope stI_InvalidNumber) .none kV_InvalidNumber_I dc_InvalidNumber_I pm_InvalidNumber_I an_InvalidNumber_I cd_InvalidNumber_I ct_InvalidNumber_I), sl_InvalidNumber_I⟩)
    (c_InvalidNumber_I : PySem.W.codeIn K cd_InvalidNumber_I "InvalidNumber.__init__" = true)
    (k_InvalidNumber_I : PySem.W.keepIn K (.ref f_InvalidNumber_I) = true)
    (t_InvalidNumber_I : PySem.W.typeIn K (.ref f_InvalidNumber_I) = some (.type "function"))
    (hcd : cd__law_right = .ref cL)
    (hTab : tabsK K = [(P, (⟨lamQ, rfl⟩ : LQ))]) : Tx K mg where
  n_ValueError := PySem.W.mg_none_of X G z_ValueError
  n_LookupError := PySem.W.mg_none_of X G z_LookupError
  n_ArithmeticError := PySem.W.mg_none_of X G z_ArithmeticError
  n_isinstance := PySem.W.mg_none_of X G z_isinstance
  n_int := PySem.W.mg_none_of X G z_int
  n_bool := PySem.W.mg_none_of X G z_bool
  n_len := PySem.W.mg_none_of X G z_len
  n_tuple := PySem.W.mg_none_of X G z_tuple
  n_str := PySem.W.mg_none_of X G z_str
  n_abs := PySem.W.mg_none_of X G z_abs
  n_divmod := PySem.W.mg_none_of X G z_divmod
  n_repr := PySem.W.mg_none_of X G z_repr
  n_range := PySem.W.mg_none_of X G z_range
  n_all := PySem.W.mg_none_of X G z_all
  n_max := PySem.W.mg_none_of X G z_max
  n_min := PySem.W.mg_none_of X G z_min
  n_sorted := PySem.W.mg_none_of X G z_sorted
  n_staticmethod := PySem.W.mg_none_of X G z_staticmethod
  c_DIGITS := ⟨_, PySem.W.mg_of X G s_DIGITS⟩
  c_MOST_SIDES := ⟨_, PySem.W.mg_of X G s_MOST_SIDES⟩
  c_MOST_PLUS := ⟨_, PySem.W.mg_of X G s_MOST_PLUS⟩
  c_TURNS := ⟨_, PySem.W.mg_of X G s_TURNS, fun H => .inr ⟨_, _, _, l_TURNS, rfl, rfl, by show 2 ≤ sizeLine; decide, .cons ⟨_, rfl⟩ (.cons ⟨_, rfl⟩ (.nil))⟩⟩
  c_SIDE_LETTERS := ⟨_, PySem.W.mg_of X G s_SIDE_LETTERS, fun H => .inr ⟨_, _, _, l_SIDE_LETTERS, rfl, rfl, by show 3 ≤ sizeLine; decide, .cons ⟨_, rfl⟩ (.cons ⟨_, rfl⟩ (.cons ⟨_, rfl⟩ (.nil)))⟩⟩
  a_is_any_integer := f_is_any_integer
  d_is_any_integer := PySem.W.fnOf "is_any_integer" "is_any_integer" (defArgs st_is_any_integer) (defBody st_is_any_integer) (defScope st_is_any_integer) .none kV_is_any_integer dc_is_any_integer pm_is_any_integer an_is_any_integer cd_is_any_integer ct_is_any_integer
  F_is_any_integer := fun_mk (st := st_is_any_integer) l_is_any_integer c_is_any_integer k_is_any_integer
  b_is_any_integer := (fun_mk (st := st_is_any_integer) l_is_any_integer c_is_any_integer k_is_any_integer).binds (ps := ["value"]) fun _ _ _ _ _ _ us hl => match us, hl with | [_], _ => rfl
  g_is_any_integer := PySem.W.mg_of X G ag_is_any_integer
  a_is_integer := f_is_integer
  d_is_integer := PySem.W.fnOf "is_integer" "is_integer" (defArgs st_is_integer) (defBody st_is_integer) (defScope st_is_integer) .none kV_is_integer dc_is_integer pm_is_integer an_is_integer cd_is_integer ct_is_integer
  F_is_integer := fun_mk (st := st_is_integer) l_is_integer c_is_integer k_is_integer
  b_is_integer := (fun_mk (st := st_is_integer) l_is_integer c_is_integer k_is_integer).binds (ps := ["value", "least", "most"]) fun _ _ _ _ _ _ us hl => match us, hl with | [_, _, _], _ => rfl
  g_is_integer := PySem.W.mg_of X G ag_is_integer
  a_number_of := f_number_of
  d_number_of := PySem.W.fnOf "number_of" "number_of" (defArgs st_number_of) (defBody st_number_of) (defScope st_number_of) .none kV_number_of dc_number_of pm_number_of an_number_of cd_number_of ct_number_of
  F_number_of := fun_mk (st := st_number_of) l_number_of c_number_of k_number_of
  b_number_of := (fun_mk (st := st_number_of) l_number_of c_number_of k_number_of).binds (ps := ["text", "least", "most"]) fun _ _ _ _ _ _ us hl => match us, hl with | [_, _, _], _ => rfl
  g_number_of := PySem.W.mg_of X G ag_number_of
  a_plus_of := f_plus_of
  d_plus_of := PySem.W.fnOf "plus_of" "plus_of" (defArgs st_plus_of) (defBody st_plus_of) (defScope st_plus_of) .none kV_plus_of dc_plus_of pm_plus_of an_plus_of cd_plus_of ct_plus_of
  F_plus_of := fun_mk (st := st_plus_of) l_plus_of c_plus_of k_plus_of
  b_plus_of := (fun_mk (st := st_plus_of) l_plus_of c_plus_of k_plus_of).binds (ps := ["text"]) fun _ _ _ _ _ _ us hl => match us, hl with | [_], _ => rfl
  g_plus_of := PySem.W.mg_of X G ag_plus_of
  a_plus_text := f_plus_text
  d_plus_text := PySem.W.fnOf "plus_text" "plus_text" (defArgs st_plus_text) (defBody st_plus_text) (defScope st_plus_text) .none kV_plus_text dc_plus_text pm_plus_text an_plus_text cd_plus_text ct_plus_text
  F_plus_text := fun_mk (st := st_plus_text) l_plus_text c_plus_text k_plus_text
  b_plus_text := (fun_mk (st := st_plus_text) l_plus_text c_plus_text k_plus_text).binds (ps := ["plus"]) fun _ _ _ _ _ _ us hl => match us, hl with | [_], _ => rfl
  g_plus_text := PySem.W.mg_of X G ag_plus_text
  a_side_of := f_side_of
  d_side_of := PySem.W.fnOf "side_of" "side_of" (defArgs st_side_of) (defBody st_side_of) (defScope st_side_of) .none kV_side_of dc_side_of pm_side_of an_side_of cd_side_of ct_side_of
  F_side_of := fun_mk (st := st_side_of) l_side_of c_side_of k_side_of
  b_side_of := (fun_mk (st := st_side_of) l_side_of c_side_of k_side_of).binds (ps := ["text"]) fun _ _ _ _ _ _ us hl => match us, hl with | [_], _ => rfl
  g_side_of := PySem.W.mg_of X G ag_side_of
  a_sides_of := f_sides_of
  d_sides_of := PySem.W.fnOf "sides_of" "sides_of" (defArgs st_sides_of) (defBody st_sides_of) (defScope st_sides_of) .none kV_sides_of dc_sides_of pm_sides_of an_sides_of cd_sides_of ct_sides_of
  F_sides_of := fun_mk (st := st_sides_of) l_sides_of c_sides_of k_sides_of
  b_sides_of := (fun_mk (st := st_sides_of) l_sides_of c_sides_of k_sides_of).binds (ps := ["text"]) fun _ _ _ _ _ _ us hl => match us, hl with | [_], _ => rfl
  g_sides_of := PySem.W.mg_of X G ag_sides_of
  a__law_spring := f__law_spring
  d__law_spring := PySem.W.fnOf "_law_spring" "_law_spring" (defArgs st__law_spring) (defBody st__law_spring) (defScope st__law_spring) .none kV__law_spring dc__law_spring pm__law_spring an__law_spring cd__law_spring ct__law_spring
  F__law_spring := fun_mk (st := st__law_spring) l__law_spring c__law_spring k__law_spring
  b__law_spring := (fun_mk (st := st__law_spring) l__law_spring c__law_spring k__law_spring).binds (ps := ["_law_cells", "_law_at"]) fun _ _ _ _ _ _ us hl => match us, hl with | [_, _], _ => rfl
  g__law_spring := PySem.W.mg_of X G ag__law_spring
  a__law_take := f__law_take
  d__law_take := PySem.W.fnOf "_law_take" "_law_take" (defArgs st__law_take) (defBody st__law_take) (defScope st__law_take) .none kV__law_take dc__law_take pm__law_take an__law_take cd__law_take ct__law_take
  F__law_take := fun_mk (st := st__law_take) l__law_take c__law_take k__law_take
  b__law_take := (fun_mk (st := st__law_take) l__law_take c__law_take k__law_take).binds (ps := ["_law_spring_here", "_law_much"]) fun _ _ _ _ _ _ us hl => match us, hl with | [_, _], _ => rfl
  g__law_take := PySem.W.mg_of X G ag__law_take
  a__law_sort := f__law_sort
  d__law_sort := PySem.W.fnOf "_law_sort" "_law_sort" (defArgs st__law_sort) (defBody st__law_sort) (defScope st__law_sort) .none kV__law_sort dc__law_sort pm__law_sort an__law_sort cd__law_sort ct__law_sort
  F__law_sort := fun_mk (st := st__law_sort) l__law_sort c__law_sort k__law_sort
  b__law_sort := (fun_mk (st := st__law_sort) l__law_sort c__law_sort k__law_sort).binds (ps := ["_law_e"]) fun _ _ _ _ _ _ us hl => match us, hl with | [_], _ => rfl
  g__law_sort := PySem.W.mg_of X G ag__law_sort
  a__law_told := f__law_told
  d__law_told := PySem.W.fnOf "_law_told" "_law_told" (defArgs st__law_told) (defBody st__law_told) (defScope st__law_told) .none kV__law_told dc__law_told pm__law_told an__law_told cd__law_told ct__law_told
  F__law_told := fun_mk (st := st__law_told) l__law_told c__law_told k__law_told
  b__law_told := (fun_mk (st := st__law_told) l__law_told c__law_told k__law_told).binds (ps := ["_law_e", "_law_word"]) fun _ _ _ _ _ _ us hl => match us, hl with | [_, _], _ => rfl
  g__law_told := PySem.W.mg_of X G ag__law_told
  a__law_caught := f__law_caught
  d__law_caught := PySem.W.fnOf "_law_caught" "_law_caught" (defArgs st__law_caught) (defBody st__law_caught) (defScope st__law_caught) .none kV__law_caught dc__law_caught pm__law_caught an__law_caught cd__law_caught ct__law_caught
  F__law_caught := fun_mk (st := st__law_caught) l__law_caught c__law_caught k__law_caught
  b__law_caught := (fun_mk (st := st__law_caught) l__law_caught c__law_caught k__law_caught).binds (ps := ["_law_act"]) fun _ _ _ _ _ _ us hl => match us, hl with | [_], _ => rfl
  g__law_caught := PySem.W.mg_of X G ag__law_caught
  a__law_sorts := f__law_sorts
  d__law_sorts := PySem.W.fnOf "_law_sorts" "_law_sorts" (defArgs st__law_sorts) (defBody st__law_sorts) (defScope st__law_sorts) .none kV__law_sorts dc__law_sorts pm__law_sorts an__law_sorts cd__law_sorts ct__law_sorts
  F__law_sorts := fun_mk (st := st__law_sorts) l__law_sorts c__law_sorts k__law_sorts
  b__law_sorts := (fun_mk (st := st__law_sorts) l__law_sorts c__law_sorts k__law_sorts).binds (ps := []) fun _ _ _ _ _ _ us hl => match us, hl with | [], _ => rfl
  g__law_sorts := PySem.W.mg_of X G ag__law_sorts
  a__law_shut_row := f__law_shut_row
  d__law_shut_row := PySem.W.fnOf "_law_shut_row" "_law_shut_row" (defArgs st__law_shut_row) (defBody st__law_shut_row) (defScope st__law_shut_row) .none kV__law_shut_row dc__law_shut_row pm__law_shut_row an__law_shut_row cd__law_shut_row ct__law_shut_row
  F__law_shut_row := fun_mk (st := st__law_shut_row) l__law_shut_row c__law_shut_row k__law_shut_row
  b__law_shut_row := (fun_mk (st := st__law_shut_row) l__law_shut_row c__law_shut_row k__law_shut_row).binds (ps := ["_law_shut"]) fun _ _ _ _ _ _ us hl => match us, hl with | [_], _ => rfl
  g__law_shut_row := PySem.W.mg_of X G ag__law_shut_row
  a__law_plan := f__law_plan
  d__law_plan := PySem.W.fnOf "_law_plan" "_law_plan" (defArgs st__law_plan) (defBody st__law_plan) (defScope st__law_plan) .none kV__law_plan dc__law_plan pm__law_plan an__law_plan cd__law_plan ct__law_plan
  F__law_plan := fun_mk (st := st__law_plan) l__law_plan c__law_plan k__law_plan
  b__law_plan := (fun_mk (st := st__law_plan) l__law_plan c__law_plan k__law_plan).binds (ps := ["_law_shuts"]) fun _ _ _ _ _ _ us hl => match us, hl with | [_], _ => rfl
  g__law_plan := PySem.W.mg_of X G ag__law_plan
  a__law_shuts_by := f__law_shuts_by
  d__law_shuts_by := PySem.W.fnOf "_law_shuts_by" "_law_shuts_by" (defArgs st__law_shuts_by) (defBody st__law_shuts_by) (defScope st__law_shuts_by) .none kV__law_shuts_by dc__law_shuts_by pm__law_shuts_by an__law_shuts_by cd__law_shuts_by ct__law_shuts_by
  F__law_shuts_by := fun_mk (st := st__law_shuts_by) l__law_shuts_by c__law_shuts_by k__law_shuts_by
  b__law_shuts_by := (fun_mk (st := st__law_shuts_by) l__law_shuts_by c__law_shuts_by k__law_shuts_by).binds (ps := ["_law_shift"]) fun _ _ _ _ _ _ us hl => match us, hl with | [_], _ => rfl
  g__law_shuts_by := PySem.W.mg_of X G ag__law_shuts_by
  a__law_is := f__law_is
  d__law_is := PySem.W.fnOf "_law_is" "_law_is" (defArgs st__law_is) (defBody st__law_is) (defScope st__law_is) .none kV__law_is dc__law_is pm__law_is an__law_is cd__law_is ct__law_is
  F__law_is := fun_mk (st := st__law_is) l__law_is c__law_is k__law_is
  b__law_is := (fun_mk (st := st__law_is) l__law_is c__law_is k__law_is).binds (ps := ["_law_mine", "_law_shuts"]) fun _ _ _ _ _ _ us hl => match us, hl with | [_, _], _ => rfl
  g__law_is := PySem.W.mg_of X G ag__law_is
  a__law_right := f__law_right
  d__law_right := PySem.W.fnOf "_law_right" "_law_right" (defArgs st__law_right) (defBody st__law_right) (defScope st__law_right) .none kV__law_right dc__law_right pm__law_right an__law_right cd__law_right ct__law_right
  F__law_right := fun_mk (st := st__law_right) l__law_right c__law_right k__law_right
  b__law_right := (fun_mk (st := st__law_right) l__law_right c__law_right k__law_right).binds (ps := ["_law_spring_here"]) fun _ _ _ _ _ _ us hl => match us, hl with | [_], _ => rfl
  g__law_right := PySem.W.mg_of X G ag__law_right
  a_law := f_law
  d_law := PySem.W.fnOf "law" "law" (defArgs st_law) (defBody st_law) (defScope st_law) .none kV_law dc_law pm_law an_law cd_law ct_law
  F_law := fun_mk (st := st_law) l_law c_law k_law
  b_law := (fun_mk (st := st_law) l_law c_law k_law).binds (ps := ["_law_cells"]) fun _ _ _ _ _ _ us hl => match us, hl with | [_], _ => rfl
  g_law := PySem.W.mg_of X G ag_law
  a_Room___init__ := f_Room___init__
  d_Room___init__ := PySem.W.fnOf "__init__" "Room.__init__" (defArgs st_Room___init__) (defBody st_Room___init__) (defScope st_Room___init__) .none kV_Room___init__ dc_Room___init__ pm_Room___init__ an_Room___init__ cd_Room___init__ ct_Room___init__
  F_Room___init__ := fun_mk (st := st_Room___init__) l_Room___init__ c_Room___init__ k_Room___init__
  b_Room___init__ := (fun_mk (st := st_Room___init__) l_Room___init__ c_Room___init__ k_Room___init__).binds (ps := ["self", "text"]) fun _ _ _ _ _ _ us hl => match us, hl with | [_, _], _ => rfl
  mk_Room := ⟨mk_Room, e_Room___init__, i_Room___init__, kc_Room⟩
  kb_Room := ⟨fun s us ws X l1 l2 => match us, ws, l1, l2 with | [_], [_], _, _ => .of_eq rfl, fun r1 r2 => r1.append r2⟩
  a_Room_oblong := f_Room_oblong
  d_Room_oblong := PySem.W.fnOf "oblong" "Room.oblong" (defArgs st_Room_oblong) (defBody st_Room_oblong) (defScope st_Room_oblong) (.ref dT_Room_oblong) kV_Room_oblong dc_Room_oblong pm_Room_oblong an_Room_oblong cd_Room_oblong ct_Room_oblong
  F_Room_oblong := (funF_mk (st := st_Room_oblong) (dvs := [V.int 0]) (its := [Value.int 0 dt_Room_oblong_0]) l_Room_oblong c_Room_oblong k_Room_oblong (by simp) ld_Room_oblong rfl (.cons ⟨_, rfl⟩ (.nil)))
  sp_Room_oblong := sp_Room_oblong
  S_Room_oblong := ⟨⟨rd_Room_oblong, ga_Room_oblong⟩, fc_Room_oblong, ⟨_, r_Room_oblong⟩, k_Room_oblong⟩
  b_Room_oblong := by
    obtain ⟨ds, h1, h2⟩ := (funF_mk (st := st_Room_oblong) (dvs := [V.int 0]) (its := [Value.int 0 dt_Room_oblong_0]) l_Room_oblong c_Room_oblong k_Room_oblong (by simp) ld_Room_oblong rfl (.cons ⟨_, rfl⟩ (.nil))).binds1 (ps := ["by"]) 1 1 (by simp) rfl (fun T kV doc pm an cdv ct us its l1 l2 => match us, its, l1, l2 with | [_], [_], _, _ => ⟨_, rfl, rfl⟩)
    cases h1
    exact h2
  b0_Room_oblong := (funF_mk (st := st_Room_oblong) (dvs := [V.int 0]) (its := [Value.int 0 dt_Room_oblong_0]) l_Room_oblong c_Room_oblong k_Room_oblong (by simp) ld_Room_oblong rfl (.cons ⟨_, rfl⟩ (.nil))).binds1 (ps := ["by"]) 0 0 (by simp) rfl (fun T kV doc pm an cdv ct us its l1 l2 => match us, its, l1, l2 with | [], [_], _, _ => ⟨_, rfl, rfl⟩)
  kw_Room_oblong := (funF_mk (st := st_Room_oblong) (dvs := [V.int 0]) (its := [Value.int 0 dt_Room_oblong_0]) l_Room_oblong c_Room_oblong k_Room_oblong (by simp) ld_Room_oblong rfl (.cons ⟨_, rfl⟩ (.nil))).kb (by simp) (fun T kV doc pm an cdv ct its ws l1 l2 => match its, ws, l1, l2 with | [_], [_], _, _ => ⟨_, rfl, rfl⟩)
  a_Room_text := f_Room_text
  d_Room_text := PySem.W.fnOf "text" "Room.text" (defArgs st_Room_text) (defBody st_Room_text) (defScope st_Room_text) .none kV_Room_text dc_Room_text pm_Room_text an_Room_text cd_Room_text ct_Room_text
  F_Room_text := fun_mk (st := st_Room_text) l_Room_text c_Room_text k_Room_text
  b_Room_text := (fun_mk (st := st_Room_text) l_Room_text c_Room_text k_Room_text).binds (ps := ["self"]) fun _ _ _ _ _ _ us hl => match us, hl with | [_], _ => rfl
  p_Room_text := p_Room_text
  P_Room_text := ⟨e_Room_text, g_Room_text, tk_Room_text, ⟨_, r_Room_text⟩⟩
  a_Room_sides := f_Room_sides
  d_Room_sides := PySem.W.fnOf "sides" "Room.sides" (defArgs st_Room_sides) (defBody st_Room_sides) (defScope st_Room_sides) .none kV_Room_sides dc_Room_sides pm_Room_sides an_Room_sides cd_Room_sides ct_Room_sides
  F_Room_sides := fun_mk (st := st_Room_sides) l_Room_sides c_Room_sides k_Room_sides
  b_Room_sides := (fun_mk (st := st_Room_sides) l_Room_sides c_Room_sides k_Room_sides).binds (ps := ["self"]) fun _ _ _ _ _ _ us hl => match us, hl with | [_], _ => rfl
  p_Room_sides := p_Room_sides
  P_Room_sides := ⟨e_Room_sides, g_Room_sides, tk_Room_sides, ⟨_, r_Room_sides⟩⟩
  a_Room_letters := f_Room_letters
  d_Room_letters := PySem.W.fnOf "letters" "Room.letters" (defArgs st_Room_letters) (defBody st_Room_letters) (defScope st_Room_letters) .none kV_Room_letters dc_Room_letters pm_Room_letters an_Room_letters cd_Room_letters ct_Room_letters
  F_Room_letters := fun_mk (st := st_Room_letters) l_Room_letters c_Room_letters k_Room_letters
  b_Room_letters := (fun_mk (st := st_Room_letters) l_Room_letters c_Room_letters k_Room_letters).binds (ps := ["self"]) fun _ _ _ _ _ _ us hl => match us, hl with | [_], _ => rfl
  p_Room_letters := p_Room_letters
  P_Room_letters := ⟨e_Room_letters, g_Room_letters, tk_Room_letters, ⟨_, r_Room_letters⟩⟩
  a_Room___eq__ := f_Room___eq__
  d_Room___eq__ := PySem.W.fnOf "__eq__" "Room.__eq__" (defArgs st_Room___eq__) (defBody st_Room___eq__) (defScope st_Room___eq__) .none kV_Room___eq__ dc_Room___eq__ pm_Room___eq__ an_Room___eq__ cd_Room___eq__ ct_Room___eq__
  F_Room___eq__ := fun_mk (st := st_Room___eq__) l_Room___eq__ c_Room___eq__ k_Room___eq__
  b_Room___eq__ := (fun_mk (st := st_Room___eq__) l_Room___eq__ c_Room___eq__ k_Room___eq__).binds (ps := ["self", "other"]) fun _ _ _ _ _ _ us hl => match us, hl with | [_, _], _ => rfl
  f_Room___eq__ := e_Room___eq__
  k_Room___eq__ := i_Room___eq__
  a_Room___str__ := f_Room___str__
  d_Room___str__ := PySem.W.fnOf "__str__" "Room.__str__" (defArgs st_Room___str__) (defBody st_Room___str__) (defScope st_Room___str__) .none kV_Room___str__ dc_Room___str__ pm_Room___str__ an_Room___str__ cd_Room___str__ ct_Room___str__
  F_Room___str__ := fun_mk (st := st_Room___str__) l_Room___str__ c_Room___str__ k_Room___str__
  b_Room___str__ := (fun_mk (st := st_Room___str__) l_Room___str__ c_Room___str__ k_Room___str__).binds (ps := ["self"]) fun _ _ _ _ _ _ us hl => match us, hl with | [_], _ => rfl
  f_Room___str__ := e_Room___str__
  k_Room___str__ := i_Room___str__
  a_Room___len__ := f_Room___len__
  d_Room___len__ := PySem.W.fnOf "__len__" "Room.__len__" (defArgs st_Room___len__) (defBody st_Room___len__) (defScope st_Room___len__) .none kV_Room___len__ dc_Room___len__ pm_Room___len__ an_Room___len__ cd_Room___len__ ct_Room___len__
  F_Room___len__ := fun_mk (st := st_Room___len__) l_Room___len__ c_Room___len__ k_Room___len__
  b_Room___len__ := (fun_mk (st := st_Room___len__) l_Room___len__ c_Room___len__ k_Room___len__).binds (ps := ["self"]) fun _ _ _ _ _ _ us hl => match us, hl with | [_], _ => rfl
  f_Room___len__ := e_Room___len__
  k_Room___len__ := i_Room___len__
  C_Room := C_Room
  g_Room := PySem.W.mg_of X G aC_Room
  cl_Room := ⟨pg_Room, hd_Room, po_Room, sa_Room⟩
  ne_Room := ne_Room
  mro_Room := mro_Room
  bool_Room := bool_Room
  i_Room := ⟨fun t b h => own_kit kwNoneType_Room kwbool_Room kwint_Room kwstr_Room kwtuple_Room kwlist_Room kwdict_Room t b h, fun D b h => by rw [own_is h]; exact ⟨⟨pg_Room, hd_Room, po_Room, sa_Room⟩, hcl_Room, hsp_Room, htk_Room, mro_Room⟩⟩
  na_whole := na_whole_Room
  na_rows := na_rows_Room
  na_alphabet := na_alphabet_Room
  C_BadValue := C_BadValue
  g_BadValue := PySem.W.mg_of X G aC_BadValue
  C_InvalidText := C_InvalidText
  g_InvalidText := PySem.W.mg_of X G aC_InvalidText
  C_InvalidLine := C_InvalidLine
  g_InvalidLine := PySem.W.mg_of X G aC_InvalidLine
  C_InvalidState := C_InvalidState
  g_InvalidState := PySem.W.mg_of X G aC_InvalidState
  C_InvalidNumber := C_InvalidNumber
  g_InvalidNumber := PySem.W.mg_of X G aC_InvalidNumber
  C_InvalidName := C_InvalidName
  g_InvalidName := PySem.W.mg_of X G aC_InvalidName
  C_InvalidIndex := C_InvalidIndex
  g_InvalidIndex := PySem.W.mg_of X G aC_InvalidIndex
  C_InvalidWish := C_InvalidWish
  g_InvalidWish := PySem.W.mg_of X G aC_InvalidWish
  C_InvalidClaim := C_InvalidClaim
  g_InvalidClaim := PySem.W.mg_of X G aC_InvalidClaim
  C_NotBorders := C_NotBorders
  g_NotBorders := PySem.W.mg_of X G aC_NotBorders
  C_NotARoom := C_NotARoom
  g_NotARoom := PySem.W.mg_of X G aC_NotARoom
  C_InvalidSizes := C_InvalidSizes
  g_InvalidSizes := PySem.W.mg_of X G aC_InvalidSizes
  C_InvalidFilling := C_InvalidFilling
  g_InvalidFilling := PySem.W.mg_of X G aC_InvalidFilling
  C_InvalidNames := C_InvalidNames
  g_InvalidNames := PySem.W.mg_of X G aC_InvalidNames
  C_InvalidLines := C_InvalidLines
  g_InvalidLines := PySem.W.mg_of X G aC_InvalidLines
  C_BadName := C_BadName
  g_BadName := PySem.W.mg_of X G aC_BadName
  C_UnknownName := C_UnknownName
  g_UnknownName := PySem.W.mg_of X G aC_UnknownName
  C_InUse := C_InUse
  g_InUse := PySem.W.mg_of X G aC_InUse
  C_NoAnswer := C_NoAnswer
  g_NoAnswer := PySem.W.mg_of X G aC_NoAnswer
  C_OtherLetters := C_OtherLetters
  g_OtherLetters := PySem.W.mg_of X G aC_OtherLetters
  C_TooMany := C_TooMany
  g_TooMany := PySem.W.mg_of X G aC_TooMany
  C_NothingToUndo := C_NothingToUndo
  g_NothingToUndo := PySem.W.mg_of X G aC_NothingToUndo
  C_NotAsked := C_NotAsked
  g_NotAsked := PySem.W.mg_of X G aC_NotAsked
  C_Broken := C_Broken
  g_Broken := PySem.W.mg_of X G aC_Broken
  kt_InvalidNumber_BadValue := kt_InvalidNumber_BadValue
  kt_InvalidNumber_InvalidText := kt_InvalidNumber_InvalidText
  kt_InvalidNumber_InvalidLine := kt_InvalidNumber_InvalidLine
  kt_InvalidNumber_InvalidState := kt_InvalidNumber_InvalidState
  kt_InvalidNumber_InvalidNumber := kt_InvalidNumber_InvalidNumber
  kt_InvalidNumber_InvalidName := kt_InvalidNumber_InvalidName
  kt_InvalidNumber_InvalidIndex := kt_InvalidNumber_InvalidIndex
  kt_InvalidNumber_InvalidWish := kt_InvalidNumber_InvalidWish
  kt_InvalidNumber_InvalidClaim := kt_InvalidNumber_InvalidClaim
  kt_InvalidNumber_NotBorders := kt_InvalidNumber_NotBorders
  kt_InvalidNumber_NotARoom := kt_InvalidNumber_NotARoom
  kt_InvalidNumber_InvalidSizes := kt_InvalidNumber_InvalidSizes
  kt_InvalidNumber_InvalidFilling := kt_InvalidNumber_InvalidFilling
  kt_InvalidNumber_InvalidNames := kt_InvalidNumber_InvalidNames
  kt_InvalidNumber_InvalidLines := kt_InvalidNumber_InvalidLines
  kt_InvalidNumber_BadName := kt_InvalidNumber_BadName
  kt_InvalidNumber_UnknownName := kt_InvalidNumber_UnknownName
  kt_InvalidNumber_InUse := kt_InvalidNumber_InUse
  kt_InvalidNumber_NoAnswer := kt_InvalidNumber_NoAnswer
  kt_InvalidNumber_OtherLetters := kt_InvalidNumber_OtherLetters
  kt_InvalidNumber_TooMany := kt_InvalidNumber_TooMany
  kt_InvalidNumber_NothingToUndo := kt_InvalidNumber_NothingToUndo
  kt_InvalidNumber_NotAsked := kt_InvalidNumber_NotAsked
  kt_InvalidNumber_Broken := kt_InvalidNumber_Broken
  kt_InvalidNumber_ValueError := kt_InvalidNumber_ValueError
  kt_InvalidNumber_LookupError := kt_InvalidNumber_LookupError
  kt_InvalidNumber_ArithmeticError := kt_InvalidNumber_ArithmeticError
  aI_InvalidNumber := f_InvalidNumber_I
  dI_InvalidNumber := PySem.W.fnOf "__init__" "InvalidNumber.__init__" (defArgs stI_InvalidNumber) (defBody stI_InvalidNumber) (defScope stI_InvalidNumber) .none kV_InvalidNumber_I dc_InvalidNumber_I pm_InvalidNumber_I an_InvalidNumber_I cd_InvalidNumber_I ct_InvalidNumber_I
  FI_InvalidNumber := fun_mk (st := stI_InvalidNumber) l_InvalidNumber_I c_InvalidNumber_I k_InvalidNumber_I
  iC_InvalidNumber := e_InvalidNumber_I
  tI_InvalidNumber := t_InvalidNumber_I
  bI_InvalidNumber := (fun_mk (st := stI_InvalidNumber) l_InvalidNumber_I c_InvalidNumber_I k_InvalidNumber_I).binds (ps := ["self", "given"]) fun _ _ _ _ _ _ us hl => match us, hl with | [_, _], _ => rfl
  ox_InvalidNumber := ⟨oexB_ok oex_InvalidNumber, esa_InvalidNumber, esu_InvalidNumber, ety_InvalidNumber, ekp_InvalidNumber⟩
  xa_InvalidNumber := ⟨ecl_InvalidNumber, ehd_InvalidNumber, ega_InvalidNumber, egt_InvalidNumber, esu_InvalidNumber, ehc_InvalidNumber, esp_InvalidNumber, etk_InvalidNumber, emr_InvalidNumber⟩
  no_InvalidNumber_given := enogiven_InvalidNumber
  no_InvalidNumber_index := enoindex_InvalidNumber
  no_InvalidNumber_shown := enoshown_InvalidNumber
  no_InvalidNumber_limit := enolimit_InvalidNumber
  xm_InvalidNumber := exm_InvalidNumber
  cL := cL
  P := P
  FC := ⟨_, _, _, _, _, _, _, _, _, by rw [← hcd], l__law_right, by rw [← hcd]; exact c__law_right⟩
  hTab := hTab
  hT := by rw [hTab]; exact List.mem_cons_self
end K08

namespace K08
open PySem PySem.Spec PyProof.Rows L2 Cw

def optI : Option Int → D
  | none => .non
  | some i => .int i
abbrev one (k : Nat) : Str := ⟨#[k]⟩
def lower (k : Nat) : Bool := decide (97 ≤ k ∧ k ≤ 122)
def isLet (t : Str) (n : Int) : Bool := decide (1 ≤ (t.length : Int) ∧ (t.length : Int) ≤ n) && t.cps.toList.all lower
theorem lets : (("abcdefghijklmnopqrstuvwxyz" : Str).cps.toList) = (List.range 26).map (· + 97) := by decide +kernel
theorem let_in (k : Nat) : decide (k ∈ (("abcdefghijklmnopqrstuvwxyz" : Str).cps.toList)) = lower k := by
  rw [lets]; unfold lower; simp only [List.mem_map, List.mem_range]
  refine decide_eq_decide.mpr ⟨fun ⟨a, h, e⟩ => by omega, fun h => ⟨k - 97, by omega, by omega⟩⟩
def S_is_letters : Pm := fun c ds Φ => ∃ t n, ds = [.str t, .int n] ∧ t.length ≤ 5000 ∧ Φ (.bl (isLet t n)) c
section
variable {P : Program} {w : World} {K : PySem.W.Frag} {mg : Str → Option Value} {base : Heap}

end
end K08

namespace K08
open PySem PySem.Spec PyProof.Rows L2 Cw

theorem short {n : Nat} (h : n ≤ 60000) : n ≤ sizeLine := Nat.le_trans h (by decide)
theorem all_small {n k : Nat} (hk : k < n) {P : Nat → Prop} (h : ∀ i : Fin n, P i.val) : P k := h ⟨k, hk⟩
/-- a state -/
def stS (i : Nat) (d : Bool) : Str := toString (i : Int) ++ (if d then ">" else "<")
def stL (n : Nat) : List Str := (List.range n).flatMap fun i => [stS i false, stS i true]
def bendS (o : Bool) : Str := if o then "out" else "in"
structure Part where
  t : Str
  i : Nat
  d : Bool
  j : Nat
  e : Bool
  l : Nat
  c : Nat
structure Joint where
  t : Str
  o : Bool
  i : Nat
  d : Bool
  j : Nat
  e : Bool
  c : Nat
def Part.ok (n : Nat) (p : Part) : Prop := isLet p.t 8 = true ∧ (p.i < n ∧ p.j < n) ∧ (1 ≤ p.l ∧ p.l ≤ 6) ∧ p.c ≤ 9
def Joint.ok (n : Nat) (p : Joint) : Prop := isLet p.t 8 = true ∧ (p.i < n ∧ p.j < n) ∧ p.c ≤ 9
def Part.d' (p : Part) : D := .tup [.str p.t, .str (stS p.i p.d), .str (stS p.j p.e), .int p.l, .int p.c]
def Joint.k (p : Joint) : List Key := [.inr p.t, .inr (bendS p.o), .inr (stS p.i p.d), .inr (stS p.j p.e), .inl p.c]
def Joint.d' (p : Joint) : D := keyD p.k
def Part.ws (p : Part) : List Str := ["piece", p.t, stS p.i p.d, stS p.j p.e, "long", toString (p.l : Int), "cost", toString (p.c : Int)]
def Joint.ws (p : Joint) : List Str := ["corner", p.t, bendS p.o, stS p.i p.d, stS p.j p.e, "cost", toString (p.c : Int)]
def Part.row (p : Part) : Str := Txt.join " " p.ws
def Joint.row (p : Joint) : Str := Txt.join " " p.ws
/-- signs from 33 to 127, few of them -/
def tame (n : Nat) (t : Str) : Bool := t.cps.toList.all (fun k => decide (33 ≤ k ∧ k < 128)) && decide (t.length ≤ n)
theorem tame_no {n k : Nat} {t : Str} (h : tame n t = true) (hk : k < 33) : k ∉ TL.tl t := fun z => by
  have h1 := (Bool.and_eq_true_iff.mp h).1
  have := of_decide_eq_true (List.all_eq_true.mp h1 k z)
  omega
theorem tame_ok {n : Nat} {t : Str} (h : tame n t = true) : PyData.strOk t = true := by
  have h1 := (Bool.and_eq_true_iff.mp h).1
  unfold PyData.strOk
  rw [Array.all_eq_true_iff_forall_mem]
  intro k hk
  have := of_decide_eq_true (List.all_eq_true.mp h1 k (by simpa using hk))
  exact decide_eq_true (by omega)
theorem tame_len {n : Nat} {t : Str} (h : tame n t = true) : t.length ≤ n := of_decide_eq_true (Bool.and_eq_true_iff.mp h).2
theorem let_tame {t : Str} {n : Nat} (h : isLet t n = true) : tame n t = true := by
  unfold isLet at h
  obtain ⟨h1, h2⟩ := Bool.and_eq_true_iff.mp h
  have h1 := of_decide_eq_true h1
  refine Bool.and_eq_true_iff.mpr ⟨List.all_eq_true.mpr fun k hk => ?_, decide_eq_true (by omega)⟩
  have := of_decide_eq_true (List.all_eq_true.mp h2 k hk)
  exact decide_eq_true (by omega)
theorem st_tame {i : Nat} (d : Bool) (h : i < 5) : tame 2 (stS i d) = true := all_small h (P := fun i => tame 2 (stS i d) = true) (by cases d <;> decide +kernel)
theorem dig_tame {c : Nat} (h : c < 10) : tame 1 (toString (c : Int)) = true := all_small h (P := fun c : Nat => tame 1 (toString (c : Int)) = true) (by decide +kernel)
theorem bend_tame (o : Bool) : tame 3 (bendS o) = true := by cases o <;> decide +kernel
theorem join_len (y : Str) : ∀ xs : List Str, (Txt.join y xs).length ≤ (xs.map (·.length)).sum + y.length * xs.length := fun xs => by
  have key : ∀ xs : List Str, (TL.joinL (TL.tl y) (xs.map TL.tl)).length ≤ (xs.map (·.length)).sum + y.length * xs.length := by
    intro xs
    induction xs with
    | nil => exact Nat.zero_le _
    | cons x xs ih =>
      cases xs with
      | nil =>
        show (TL.tl x).length ≤ (x.length + 0) + y.length * 1
        rw [show (TL.tl x).length = x.length from Array.length_toList]
        omega
      | cons z r =>
        show (TL.tl x ++ (TL.tl y ++ TL.joinL (TL.tl y) ((z :: r).map TL.tl))).length ≤ (x.length + ((z :: r).map (·.length)).sum) + y.length * ((z :: r).length + 1)
        rw [List.length_append, List.length_append, show (TL.tl x).length = x.length from Array.length_toList, show (TL.tl y).length = y.length from Array.length_toList, Nat.mul_add]
        omega
  have e : (Txt.join y xs).length = (TL.joinL (TL.tl y) (xs.map TL.tl)).length := by
    rw [← TL.tl_join, ← TL.join_eq]; exact Array.length_toList.symm
  rw [e]; exact key xs
theorem Part.tames {n : Nat} {p : Part} (h : p.ok n) (hn : n ≤ 5) : ∀ w ∈ p.ws, tame 8 w = true := by
  have up : ∀ {k : Nat} {t : Str}, k ≤ 8 → tame k t = true → tame 8 t = true := fun hk h => by
    obtain ⟨h1, h2⟩ := Bool.and_eq_true_iff.mp h
    exact Bool.and_eq_true_iff.mpr ⟨h1, decide_eq_true (Nat.le_trans (of_decide_eq_true h2) hk)⟩
  obtain ⟨h1, ⟨h2, h3⟩, ⟨h4, h5⟩, h6⟩ := h
  simp only [Part.ws, List.forall_mem_cons, List.not_mem_nil, false_implies, implies_true, and_true]
  exact ⟨by decide +kernel, let_tame h1, up (by decide) (st_tame _ (by omega)), up (by decide) (st_tame _ (by omega)), by decide +kernel, up (by decide) (dig_tame (by omega)), by decide +kernel, up (by decide) (dig_tame (by omega))⟩
theorem Joint.tames {n : Nat} {p : Joint} (h : p.ok n) (hn : n ≤ 5) : ∀ w ∈ p.ws, tame 8 w = true := by
  have up : ∀ {k : Nat} {t : Str}, k ≤ 8 → tame k t = true → tame 8 t = true := fun hk h => by
    obtain ⟨h1, h2⟩ := Bool.and_eq_true_iff.mp h
    exact Bool.and_eq_true_iff.mpr ⟨h1, decide_eq_true (Nat.le_trans (of_decide_eq_true h2) hk)⟩
  obtain ⟨h1, ⟨h2, h3⟩, h6⟩ := h
  simp only [Joint.ws, List.forall_mem_cons, List.not_mem_nil, false_implies, implies_true, and_true]
  exact ⟨by decide +kernel, let_tame h1, up (by decide) (bend_tame _), up (by decide) (st_tame _ (by omega)), up (by decide) (st_tame _ (by omega)), by decide +kernel, up (by decide) (dig_tame (by omega))⟩
theorem ws_split {ws : List Str} (h : ∀ w ∈ ws, tame 8 w = true) (hn : ws ≠ []) : Txt.split (Txt.join " " ws) " " = ws :=
  TL.split_join (s := 32) (S := []) (by decide +kernel) (by decide +kernel) hn fun w hw => tame_no (h w hw) (by decide)
theorem ws_len {ws : List Str} (h : ∀ w ∈ ws, tame 8 w = true) : (Txt.join " " ws).length ≤ 9 * ws.length := by
  have h2 : (ws.map (·.length)).sum ≤ 8 * ws.length := by
    induction ws with
    | nil => exact Nat.le_refl _
    | cons w ws ih =>
      have a := tame_len (h w List.mem_cons_self)
      have b := ih (fun x hx => h x (List.mem_cons_of_mem _ hx))
      rw [List.map_cons, List.sum_cons, List.length_cons]
      omega
  have h1 := join_len (" " : Str) ws
  have h3 : (" " : Str).length = 1 := by decide
  rw [h3] at h1
  omega
theorem joinL_no {S : List Nat} {k : Nat} (hs : k ∉ S) : ∀ {ps : List (List Nat)}, (∀ p ∈ ps, k ∉ p) → k ∉ TL.joinL S ps
  | [], _ => by simp [TL.joinL]
  | [p], h => h p (by simp)
  | p :: q :: r, h => fun z => by
    rcases List.mem_append.mp z with z | z
    · exact h p (by simp) z
    · rcases List.mem_append.mp z with z | z
      · exact hs z
      · exact joinL_no hs (fun x hx => h x (List.mem_cons_of_mem _ hx)) z
theorem ws_line {ws : List Str} (h : ∀ w ∈ ws, tame 8 w = true) : 10 ∉ TL.tl (Txt.join " " ws) := by
  rw [TL.join_eq, TL.tl_join]
  refine joinL_no (by decide +kernel) fun p hp => ?_
  obtain ⟨w, hw, rfl⟩ := List.mem_map.mp hp
  exact tame_no (h w hw) (by decide)
theorem st_mem {n i : Nat} {d : Bool} (h : i < n) : stS i d ∈ stL n := List.mem_flatMap.mpr ⟨i, List.mem_range.mpr h, by cases d <;> simp⟩
def Part.py (p : Part) : PyData := .tuple [.str p.t, .str (stS p.i p.d), .str (stS p.j p.e), .int p.l, .int p.c]
def Joint.py (p : Joint) : PyData := .tuple [.str p.t, .str (bendS p.o), .str (stS p.i p.d), .str (stS p.j p.e), .int p.c]
section
variable {α : Type} {d : α → D} {py : α → PyData}
theorem pys_of (h : ∀ x, D.py (d x) = some (py x)) : ∀ xs : List α, D.pys (xs.map d) = some (xs.map py)
  | [] => rfl
  | x :: xs => by
    show (match D.py (d x), D.pys (xs.map d) with | some p, some ps => some (p :: ps) | _, _ => none) = _
    rw [h x, pys_of h xs]; rfl
theorem lay_of : ∀ {xs : List α}, (∀ x ∈ xs, (py x).canLay0 = true) → PyData.canLayAll0 (xs.map py) = true
  | [], _ => rfl
  | x :: xs, h => by
    show ((py x).canLay0 && PyData.canLayAll0 (xs.map py)) = true
    rw [h x List.mem_cons_self, lay_of fun y hy => h y (List.mem_cons_of_mem _ hy)]; rfl
theorem dep_of {n : Nat} : ∀ {xs : List α}, (∀ x ∈ xs, (py x).depth ≤ n) → PyData.depthAll (xs.map py) ≤ n
  | [], _ => Nat.zero_le _
  | x :: xs, h => by
    show max (py x).depth (PyData.depthAll (xs.map py)) ≤ n
    have h1 := h x List.mem_cons_self
    have h2 := dep_of fun y hy => h y (List.mem_cons_of_mem _ hy)
    omega
theorem shaped_of {xs : List α} (h1 : ∀ x ∈ xs, (py x).canLay0 = true) (h2 : ∀ x ∈ xs, (py x).depth ≤ 1) : SeqAt.shaped (.list (xs.map py)) = true := by
  show (PyData.canLayAll0 (xs.map py) && decide (PyData.depthAll (xs.map py) + 1 ≤ 64)) = true
  have := dep_of h2
  rw [lay_of h1, decide_eq_true (by omega)]; rfl
theorem any_none {xs : List α} (h : ∀ x, (py x).eqv .none = false) : ((xs.map py).any fun z => PyData.eqv z .none) = false := by
  rw [List.any_eq_false]
  intro z hz
  obtain ⟨x, _, rfl⟩ := List.mem_map.mp hz
  rw [h x]; decide
end
theorem Part.lay {n : Nat} {p : Part} (h : p.ok n) (hn : n ≤ 5) : p.py.canLay0 = true := by
  show (PyData.strOk p.t && (PyData.strOk (stS p.i p.d) && (PyData.strOk (stS p.j p.e) && true))) = true
  rw [tame_ok (let_tame (n := 8) h.1), tame_ok (st_tame _ (by have := h.2.1.1; omega)), tame_ok (st_tame _ (by have := h.2.1.2; omega))]; rfl
theorem Joint.lay {n : Nat} {p : Joint} (h : p.ok n) (hn : n ≤ 5) : p.py.canLay0 = true := by
  show (PyData.strOk p.t && (PyData.strOk (bendS p.o) && (PyData.strOk (stS p.i p.d) && (PyData.strOk (stS p.j p.e) && true)))) = true
  rw [tame_ok (let_tame (n := 8) h.1), tame_ok (bend_tame p.o), tame_ok (st_tame _ (by have := h.2.1.1; omega)), tame_ok (st_tame _ (by have := h.2.1.2; omega))]; rfl
theorem nodup_sub : ∀ {l ks : List Str}, l.Nodup → (∀ x ∈ l, x ∈ ks) → l.length ≤ ks.length
  | [], _, _, _ => Nat.zero_le _
  | x :: l, ks, nd, sub => by
    obtain ⟨hx, nd'⟩ := List.nodup_cons.mp nd
    have hm := sub x List.mem_cons_self
    have h1 := nodup_sub (ks := ks.erase x) nd' fun y hy => (List.mem_erase_of_ne (fun z => by subst z; exact hx hy)).mpr (sub y (List.mem_cons_of_mem _ hy))
    have h2 := List.length_erase_of_mem hm
    have h3 := List.length_pos_of_mem hm
    show l.length + 1 ≤ _
    omega
theorem same_len {a b : List Str} (h1 : a.Nodup) (h2 : b.Nodup) (h : ∀ x, x ∈ a ↔ x ∈ b) : a.length = b.length :=
  Nat.le_antisymm (nodup_sub h1 fun x hx => (h x).mp hx) (nodup_sub h2 fun x hx => (h x).mpr hx)
end K08

namespace K08
open PySem PySem.Spec PyProof.Rows L2 Cw
def numberOf (t : Str) (lo hi : Int) : Option Int := match t.cps.toList with
  | [k] => if (48 ≤ k ∧ k ≤ 57) ∧ lo ≤ (k : Int) - 48 ∧ (k : Int) - 48 ≤ hi then some ((k : Int) - 48) else none
  | _ => none
theorem str_one {t : Str} (h : (t.length : Int) = 1) : ∃ k, t = one k := by
  cases t with | mk a => cases a with | mk l =>
    have h : ((l.length : Nat) : Int) = 1 := h
    match l, h with
    | [k], _ => exact ⟨k, rfl⟩
    | [], h => simp at h
    | _ :: _ :: _, h => simp at h; omega
theorem digs : (("0123456789" : Str).cps.toList) = [48, 49, 50, 51, 52, 53, 54, 55, 56, 57] := by decide +kernel
theorem dig_in (k : Nat) : k ∈ (("0123456789" : Str).cps.toList) ↔ (48 ≤ k ∧ k ≤ 57) := by
  rw [digs]; simp; omega
theorem dig_val {k : Nat} (h : 48 ≤ k ∧ k ≤ 57) : PySem.intText? (one k) = some ((k : Int) - 48) := by
  have : k = 48 ∨ k = 49 ∨ k = 50 ∨ k = 51 ∨ k = 52 ∨ k = 53 ∨ k = 54 ∨ k = 55 ∨ k = 56 ∨ k = 57 := by omega
  rcases this with h | h | h | h | h | h | h | h | h | h <;> subst h <;> decide +kernel
def S_number_of : Pm := fun c ds Φ => ∃ t lo hi, ds = [.str t, .int lo, .int hi] ∧ t.length ≤ 5000 ∧ Φ (optI (numberOf t lo hi)) c

def S_is_word : Pm := fun c ds Φ => ∃ t, ds = [.str t] ∧ t.length ≤ 5000 ∧ Φ (.bl (isLet t 8)) c
def signL (m : Str) : Str := Txt.join " " ["signs", m]
def S_signs_of : Pm := fun c ds Φ => ∃ m, ds = [.str (signL m)] ∧ isLet m 5 = true ∧ Φ (.str m) c
def stD (n : Nat) : D := .tup ((stL n).map .str)
def S_states_of : Pm := fun c ds Φ => ∃ m : Str, ds = [.str m] ∧ m.length ≤ 5 ∧ Φ (stD m.length) c
section
variable {P : Program} {w : World} {K : PySem.W.Frag} {mg : Str → Option Value} {base : Heap}
set_option maxHeartbeats 8000000 in
theorem ok_number_of (T : Tx K mg) : FnOk P w K mg base CX0 1 T.a_number_of T.d_number_of ["text", "least", "most"] (spD K 0 3 S_number_of) := by
  refine fnD T.F_number_of sc_number_of fun cdv A outer s H E hr => ⟨_, (psd_cons (psd_if (PDw.pt (pdw_or (pdt_ne hr (pd_len (pd_v 0) T.n_len) pd_int) (pdw_or (pdt_nin hr (pd_v 0) (pd_gs T.c_DIGITS)) (pdw_or1 (pdt_not (pdt_lele (pd_v 1) (pd_intc (pd_v 0) T.n_int) (pd_v 2))))))) (psd_one (psd_ret pd_non)) psd_nil) (psd_one (psd_ret (pd_intc (pd_v 0) T.n_int)))), ?_⟩
  rintro c ds Φ hc - ⟨t, lo, hi, rfl, ht, hΦ⟩
  cases c with
  | cons _ _ => cases hc
  | nil =>
  conv => whnf
  refine ⟨Nat.le_trans ht (by decide), ?_⟩
  conv => whnf
  split
  · rename_i he
    conv => whnf
    have he : ¬ (t.length : Int) = 1 := by simpa using he
    have : numberOf t lo hi = none := by
      unfold numberOf
      split
      · rename_i k e
        refine absurd ?_ he
        show ((t.cps.size : Nat) : Int) = 1
        rw [← Array.length_toList, e]; rfl
      · rfl
    rw [this] at hΦ
    exact hΦ
  · rename_i he
    have he : (t.length : Int) = 1 := by simpa using he
    obtain ⟨k, rfl⟩ := str_one he
    conv => whnf
    split
    · rename_i hd
      conv => whnf
      have hd : ¬ (48 ≤ k ∧ k ≤ 57) := by
        rw [← dig_in]
        simpa [inS] using hd
      have : numberOf (one k) lo hi = none := by
        show (if _ then _ else _) = _
        rw [if_neg (fun z => hd z.1)]
      rw [this] at hΦ
      exact hΦ
    · rename_i hd
      have hd : 48 ≤ k ∧ k ≤ 57 := by
        rw [← dig_in]
        simpa [inS] using hd
      conv => whnf
      refine ⟨by show 1 ≤ 640; decide, _, dig_val hd, ?_⟩
      conv => whnf
      have fin : ∀ b : Bool, (b = true → lo ≤ (k : Int) - 48 ∧ (k : Int) - 48 ≤ hi) → (b = false → ¬ (lo ≤ (k : Int) - 48 ∧ (k : Int) - 48 ≤ hi)) → (match (!b) with
        | true => retD 0 Φ .non []
        | false => dRet (dCB (un1 fInt) (dCons (dVar 0) dNil)) ⟨fun _ c' => retD 0 Φ .non c', retD 0 Φ, fun _ _ => False, fun _ _ => False⟩ (startD ["text", "least", "most"] [.str (one k), .int lo, .int hi]) []) := fun b h1 h2 => by
        cases b with
        | true =>
          conv => whnf
          refine ⟨by show 1 ≤ 640; decide, _, dig_val hd, ?_⟩
          conv => whnf
          have : numberOf (one k) lo hi = some ((k : Int) - 48) := by
            show (if _ then _ else _) = _
            rw [if_pos ⟨hd, h1 rfl⟩]
          rw [this] at hΦ
          exact hΦ
        | false =>
          conv => whnf
          have : numberOf (one k) lo hi = none := by
            show (if _ then _ else _) = _
            rw [if_neg (fun z => h2 rfl z.2)]
          rw [this] at hΦ
          exact hΦ
      split
      · rename_i he
        have hl : lo ≤ (k : Int) - 48 := by simpa using he
        conv => whnf
        exact fin (decide ((k : Int) - 48 ≤ hi)) (fun h => ⟨hl, of_decide_eq_true h⟩) (fun h z => of_decide_eq_false h z.2)
      · rename_i he
        have hl : ¬ lo ≤ (k : Int) - 48 := by simpa using he
        exact fin false (fun h => by cases h) (fun _ z => hl z.1)
      · rename_i h1 h2
        cases e : decide (lo ≤ (k : Int) - 48) with
        | true => exact (h1 (by simp [e])).elim
        | false => exact (h2 (by simp [e])).elim

end
end K08


namespace K08
open PySem PySem.Spec PyProof.Rows L2 Cw
def spr (a b k : Int) : Cell := .lst [.int a, .int b, .int k]
def S__law_take : Pm := fun c ds Φ => ∃ a b k m, c = [spr a b k] ∧ ds = [.cell 0, .int m] ∧ (0 ≤ a ∧ a < 2147483587) ∧ 0 ≤ b ∧ (0 ≤ k ∧ k < 100000) ∧ (0 < m ∧ m < 1073741824) ∧ ∀ v a' b', 0 ≤ v → v < m → 0 ≤ a' → a' < 2147483587 → 0 ≤ b' → Φ (.int v) [spr a' b' (k + 1)]
def intsD (ns : List Int) : D := .fl (ns.map .int)
def S__law_spring : Pn := fun ds Φ => ∃ ns at_, ds = [intsD ns, .int at_] ∧ (0 ≤ at_ ∧ at_ ≤ 100) ∧ ns.length ≤ 63 ∧ ∀ a b : Int, (0 ≤ a ∧ a < 2147483587) → 0 ≤ b → Φ [.int a, .int b, .int 0]
theorem spring_tail {Φ : List D → Prop} {ns : List Int} {at_ own mix : Int} {x4 : Option D} (ha : 0 ≤ at_ ∧ at_ ≤ 100) (hm : 0 ≤ mix ∧ mix < 2147483587) (hΦ : ∀ (a b : Int), 0 ≤ a ∧ a < 2147483587 → 0 ≤ b → Φ [D.int a, D.int b, D.int 0]) :
    dRet (dLstM (dCons (dBin fMod (dCB (un1 fInt) (dCons (dBin fAdd (dBin fAdd (dBin fMul (dVar 3) (dC (.int 48271))) (dBin fMul (dC (.int 977)) (dVar 1))) (dC (.int 13))) dNil)) (dC (.int 2147483587)))
      (dCons (dIf (dOr (dT (dBin fLt (dVar 2) (dC (.int 0)))) (dT (dBin fGe (dVar 2) (dBin fPow (dC (.int 10)) (dC (.int 18)))))) (dCB (un1 fAbs) (dCons (dVar 2) dNil)) (dC (.int 0))) (dCons (dC (.int 0)) dNil))))
      ⟨fun _ _ => False, retN Φ, fun _ _ => False, fun _ _ => False⟩ [some (intsD ns), some (.int at_), some (.int own), some (.int mix), x4] [] := by
  conv => whnf
  ((refine ⟨?num, ?_⟩); (case num => first | omega | (left; omega) | (right; omega)); (conv => whnf))
  ((refine ⟨?num, ?_⟩); (case num => first | omega | (left; omega) | (right; omega)); (conv => whnf))
  ((refine ⟨?num, ?_⟩); (case num => first | omega | (left; omega) | (right; omega)); (conv => whnf))
  have fin : ∀ b : Int, 0 ≤ b → [D.int ((mix * 48271 + 977 * at_ + 13) % 2147483587), D.int b, D.int 0].length ≤ sizeLine ∧ retN Φ (.cell 0) [.lst [D.int ((mix * 48271 + 977 * at_ + 13) % 2147483587), D.int b, D.int 0]] := fun b hb =>
    ⟨by show 3 ≤ sizeLine; decide, _, rfl, rfl, hΦ _ b ⟨Int.emod_nonneg _ (by decide), Int.emod_lt_of_pos _ (by decide)⟩ hb⟩
  split
  · conv => whnf
    refine fin _ ?_
    split <;> omega
  · rename_i he
    have he : ¬ own < 0 := of_decide_eq_false he
    conv => whnf
    refine ⟨by decide, ?_⟩
    conv => whnf
    split
    · conv => whnf
      refine fin _ ?_
      split <;> omega
    · conv => whnf
      exact fin 0 (by decide)
def B3 (a b k : Int) (lim : Int) : Prop := (0 ≤ a ∧ a < 2147483587) ∧ 0 ≤ b ∧ (0 ≤ k ∧ k ≤ lim)
theorem B3.up {a b k l l' : Int} (h : B3 a b k l) (hl : l ≤ l') : B3 a b k l' := ⟨h.1, h.2.1, h.2.2.1, Int.le_trans h.2.2.2 hl⟩
theorem take_call {a b k m lim : Int} {rest : List Cell} {Φ : D → List Cell → Prop} (hB : B3 a b k lim) (hl : lim < 99999) (hm : 0 < m ∧ m < 1073741824)
    (h : ∀ v a' b' k', 0 ≤ v → v < m → B3 a' b' k' (lim + 1) → Φ (.int v) (spr a' b' k' :: rest)) : callM S__law_take [.cell 0, .int m] (spr a b k :: rest) Φ :=
  ⟨spr a b k, rfl, rfl, rfl, a, b, k, m, rfl, rfl, hB.1, hB.2.1, ⟨hB.2.2.1, by have := hB.2.2.2; omega⟩, hm, fun v a' b' h1 h2 h3 h4 h5 => ⟨rfl, rfl, h v a' b' _ h1 h2 ⟨⟨h3, h4⟩, h5, by have := hB.2.2.1; omega, by have := hB.2.2.2; omega⟩⟩⟩
theorem lc_inv {i : Nat} {te : TD} {ρ : Cw.Env} {Φ : List D → List Cell → Prop} (I : List D → List D → List Cell → Prop) (fin : ∀ acc c, I [] acc c → okCs c.length c = true ∧ okDs c.length acc = true ∧ Φ acc c)
    (step : ∀ d ds acc c (F : List D → List Cell → Prop), (∀ acc c, I ds acc c → F acc c) → I (d :: ds) acc c → te (ρ.set i (some d)) (c ++ [.lst acc]) fun y c3 => acc.length < sizeLine ∧ inner c.length acc y c3 fun c4 => F (acc ++ [y]) c4) : ∀ ds acc c, I ds acc c → lcD i dYes te ds acc ρ c Φ
  | [], acc, c, h => fin acc c h
  | d :: ds, acc, c, h => step d ds acc c _ (fun acc c h => lc_inv I fin step ds acc c h) h
section
variable {P : Program} {w : World} {K : PySem.W.Frag} {mg : Str → Option Value} {base : Heap}
set_option maxHeartbeats 8000000 in
theorem ok__law_take (T : Tx K mg) : FnOk P w K mg base CX0 1 T.a__law_take T.d__law_take ["_law_spring_here", "_law_much"] (spD K 1 2 S__law_take) := by
  refine fnD T.F__law_take sc__law_take fun cdv A outer s H E hr => ⟨_, (psd_cons (psd_asg (pd_add (pd_ix (pd_v 0) pd_int) pd_int) (pgd_sub (pd_v 0) pd_int)) (psd_cons (psd_set (i := 2) sc__law_take.nd (pd_intc (pd_ix (pd_v 0) pd_int) T.n_int)) (psd_cons (psd_set (i := 3) sc__law_take.nd (pd_add (pd_mod (pd_intc (pd_div (pd_v 2) pd_int) T.n_int) pd_int) pd_int)) (psd_cons (psd_asg (pd_mod (pd_intc (pd_add (pd_add (pd_mul (pd_v 2) (pd_v 3)) (pd_mul pd_int (pd_ix (pd_v 0) pd_int))) pd_int) T.n_int) pd_int) (pgd_sub (pd_v 0) pd_int)) (psd_cons (psd_if (pdt_gt (pd_ix (pd_v 0) pd_int) pd_int) (psd_cons (psd_asg (pd_divmod (pd_ix (pd_v 0) pd_int) (pd_v 1) T.n_divmod) (pgd_tup rfl (pgds_cons (pgd_sub (pd_v 0) pd_int) (pgds_cons (pgd_name (i := 4) sc__law_take.nd) pgds_nil)))) (psd_one (psd_ret (pd_v 4)))) psd_nil) (psd_one (psd_ret (pd_mod (pd_intc (pd_div (pd_ix (pd_v 0) pd_int) pd_int) T.n_int) (pd_v 1))))))))), ?_⟩
  rintro c ds Φ hc - ⟨a, b, k, m, rfl, rfl, ha, hb, hk, hm, hΦ⟩
  conv => whnf
  refine ⟨0, rfl, ?_⟩
  conv => whnf
  refine ⟨2, _, 2, rfl, rfl, rfl, ?_⟩
  conv => whnf
  ((refine ⟨?num, ?_⟩); (case num => first | omega | (left; omega) | (right; omega)); (conv => whnf))
  ((refine ⟨?num, ?_⟩); (case num => first | omega | (left; omega) | (right; omega)); (conv => whnf))
  ((refine ⟨?num, ?_⟩); (case num => first | omega | (left; omega) | (right; omega)); (conv => whnf))
  ((refine ⟨?num, ?_⟩); (case num => first | omega | (left; omega) | (right; omega)); (conv => whnf))
  ((refine ⟨?num, ?_⟩); (case num => first | omega | (left; omega) | (right; omega)); (conv => whnf))
  refine ⟨0, rfl, ?_⟩
  conv => whnf
  refine ⟨0, _, 0, rfl, rfl, rfl, ?_⟩
  conv => whnf
  have ha' := Int.emod_nonneg (a * (a / 8 % 40009 + 30011) + 8009 * (k + 1) + 29) (show (2147483587 : Int) ≠ 0 by decide)
  have ha'' := Int.emod_lt_of_pos (a * (a / 8 % 40009 + 30011) + 8009 * (k + 1) + 29) (show (0 : Int) < 2147483587 by decide)
  generalize (a * (a / 8 % 40009 + 30011) + 8009 * (k + 1) + 29) % 2147483587 = a1 at *
  split
  · rename_i he
    have hbp : 0 < b := of_decide_eq_true he
    conv => whnf
    refine ⟨hm, ?_⟩
    conv => whnf
    refine ⟨rfl, ?_⟩
    conv => whnf
    refine ⟨0, rfl, ?_⟩
    conv => whnf
    refine ⟨1, _, 1, rfl, rfl, rfl, ?_⟩
    conv => whnf
    refine ⟨rfl, ?_⟩
    conv => whnf
    exact hΦ (b % m) a1 (b / m) (Int.emod_nonneg _ (by omega)) (Int.emod_lt_of_pos _ hm.1) ha' ha'' (Int.ediv_nonneg hb (by omega))
  · conv => whnf
    refine ⟨by decide, ?_⟩
    conv => whnf
    refine ⟨hm.1, ?_⟩
    conv => whnf
    exact hΦ _ a1 b (Int.emod_nonneg _ (by omega)) (Int.emod_lt_of_pos _ hm.1) ha' ha'' hb
set_option maxHeartbeats 8000000 in
theorem ok__law_spring (T : Tx K mg) : FnOk P w K mg base CX0 1 T.a__law_spring T.d__law_spring ["_law_cells", "_law_at"] (spN K 2 S__law_spring) := by
  refine fnN T.F__law_spring sc__law_spring fun cdv A outer s H E hr => ⟨_, (psd_cons (psd_set (i := 2) sc__law_spring.nd (pd_if (pdt_lt (pd_v 1) (pd_len (pd_v 0) T.n_len)) (pd_ix (pd_v 0) (pd_v 1)) (pd_add (pd_mul pd_int (pd_v 1)) pd_int))) (psd_cons (psd_set (i := 3) sc__law_spring.nd (pd_mod (pd_intc (pd_v 2) T.n_int) pd_int)) (psd_cons (psd_if (pdt_ge (pd_v 1) (pd_len (pd_v 0) T.n_len)) (psd_one (psd_for PassesOwn.never rfl (pid_list (pd_sl (pd_v 0) po_no (po_so pd_int))) (pgd_name (i := 4) sc__law_spring.nd) (psd_one (psd_set (i := 3) sc__law_spring.nd (pd_mod (pd_intc (pd_add (pd_mul (pd_v 3) pd_int) (pd_v 4)) T.n_int) pd_int))))) psd_nil) (psd_one (psd_ret (pd_lstM (pds_cons (pd_mod (pd_intc (pd_add (pd_add (pd_mul (pd_v 3) pd_int) (pd_mul pd_int (pd_v 1))) pd_int) T.n_int) pd_int) (pds_cons (pd_if (PDw.pt (pdw_or (pdt_lt (pd_v 2) pd_int) (pdw_or1 (pdt_ge (pd_v 2) (pd_pow pd_int pd_int))))) (pd_abs (pd_v 2) T.n_abs) pd_int) (pds_cons pd_int pds_nil))))))))), ?_⟩
  rintro ds Φ - ⟨ns, at_, rfl, ha, hl, hΦ⟩
  conv => whnf
  split
  · rename_i he
    have hlt : at_ < ns.length := by have := of_decide_eq_true he; simpa using this
    have hj : ∃ j, at_ = (j : Nat) := ⟨at_.toNat, by omega⟩
    obtain ⟨j, rfl⟩ := hj
    have hj : j < ns.length := by omega
    have e1 : ixN (ns.map D.int).length (j : Int) = some j := by
      unfold ixN
      rw [List.length_map, if_pos (by omega), if_pos (by omega)]
      rfl
    have e2 : atI (ns.map D.int) (j : Int) = some (.int ns[j]) := by
      unfold atI
      rw [e1]
      show (ns.map D.int)[j]? = _
      rw [List.getElem?_map, List.getElem?_eq_getElem hj]
      rfl
    conv => whnf
    rw [e2]
    generalize ns[j] = own
    conv => whnf
    refine ⟨by decide, ?_⟩
    conv => whnf
    have hm := Int.emod_nonneg own (show (2147483587 : Int) ≠ 0 by decide)
    have hm' := Int.emod_lt_of_pos own (show (0 : Int) < 2147483587 by decide)
    generalize own % 2147483587 = mix0 at *
    have e3 : decide ((((ns.map D.int).length : Nat) : Int) ≤ (j : Int)) = false := decide_eq_false (by rw [List.length_map]; omega)
    split
    · rename_i h3
      exact absurd (e3.symm.trans h3) (by decide)
    · exact spring_tail ha ⟨hm, hm'⟩ hΦ
  · rename_i he
    have hge : ns.length ≤ at_ := by have := of_decide_eq_false he; simpa using this
    conv => whnf
    refine ⟨.inl (by decide), ?_⟩
    conv => whnf
    refine ⟨by decide, ?_⟩
    conv => whnf
    have hm := Int.emod_nonneg (11 * at_ + 5) (show (2147483587 : Int) ≠ 0 by decide)
    have hm' := Int.emod_lt_of_pos (11 * at_ + 5) (show (0 : Int) < 2147483587 by decide)
    have e2 : decide ((((ns.map D.int).length : Nat) : Int) ≤ at_) = true := decide_eq_true (by rw [List.length_map]; exact hge)
    generalize (11 * at_ + 5) % 2147483587 = mix0 at *
    split
    · conv => whnf
      refine forD_inv (fun ds ρ c => c = [] ∧ (∃ (mix : Int) (x4 : Option D), ρ = [some (intsD ns), some (.int at_), some (.int (11 * at_ + 5)), some (.int mix), x4] ∧ 0 ≤ mix ∧ mix < 2147483587) ∧ ∀ d ∈ ds, ∃ i : Int, d = .int i) ?_ ?_ _ _ _ ?_
      · rintro ρ c ⟨rfl, ⟨mix, x4, rfl, h1, h2⟩, -⟩
        exact spring_tail ha ⟨h1, h2⟩ hΦ
      · rintro d ds ρ c F hF ⟨rfl, ⟨mix, x4, rfl, h1, h2⟩, hi⟩
        obtain ⟨i, rfl⟩ := hi d List.mem_cons_self
        conv => whnf
        ((refine ⟨?num, ?_⟩); (case num => first | omega | (left; omega) | (right; omega)); (conv => whnf))
        ((refine ⟨?num, ?_⟩); (case num => first | omega | (left; omega) | (right; omega)); (conv => whnf))
        exact hF _ _ ⟨rfl, ⟨_, _, rfl, Int.emod_nonneg _ (by decide), Int.emod_lt_of_pos _ (by decide)⟩, fun d hd => hi d (List.mem_cons_of_mem _ hd)⟩
      · refine ⟨rfl, ⟨mix0, none, rfl, hm, hm'⟩, fun d hd => ?_⟩
        have hd := List.mem_of_mem_drop (List.mem_of_mem_take hd)
        obtain ⟨i, _, rfl⟩ := List.mem_map.mp hd
        exact ⟨i, rfl⟩
    · rename_i h3
      exact absurd (e2.symm.trans h3) (by decide)

end
end K08

namespace K08
open PySem PySem.Spec PyProof.Rows L2 Cw

structure Sh where
  l : Nat
  n : Int
  o : Bool
def Sh.d (s : Sh) : D := .tup [.str (one s.l), .int s.n, .str (bendS s.o)]
def moreS (n : Int) : Str := if n = 0 then "" else if n < 0 then toString n else "+" ++ toString n
def Sh.row (s : Sh) : Str := one s.l ++ moreS s.n ++ " " ++ bendS s.o
def Sh.ok (s : Sh) : Prop := (s.l = 120 ∨ s.l = 121 ∨ s.l = 122) ∧ (-9 ≤ s.n ∧ s.n ≤ 9)
theorem nine {n : Int} (h : -9 ≤ n ∧ n ≤ 9) {P : Int → Prop} (hp : ∀ i : Fin 19, P ((i.val : Int) - 9)) : P n := by
  have := hp ⟨(n + 9).toNat, by omega⟩
  have e : (((⟨(n + 9).toNat, by omega⟩ : Fin 19).val : Nat) : Int) - 9 = n := by simp; omega
  rw [e] at this; exact this
theorem tos_len {n : Int} (h : -9 ≤ n ∧ n ≤ 9) : (toString n : Str).length ≤ 2 := nine (P := fun n => (toString n : Str).length ≤ 2) h (by decide +kernel)
theorem tos_small {n : Int} (h : -9 ≤ n ∧ n ≤ 9) : n.natAbs.log2 < 1920 := by
  have : n.natAbs.log2 < 4 := by
    by_cases h0 : n.natAbs = 0
    · rw [h0]; decide
    · exact (Nat.log2_lt h0).mpr (by omega)
  omega
def S__law_shut_row : Pm := fun c ds Φ => ∃ s, ds = [Sh.d s] ∧ s.ok ∧ Φ (.str s.row) c
section
variable {P : Program} {w : World} {K : PySem.W.Frag} {mg : Str → Option Value} {base : Heap}
set_option maxHeartbeats 8000000 in
theorem ok__law_shut_row (T : Tx K mg) : FnOk P w K mg base CX0 1 T.a__law_shut_row T.d__law_shut_row ["_law_shut"] (spD K 0 1 S__law_shut_row) := by
  refine fnD T.F__law_shut_row sc__law_shut_row fun cdv A outer s H E hr => ⟨_, (psd_cons (psd_asg (pd_v 0) (pgd_tup rfl (pgds_cons (pgd_name (i := 1) sc__law_shut_row.nd) (pgds_cons (pgd_name (i := 2) sc__law_shut_row.nd) (pgds_cons (pgd_name (i := 3) sc__law_shut_row.nd) pgds_nil))))) (psd_one (psd_ret (pd_add (pd_add (pd_add (pd_v 1) (pd_if (pdt_eq hr (pd_v 2) pd_int) pd_str (pd_if (pdt_lt (pd_v 2) pd_int) (pd_strc (pd_v 2) T.n_str) (pd_add pd_str (pd_strc (pd_v 2) T.n_str))))) pd_str) (pd_v 3))))), ?_⟩
  rintro c ds Φ hc - ⟨s, rfl, hs, hΦ⟩
  cases c with
  | cons _ _ => cases hc
  | nil =>
  conv => whnf
  refine ⟨rfl, ?_⟩
  conv => whnf
  refine ⟨rfl, ?_⟩
  conv => whnf
  obtain ⟨l, n, o⟩ := s
  have fin : ∀ z : Str, moreS n = z → z.length ≤ 3 → Φ (D.str (one l ++ z ++ " " ++ bendS o)) [] := fun z e _ => by subst e; exact hΦ
  have hb : (bendS o).length ≤ 3 := by cases o <;> decide
  have hl : (one l).length = 1 := rfl
  have l0 : (Str.ofString "").length = 0 := rfl
  have l1 : (Str.ofString " ").length = 1 := by decide
  have l2 : (Str.ofString "+").length = 1 := by decide
  have hi : (toString n : Str).length ≤ 2 := tos_len hs.2
  split
  · rename_i he
    have hn : n = 0 := of_decide_eq_true he
    conv => whnf
    refine ⟨by show (1 : Nat) + 0 ≤ _; decide, ?_⟩
    conv => whnf
    refine ⟨short (by simp only [Str.length_append]; omega), ?_⟩
    conv => whnf
    refine ⟨short (by simp only [Str.length_append]; omega), ?_⟩
    conv => whnf
    exact fin "" (by unfold moreS; rw [if_pos hn]) (by rw [show ("" : Str).length = 0 from rfl]; omega)
  · rename_i he
    have hn : n ≠ 0 := of_decide_eq_false he
    conv => whnf
    split
    · rename_i h2
      have h2 : n < 0 := of_decide_eq_true h2
      conv => whnf
      refine ⟨tos_small hs.2, ?_⟩
      conv => whnf
      refine ⟨short (by show (one l).length + (toString n : Str).length ≤ 60000; omega), ?_⟩
      conv => whnf
      refine ⟨short (by simp only [Str.length_append]; omega), ?_⟩
      conv => whnf
      refine ⟨short (by simp only [Str.length_append]; omega), ?_⟩
      conv => whnf
      exact fin (toString n) (by unfold moreS; rw [if_neg hn, if_pos h2]) (by omega)
    · rename_i h2
      have h2 : ¬ n < 0 := of_decide_eq_false h2
      conv => whnf
      refine ⟨tos_small hs.2, ?_⟩
      conv => whnf
      refine ⟨short (by show (Str.ofString "+").length + (toString n : Str).length ≤ 60000; omega), ?_⟩
      conv => whnf
      refine ⟨short (by simp only [Str.length_append]; omega), ?_⟩
      conv => whnf
      refine ⟨short (by simp only [Str.length_append]; omega), ?_⟩
      conv => whnf
      refine ⟨short (by simp only [Str.length_append]; omega), ?_⟩
      conv => whnf
      exact fin ("+" ++ toString n) (by unfold moreS; rw [if_neg hn, if_neg h2]) (by rw [Str.length_append]; omega)

end

def shsD (ss : List Sh) : D := .tup (ss.map Sh.d)
def planS (ss : List Sh) : Str := Txt.join ", " (ss.map Sh.row)
def oks (ss : List Sh) : Prop := ss.length ≤ 12 ∧ ∀ s ∈ ss, s.ok
def S__law_plan : Pm := fun c ds Φ => ∃ ss, ds = [shsD ss] ∧ oks ss ∧ Φ (.str (planS ss)) c
theorem shD_ok (s : Sh) : okD 0 s.d = true := rfl
theorem shs_ok : ∀ ss : List Sh, okDs 0 (ss.map Sh.d) = true
  | [] => rfl
  | s :: ss => by
    show (okD 0 s.d && okDs 0 (ss.map Sh.d)) = true
    rw [shs_ok ss]; rfl
theorem txts_strs : ∀ ys : List Str, txts (ys.map .str) = some ys
  | [] => rfl
  | y :: ys => by
    show (txts (ys.map .str)).map (y :: ·) = _
    rw [txts_strs ys]; rfl
theorem row_len {s : Sh} (h : s.ok) : s.row.length ≤ 8 := by
  have h1 : (one s.l).length = 1 := rfl
  have h2 : (bendS s.o).length ≤ 3 := by cases s.o <;> decide
  have h3 : (moreS s.n).length ≤ 3 := by
    have := tos_len h.2
    have l2 : (Str.ofString "+").length = 1 := by decide
    unfold moreS
    split
    · exact Nat.zero_le _
    · split
      · omega
      · rw [Str.length_append]; omega
  have h4 : (Str.ofString " ").length = 1 := by decide
  unfold Sh.row
  simp only [Str.length_append]
  omega
theorem rows_len : ∀ {ss : List Sh}, (∀ s ∈ ss, s.ok) → ((ss.map Sh.row).map (·.length)).sum ≤ 8 * ss.length
  | [], _ => Nat.le_refl _
  | s :: ss, h => by
    have h1 := row_len (h s List.mem_cons_self)
    have h2 := rows_len fun x hx => h x (List.mem_cons_of_mem s hx)
    show s.row.length + ((ss.map Sh.row).map (·.length)).sum ≤ 8 * (ss.length + 1)
    omega
section
variable {P : Program} {w : World} {K : PySem.W.Frag} {mg : Str → Option Value} {base : Heap}
set_option maxHeartbeats 8000000 in
theorem ok__law_plan (T : Tx K mg) : FnOk P w K mg base CX0 2 T.a__law_plan T.d__law_plan ["_law_shuts"] (spD K 0 1 S__law_plan) := by
  refine fnD T.F__law_plan sc__law_plan fun cdv A outer s H E hr => ⟨_, (psd_one (psd_ret (pd_join pd_str (pd_lc (i := 1) rfl sc__law_plan.nd (pid_tup (pd_v 0)) (by kernel_rfl) (fun _ _ _ _ _ => pg_name (i := 1) sc__law_plan.nd rfl (Or.inl rfl)) (fun _ _ _ _ _ => ptd_nil) (fun _ _ _ _ _ => (pd_callP (ok__law_shut_row T) (hr.mono (by decide)) T.g__law_shut_row T.F__law_shut_row.kp T.b__law_shut_row pass0 (pds_cons (pd_v 1) pds_nil))))))), ?_⟩
  rintro c ds Φ hc - ⟨ss, rfl, hs, hΦ⟩
  cases c with
  | cons _ _ => cases hc
  | nil =>
  conv => whnf
  refine ⟨_, rfl, ?_⟩
  refine lc_map (c := []) (fun d => match d with | .tup [.str l, .int n, .str b] => .str (l ++ moreS n ++ " " ++ b) | _ => .non) rfl _ ?_ ?_ ?_
  · intro d hd
    obtain ⟨s, hs', rfl⟩ := List.mem_map.mp hd
    refine ⟨rfl, fun acc Ψ _ h => ?_⟩
    conv => whnf
    refine ⟨rfl, rfl, ?_⟩
    exact ⟨s, rfl, hs.2 s hs', h⟩
  · rw [List.length_map]; exact short (by have := hs.1; omega)
  · conv => whnf
    have e : (ss.map Sh.d).map (fun d => match d with | .tup [.str l, .int n, .str b] => D.str (l ++ moreS n ++ " " ++ b) | _ => .non) = (ss.map Sh.row).map .str := by
      rw [List.map_map, List.map_map]; rfl
    rw [e]
    refine ⟨_, txts_strs _, ?_, ?_⟩
    · have h1 := rows_len hs.2
      have h2 : (Str.ofString ", ").length = 2 := by decide
      have h3 := hs.1
      rw [List.length_map, h2]
      show _ ≤ 16777216
      omega
    · exact hΦ

end

theorem inF_strs (x : Str) (ys : List Str) : inF (.str x) (ys.map .str) = decide (x ∈ ys) := by
  unfold inF inV
  rw [List.map_map, List.any_map]
  show (ys.any fun y => y == x) = _
  rw [Bool.eq_iff_iff]
  simp [List.any_eq_true]
def hasL (ss : List Sh) (k : Nat) : Bool := decide (one k ∈ ss.map fun s => one s.l)
def lettersS (ss : List Sh) : Str := Txt.join "" (([120, 121, 122].filter (hasL ss)).map one)
def S__law_letters : Pm := fun c ds Φ => ∃ ss, ds = [shsD ss] ∧ oks ss ∧ Φ (.str (lettersS ss)) c
theorem shsD_ok (ss : List Sh) : okDs 0 [shsD ss] = true := by
  show (okDs 0 (ss.map Sh.d) && true) = true
  rw [shs_ok]; rfl
def dueD (ss : List Sh) : D := .lst [.str (planS ss), shsD ss, .str (lettersS ss), .str (planS ss), .int ss.length, .bl true]
def S__law_due_of : Pm := fun c ds Φ => ∃ ss, ds = [shsD ss] ∧ oks ss ∧ Φ (dueD ss) c
section
variable {P : Program} {w : World} {K : PySem.W.Frag} {mg : Str → Option Value} {base : Heap}


end

def plusOf (t : Str) : Option Int := if t = "" then some 0 else match numberOf (cutS t (some 1) none) 1 9, atI t.cps.toList 0 with
  | some n, some k => if k ∈ ("+-" : Str).cps.toList then some (if one k = "+" then n else -n) else none
  | _, _ => none
def S_plus_of : Pm := fun c ds Φ => ∃ t, ds = [.str t] ∧ t.length ≤ 5000 ∧ Φ (optI (plusOf t)) c
theorem cut_len (t : Str) (lo hi : Option Int) : (cutS t lo hi).length ≤ t.length := by
  show (((t.cps.toList.drop _).take _).toArray).size ≤ t.cps.size
  rw [List.size_toArray, List.length_take, List.length_drop, Array.length_toList]
  omega
theorem at0 {t : Str} (h : ¬ t = "") : ∃ k, atI t.cps.toList 0 = some k := by
  cases e : t.cps.toList with
  | nil =>
    refine absurd ?_ h
    cases t with | mk a => 
      have : a = #[] := by
        apply Array.ext'
        exact e
      subst this; rfl
  | cons k r =>
    refine ⟨k, ?_⟩
    unfold atI ixN
    rw [if_pos (by decide), if_pos (by simp)]
    rfl
section
variable {P : Program} {w : World} {K : PySem.W.Frag} {mg : Str → Option Value} {base : Heap}
set_option maxHeartbeats 8000000 in
theorem ok_plus_of (T : Tx K mg) : FnOk P w K mg base CX0 2 T.a_plus_of T.d_plus_of ["text"] (spD K 0 1 S_plus_of) := by
  refine fnD T.F_plus_of sc_plus_of fun cdv A outer s H E hr => ⟨_, (psd_cons (psd_if (pdt_eq hr (pd_v 0) pd_str) (psd_one (psd_ret pd_int)) psd_nil) (psd_cons (psd_set (i := 1) sc_plus_of.nd (pd_callP (ok_number_of T) (hr.mono (by decide)) T.g_number_of T.F_number_of.kp T.b_number_of pass0 (pds_cons (pd_sl (pd_v 0) (po_so pd_int) po_no) (pds_cons pd_int (pds_cons (pd_gi T.c_MOST_PLUS) pds_nil))))) (psd_cons (psd_if (PDw.pt (pdw_or (pdt_isn (pd_v 1) pd_non) (pdw_or1 (pdt_nin hr (pd_ix (pd_v 0) pd_int) pd_str)))) (psd_one (psd_ret pd_non)) psd_nil) (psd_one (psd_ret (pd_if (pdt_eq hr (pd_ix (pd_v 0) pd_int) pd_str) (pd_v 1) (pd_neg (pd_v 1)))))))), ?_⟩
  rintro c ds Φ hc - ⟨t, rfl, ht, hΦ⟩
  cases c with
  | cons _ _ => cases hc
  | nil =>
  conv => whnf
  split
  · rename_i he
    have he : t = "" := of_decide_eq_true he
    conv => whnf
    have : plusOf t = some 0 := by unfold plusOf; rw [if_pos he]
    rw [this] at hΦ
    exact hΦ
  · rename_i he
    have he : ¬ t = "" := of_decide_eq_false he
    conv => whnf
    refine ⟨Nat.le_trans ht (by decide), ?_⟩
    conv => whnf
    refine ⟨rfl, rfl, _, 1, 9, rfl, Nat.le_trans (cut_len _ _ _) ht, ?_⟩
    have hk : ∃ k, atI t.cps.toList 0 = some k := at0 he
    obtain ⟨k, hk⟩ := hk
    cases e : numberOf (cutS t (some 1) none) 1 9 with
    | none =>
      conv => whnf
      have : plusOf t = none := by unfold plusOf; rw [if_neg he, e]
      rw [this] at hΦ
      exact hΦ
    | some n =>
      conv => whnf
      refine ⟨Nat.le_trans ht (by decide), ?_⟩
      conv => whnf
      rw [hk]
      conv => whnf
      have e2 : plusOf t = if k ∈ ("+-" : Str).cps.toList then some (if one k = "+" then n else -n) else none := by unfold plusOf; rw [if_neg he, e, hk]
      split
      · rename_i h2
        have h2 : ¬ k ∈ ("+-" : Str).cps.toList := by simpa [inS] using h2
        rw [e2, if_neg h2] at hΦ
        exact hΦ
      · rename_i h2
        have h2 : k ∈ ("+-" : Str).cps.toList := by simpa [inS] using h2
        rw [e2, if_pos h2] at hΦ
        conv => whnf
        refine ⟨Nat.le_trans ht (by decide), ?_⟩
        conv => whnf
        rw [hk]
        conv => whnf
        split
        · rename_i h3
          rw [if_pos (of_decide_eq_true h3)] at hΦ
          exact hΦ
        · rename_i h3
          rw [if_neg (of_decide_eq_false h3)] at hΦ
          exact hΦ

end

theorem spl_len (S : List Nat) : ∀ (l : List Nat) (k : Nat) (acc : List Nat), ∀ p ∈ TL.spl S k acc l, p.length ≤ acc.length + l.length
  | [], k, acc, p, h => by
    rw [TL.spl_nil] at h
    rw [List.mem_singleton.mp h]; simp
  | c :: r, 0, acc, p, h => by
    cases e : TL.pre S (c :: r) with
    | true =>
      rw [TL.spl_hit e] at h
      rcases List.mem_cons.mp h with rfl | h
      · simp
      · have := spl_len S r _ _ p h
        simp at this ⊢; omega
    | false =>
      rw [TL.spl_miss e] at h
      have := spl_len S r _ _ p h
      simp at this ⊢; omega
  | c :: r, k + 1, acc, p, h => by
    have := spl_len S r k acc p h
    simp at this ⊢; omega
theorem split_len {t y : Str} (hy : TL.tl y ≠ []) (hk : y.cps.all (· < 256) = true) {p : Str} (h : p ∈ Txt.split t y) : p.length ≤ t.length := by
  have h1 : TL.tl p ∈ TL.spl (TL.tl y) 0 [] (TL.tl t) := by
    rw [← TL.split_spl t y hy (TL.kind_ok hk)]
    exact List.mem_map.mpr ⟨p, h, rfl⟩
  have := spl_len _ _ _ _ _ h1
  rw [TL.len_tl, TL.len_tl]
  simpa using this
theorem nd_t {P : Prop} [Decidable P] (h : (!decide P) = true) : ¬ P := fun hp => by rw [decide_eq_true hp] at h; cases h
theorem nd_f {P : Prop} [Decidable P] (h : (!decide P) = false) : P := Decidable.byContradiction fun hp => by rw [decide_eq_false hp] at h; cases h
def sideOf (t : Str) : Option (Nat × Int × Str) := match Txt.split t " " with
  | [a, b] => if cutS a none (some 1) ∈ (["x", "y", "z"] : List Str) ∧ b ∈ (["out", "in"] : List Str) then match plusOf (cutS a (some 1) none), atI a.cps.toList 0 with
    | some n, some k => some (k, n, b)
    | _, _ => none else none
  | _ => none
def sideD : Option (Nat × Int × Str) → D
  | none => .non
  | some (k, n, b) => .tup [.str (one k), .int n, .str b]
def S_side_of : Pm := fun c ds Φ => ∃ t, ds = [.str t] ∧ t.length ≤ 5000 ∧ Φ (sideD (sideOf t)) c
section
variable {P : Program} {w : World} {K : PySem.W.Frag} {mg : Str → Option Value} {base : Heap}
set_option maxHeartbeats 8000000 in
theorem ok_side_of (T : Tx K mg) : FnOk P w K mg base CX0 3 T.a_side_of T.d_side_of ["text"] (spD K 0 1 S_side_of) := by
  refine fnD T.F_side_of sc_side_of fun cdv A outer s H E hr => ⟨_, (psd_cons (psd_set (i := 1) sc_side_of.nd (pd_split (pd_v 0) pd_str)) (psd_cons (psd_if (PDw.pt (pdw_or (pdt_ne hr (pd_len (pd_v 1) T.n_len) pd_int) (pdw_or (pdt_nin hr (pd_sl (pd_ix (pd_v 1) pd_int) po_no (po_so pd_int)) (pd_gtt T.c_SIDE_LETTERS)) (pdw_or1 (pdt_nin hr (pd_ix (pd_v 1) pd_int) (pd_gtt T.c_TURNS)))))) (psd_one (psd_ret pd_non)) psd_nil) (psd_cons (psd_set (i := 2) sc_side_of.nd (pd_callP (ok_plus_of T) (hr.mono (by decide)) T.g_plus_of T.F_plus_of.kp T.b_plus_of pass0 (pds_cons (pd_sl (pd_ix (pd_v 1) pd_int) (po_so pd_int) po_no) pds_nil))) (psd_cons (psd_if (pdt_isn (pd_v 2) pd_non) (psd_one (psd_ret pd_non)) psd_nil) (psd_one (psd_ret (pd_tup (pds_cons (pd_ix (pd_ix (pd_v 1) pd_int) pd_int) (pds_cons (pd_v 2) (pds_cons (pd_ix (pd_v 1) pd_int) pds_nil)))))))))), ?_⟩
  rintro c ds Φ hc - ⟨t, rfl, ht, hΦ⟩
  cases c with
  | cons _ _ => cases hc
  | nil =>
  conv => whnf
  refine ⟨t, rfl, ?_⟩
  conv => whnf
  refine ⟨rfl, Nat.le_trans (Nat.add_le_add_right ht 2) (by decide), ?_⟩
  have hlen : ∀ p ∈ Txt.split t " ", p.length ≤ 5000 := fun p hp => Nat.le_trans (split_len (by decide +kernel) (by decide +kernel) hp) ht
  have no : (∀ a b, Txt.split t " " ≠ [a, b]) → sideOf t = none := fun h => by
    unfold sideOf
    split
    · rename_i a b e
      exact absurd e (h a b)
    · rfl
  have yes : ∀ a b, Txt.split t " " = [a, b] → sideOf t = if cutS a none (some 1) ∈ (["x", "y", "z"] : List Str) ∧ b ∈ (["out", "in"] : List Str) then match plusOf (cutS a (some 1) none), atI a.cps.toList 0 with
    | some n, some k => some (k, n, b)
    | _, _ => none else none := fun a b h => by
    unfold sideOf
    rw [h]
  have e0 : Txt.split t (Str.ofString " ") = Txt.split t " " := rfl
  rw [e0]
  generalize Txt.split t " " = ws at *
  have bad : (∀ a b, ws ≠ [a, b]) → Φ .non [] := fun h => by
    rw [no h] at hΦ; exact hΦ
  match ws, hlen, yes, bad with
  | [], _, _, bad =>
    conv => whnf
    exact bad fun _ _ e => by cases e
  | [a], _, _, bad =>
    conv => whnf
    exact bad fun _ _ e => by cases e
  | a :: b :: x :: r, _, _, bad =>
    conv => whnf
    exact bad fun _ _ e => by cases e
  | [a, b], hlen, yes, bad =>
    have ha := hlen a (by simp)
    have hb := hlen b (by simp)
    have yes := yes a b rfl
    conv => whnf
    refine ⟨Nat.le_trans ha (by decide), ?_⟩
    conv => whnf
    refine .inl ⟨_, rfl, rfl, rfl, ?_⟩
    conv => whnf
    split
    · rename_i h1
      have h1 : ¬ cutS a none (some 1) ∈ (["x", "y", "z"] : List Str) := by
        have h1 : (!inF (.str (cutS a none (some 1))) ((["x", "y", "z"] : List Str).map .str)) = true := h1
        rw [inF_strs] at h1
        exact nd_t h1
      rw [yes, if_neg fun z => h1 z.1] at hΦ
      conv => whnf
      exact hΦ
    · rename_i h1
      have h1 : cutS a none (some 1) ∈ (["x", "y", "z"] : List Str) := by
        have h1 : (!inF (.str (cutS a none (some 1))) ((["x", "y", "z"] : List Str).map .str)) = false := h1
        rw [inF_strs] at h1
        exact nd_f h1
      conv => whnf
      refine .inl ⟨_, rfl, rfl, rfl, ?_⟩
      conv => whnf
      split
      · rename_i h2
        have h2 : ¬ b ∈ (["out", "in"] : List Str) := by
          have h2 : (!inF (.str b) ((["out", "in"] : List Str).map .str)) = true := h2
          rw [inF_strs] at h2
          exact nd_t h2
        rw [yes, if_neg fun z => h2 z.2] at hΦ
        conv => whnf
        exact hΦ
      · rename_i h2
        have h2 : b ∈ (["out", "in"] : List Str) := by
          have h2 : (!inF (.str b) ((["out", "in"] : List Str).map .str)) = false := h2
          rw [inF_strs] at h2
          exact nd_f h2
        rw [yes, if_pos ⟨h1, h2⟩] at hΦ
        conv => whnf
        refine ⟨Nat.le_trans ha (by decide), ?_⟩
        conv => whnf
        refine ⟨rfl, rfl, _, rfl, Nat.le_trans (cut_len _ _ _) ha, ?_⟩
        have hk : ∃ k, atI a.cps.toList 0 = some k := at0 (by
          rintro rfl
          revert h1
          decide +kernel)
        obtain ⟨k, hk⟩ := hk
        cases e : plusOf (cutS a (some 1) none) with
        | none =>
          rw [e] at hΦ
          conv => whnf
          exact hΦ
        | some n =>
          rw [e, hk] at hΦ
          conv => whnf
          refine ⟨Nat.le_trans ha (by decide), ?_⟩
          conv => whnf
          rw [hk]
          conv => whnf
          refine ⟨by show 3 ≤ sizeLine; decide, ?_⟩
          conv => whnf
          exact hΦ

end

theorem plus_more {n : Int} (h : -9 ≤ n ∧ n ≤ 9) : plusOf (moreS n) = some n := nine (P := fun n => plusOf (moreS n) = some n) h (by decide +kernel)
theorem more_tl {n : Int} (h : -9 ≤ n ∧ n ≤ 9) : 32 ∉ TL.tl (moreS n) ∧ 44 ∉ TL.tl (moreS n) := nine (P := fun n => 32 ∉ TL.tl (moreS n) ∧ 44 ∉ TL.tl (moreS n)) h (by decide +kernel)
theorem row_join (s : Sh) : s.row = Txt.join " " [one s.l ++ moreS s.n, bendS s.o] := by
  refine TL.ext_tl ?_
  rw [TL.join_eq, TL.tl_join]
  unfold Sh.row
  rw [TL.tl_append, TL.tl_append]
  show (TL.tl _ ++ TL.tl _) ++ TL.tl _ = TL.tl _ ++ (TL.tl _ ++ TL.tl _)
  rw [List.append_assoc]
theorem row_split {s : Sh} (h : s.ok) : Txt.split s.row " " = [one s.l ++ moreS s.n, bendS s.o] := by
  rw [row_join]
  refine TL.split_join (s := 32) (S := []) (by decide +kernel) (by decide +kernel) (by simp) fun p hp => ?_
  rcases List.mem_cons.mp hp with rfl | hp
  · rw [TL.tl_append]
    intro z
    rcases List.mem_append.mp z with z | z
    · have z : 32 ∈ [s.l] := z
      have := List.mem_singleton.mp z
      have := h.1; omega
    · exact (more_tl h.2).1 z
  · rw [List.mem_singleton.mp hp]
    cases s.o <;> decide +kernel
theorem one_cut (l : Nat) (z : Str) : cutS (one l ++ z) none (some 1) = one l ∧ cutS (one l ++ z) (some 1) none = z ∧ atI (one l ++ z).cps.toList 0 = some l := by
  have e : (one l ++ z).cps.toList = l :: z.cps.toList := TL.tl_append (one l) z
  have el : (one l ++ z).length = z.length + 1 := by rw [Str.length_append]; show 1 + _ = _; omega
  refine ⟨TL.ext_tl ?_, TL.ext_tl ?_, ?_⟩
  · show ((((one l ++ z).cps.toList).drop _).take _) = [l]
    rw [e, el]
    show ((l :: z.cps.toList).drop 0).take (min 1 (z.length + 1) - 0) = [l]
    rw [show min 1 (z.length + 1) - 0 = 1 by omega]
    rfl
  · show ((((one l ++ z).cps.toList).drop _).take _) = z.cps.toList
    rw [e, el]
    show ((l :: z.cps.toList).drop (min 1 (z.length + 1))).take ((z.length + 1) - min 1 (z.length + 1)) = z.cps.toList
    rw [show min 1 (z.length + 1) = 1 by omega]
    show z.cps.toList.take (z.length + 1 - 1) = _
    rw [List.take_of_length_le]
    rw [Array.length_toList]
    exact Nat.le_refl _
  · unfold atI ixN
    rw [e, if_pos (by decide), if_pos (by simp)]
    rfl
theorem side_row {s : Sh} (h : s.ok) : sideOf s.row = some (s.l, s.n, bendS s.o) := by
  unfold sideOf
  rw [row_split h]
  obtain ⟨h1, h2, h3⟩ := one_cut s.l (moreS s.n)
  dsimp only
  rw [h1, h2, h3, plus_more h.2, if_pos]
  refine ⟨?_, ?_⟩
  · rcases h.1 with e | e | e <;> rw [e] <;> decide +kernel
  · cases s.o <;> decide +kernel
theorem row_comma {s : Sh} (h : s.ok) : 44 ∉ TL.tl s.row := by
  unfold Sh.row
  rw [TL.tl_append, TL.tl_append, TL.tl_append]
  intro z
  rcases List.mem_append.mp z with z | z
  · rcases List.mem_append.mp z with z | z
    · rcases List.mem_append.mp z with z | z
      · have z : 44 ∈ [s.l] := z
        have := List.mem_singleton.mp z
        have := h.1; omega
      · exact (more_tl h.2).2 z
    · revert z; decide +kernel
  · revert z
    cases s.o <;> decide +kernel
theorem plan_split {ss : List Sh} (h : oks ss) (hn : ss ≠ []) : Txt.split (planS ss) ", " = ss.map Sh.row :=
  TL.split_join (s := 44) (S := [32]) (by decide +kernel) (by decide +kernel) (fun z => hn (List.map_eq_nil_iff.mp z)) fun p hp => by
    obtain ⟨s, hs, rfl⟩ := List.mem_map.mp hp
    exact row_comma (h.2 s hs)

theorem plan_len {ss : List Sh} (h : oks ss) : (planS ss).length ≤ 200 := by
  have h1 := join_len (", " : Str) (ss.map Sh.row)
  have h2 := rows_len h.2
  have h3 : (", " : Str).length = 2 := by decide
  have h4 := h.1
  rw [List.length_map, h3] at h1
  unfold planS
  omega
def Sh.py (s : Sh) : PyData := .tuple [.str (one s.l), .int s.n, .str (bendS s.o)]
theorem pys_shs : ∀ ss : List Sh, D.pys (ss.map Sh.d) = some (ss.map Sh.py)
  | [] => rfl
  | s :: ss => by
    show (match D.py s.d, D.pys (ss.map Sh.d) with | some p, some ps => some (p :: ps) | _, _ => none) = _
    rw [pys_shs ss]; rfl
theorem lay_shs : ∀ {ss : List Sh}, (∀ s ∈ ss, s.ok) → PyData.canLayAll0 (ss.map Sh.py) = true
  | [], _ => rfl
  | s :: ss, h => by
    have h1 : s.py.canLay0 = true := by
      have hl := (h s List.mem_cons_self).1
      show (PyData.strOk (one s.l) && (true && (PyData.strOk (bendS s.o) && true))) = true
      have e1 : PyData.strOk (one s.l) = true := by rcases hl with e | e | e <;> rw [e] <;> decide +kernel
      have e2 : PyData.strOk (bendS s.o) = true := by cases s.o <;> decide +kernel
      rw [e1, e2]; rfl
    show (s.py.canLay0 && PyData.canLayAll0 (ss.map Sh.py)) = true
    rw [h1, lay_shs fun x hx => h x (List.mem_cons_of_mem s hx)]; rfl
theorem dep_shs : ∀ ss : List Sh, PyData.depthAll (ss.map Sh.py) ≤ 1
  | [] => Nat.zero_le _
  | s :: ss => by
    show max 1 (PyData.depthAll (ss.map Sh.py)) ≤ 1
    have := dep_shs ss
    omega
theorem shaped_shs {ss : List Sh} (h : ∀ s ∈ ss, s.ok) : SeqAt.shaped (.list (ss.map Sh.py)) = true := by
  show (PyData.canLayAll0 (ss.map Sh.py) && decide (PyData.depthAll (ss.map Sh.py) + 1 ≤ 64)) = true
  have := dep_shs ss
  rw [lay_shs h, decide_eq_true (by omega)]; rfl
theorem any_shs (ss : List Sh) : ((ss.map Sh.py).any fun z => PyData.eqv z .none) = false := by
  rw [List.any_eq_false]
  intro x hx
  obtain ⟨s, _, rfl⟩ := List.mem_map.mp hx
  have e : s.py.eqv .none = false := rfl
  rw [e]; decide
def S_sides_of : Pm := fun c ds Φ => ∃ ss, ds = [.str (planS ss)] ∧ oks ss ∧ ss ≠ [] ∧ Φ (shsD ss) c
section
variable {P : Program} {w : World} {K : PySem.W.Frag} {mg : Str → Option Value} {base : Heap}
set_option maxHeartbeats 8000000 in
theorem ok_sides_of (T : Tx K mg) : FnOk P w K mg base CX0 4 T.a_sides_of T.d_sides_of ["text"] (spD K 0 1 S_sides_of) := by
  refine fnD T.F_sides_of sc_sides_of fun cdv A outer s H E hr => ⟨_, (psd_cons (psd_if (pdt_not (pdt_val (pd_isi isi_str (.ty "str") (pd_v 0) (pe_bltn rfl T.n_str (by decide +kernel) rfl) T.n_isinstance))) (psd_one (psd_ret pd_non)) psd_nil) (psd_cons (psd_set (i := 1) sc_sides_of.nd (pd_tuplec (pd_lc (i := 2) rfl sc_sides_of.nd (pid_list (pd_split (pd_v 0) pd_str)) (by kernel_rfl) (fun _ _ _ _ _ => pg_name (i := 2) sc_sides_of.nd rfl (Or.inl rfl)) (fun _ _ _ _ _ => ptd_nil) (fun _ _ _ _ _ => (pd_callP (ok_side_of T) (hr.mono (by decide)) T.g_side_of T.F_side_of.kp T.b_side_of pass0 (pds_cons (pd_v 2) pds_nil)))) T.n_tuple)) (psd_cons (psd_if (PDw.pt (pdw_or (pdt_gt (pd_len (pd_v 1) T.n_len) (pd_gi T.c_MOST_SIDES)) (pdw_or1 (pdt_in hr pd_non (pd_v 1))))) (psd_one (psd_ret pd_non)) psd_nil) (psd_one (psd_ret (pd_v 1)))))), ?_⟩
  rintro c ds Φ hc - ⟨ss, rfl, hs, hn, hΦ⟩
  cases c with
  | cons _ _ => cases hc
  | nil =>
  have hpl := plan_len hs
  conv => whnf
  refine ⟨.str, true, rfl, rfl, ?_⟩
  conv => whnf
  refine ⟨_, rfl, ?_⟩
  conv => whnf
  refine ⟨by decide +kernel, short (by omega), ?_⟩
  conv => whnf
  have e0 : Txt.split (planS ss) (Str.ofString ", ") = ss.map Sh.row := plan_split hs hn
  rw [e0]
  refine lc_map (c := []) (fun d => match d with | .str t => sideD (sideOf t) | _ => .non) rfl _ ?_ ?_ ?_
  · intro d hd
    obtain ⟨t, ht, rfl⟩ := List.mem_map.mp hd
    obtain ⟨s, hs', rfl⟩ := List.mem_map.mp ht
    refine ⟨?_, fun acc Ψ _ h => ?_⟩
    · show okD 0 (sideD (sideOf s.row)) = true
      rw [side_row (hs.2 s hs')]; rfl
    · conv => whnf
      refine ⟨rfl, rfl, ?_⟩
      exact ⟨_, rfl, Nat.le_trans (row_len (hs.2 s hs')) (by decide), h⟩
  · rw [List.length_map, List.length_map]; exact short (by have := hs.1; omega)
  · have e : ((ss.map Sh.row).map D.str).map (fun d => match d with | .str t => sideD (sideOf t) | _ => .non) = ss.map Sh.d := by
      rw [List.map_map, List.map_map]
      refine List.map_congr_left fun s hs' => ?_
      show sideD (sideOf s.row) = s.d
      rw [side_row (hs.2 s hs')]; rfl
    rw [e]
    conv => whnf
    have hle : decide ((12 : Int) < ((ss.map Sh.d).length : Nat)) = false := decide_eq_false (by rw [List.length_map]; have := hs.1; omega)
    split
    · rename_i h
      exact absurd (hle.symm.trans h) (by decide)
    · conv => whnf
      refine .inr ⟨.none, _, _, rfl, rfl, pys_shs ss, by decide, shaped_shs hs.2, ?_⟩
      have e2 := any_shs ss
      conv => whnf
      split
      · rename_i h
        exact absurd (e2.symm.trans h) (by decide)
      · conv => whnf
        exact hΦ

end
end K08

namespace K08
open PySem PySem.Spec PyProof.Rows L2 Cw
def roomD (C : Addr) (t : Str) (rows : D) (al : Str) : D := .ins C ["whole", "rows", "alphabet"] [.str t, rows, .str al]
def S_Room_text (C : Addr) : Pm := fun c ds Φ => ∃ t rows al, ds = [roomD C t rows al] ∧ Φ (.str t) c
def S_Room_sides (C : Addr) : Pm := fun c ds Φ => ∃ t rows al, ds = [roomD C t rows al] ∧ okD 0 rows = true ∧ Φ rows c
def S_Room_letters (C : Addr) : Pm := fun c ds Φ => ∃ t rows al, ds = [roomD C t rows al] ∧ Φ (.str al) c
def S_Room___str__ (C : Addr) : Pm := fun c ds Φ => ∃ t rows al, ds = [roomD C t rows al] ∧ Φ (.str t) c
def S_Room___len__ (C : Addr) : Pm := fun c ds Φ => ∃ t rows al, ds = [roomD C t (.tup rows) al] ∧ Φ (.int rows.length) c
def S_Room___eq__ (C : Addr) : Pm := fun c ds Φ => ∃ t rows al t' rows' al', ds = [roomD C t rows al, roomD C t' rows' al'] ∧ Φ (.bl (decide (t = t'))) c
def S_Room___init__ (C : Addr) : Pm := fun c ds Φ => ∃ ss, c = [.obj C [] []] ∧ ds = [.cell 0, .str (planS ss)] ∧ oks ss ∧ ss ≠ [] ∧ Φ .non [.obj C ["whole", "rows", "alphabet"] [.str (planS ss), shsD ss, .str (lettersS ss)]]
theorem sort3 {ss : List Sh} (h : oks ss) {zs : List Str} (h1 : zs.Nodup) (h2 : sortedS zs = true) (h3 : ∀ x, x ∈ zs ↔ x ∈ ss.map fun s => one s.l) : zs = ([120, 121, 122].filter (hasL ss)).map one := by
  have e : hasL ss = fun k => decide (one k ∈ zs) := by
    funext k
    unfold hasL
    by_cases hk : one k ∈ zs
    · rw [decide_eq_true hk, decide_eq_true ((h3 _).mp hk)]
    · rw [decide_eq_false hk, decide_eq_false fun z => hk ((h3 _).mpr z)]
  have hk : ∀ x ∈ zs, x = one 120 ∨ x = one 121 ∨ x = one 122 := fun x hx => by
    obtain ⟨s, hs, rfl⟩ := List.mem_map.mp ((h3 x).mp hx)
    rcases (h.2 s hs).1 with e | e | e <;> rw [e] <;> simp
  rw [e]
  clear h3 e
  match zs, h1, h2, hk with
  | [], _, _, _ => decide +kernel
  | [a], h1, h2, hk =>
    rcases hk a (by simp) with rfl | rfl | rfl <;> decide +kernel
  | [a, b], h1, h2, hk =>
    rcases hk a (by simp) with rfl | rfl | rfl <;> rcases hk b (by simp) with rfl | rfl | rfl <;> first | decide +kernel | exact absurd h2 (by decide +kernel) | exact absurd h1 (by decide +kernel)
  | [a, b, c], h1, h2, hk =>
    rcases hk a (by simp) with rfl | rfl | rfl <;> rcases hk b (by simp) with rfl | rfl | rfl <;> rcases hk c (by simp) with rfl | rfl | rfl <;> first | decide +kernel | exact absurd h2 (by decide +kernel) | exact absurd h1 (by decide +kernel)
  | a :: b :: c :: d :: r, h1, _, hk =>
    exfalso
    have n1 := (List.nodup_cons.mp h1)
    have n2 := (List.nodup_cons.mp n1.2)
    have n3 := (List.nodup_cons.mp n2.2)
    have m1 : b ≠ a := fun z => n1.1 (by simp [z])
    have m2 : c ≠ a := fun z => n1.1 (by simp [z])
    have m3 : d ≠ a := fun z => n1.1 (by simp [z])
    have m4 : c ≠ b := fun z => n2.1 (by simp [z])
    have m5 : d ≠ b := fun z => n2.1 (by simp [z])
    have m6 : d ≠ c := fun z => n3.1 (by simp [z])
    rcases hk a (by simp) with rfl | rfl | rfl <;> rcases hk b (by simp) with rfl | rfl | rfl <;> first | exact m1 rfl | skip
    all_goals rcases hk c (by simp) with rfl | rfl | rfl <;> first | exact m2 rfl | exact m4 rfl | skip
    all_goals rcases hk d (by simp) with rfl | rfl | rfl <;> first | exact m3 rfl | exact m5 rfl | exact m6 rfl
section
variable {P : Program} {w : World} {K : PySem.W.Frag} {mg : Str → Option Value} {base : Heap}
set_option maxHeartbeats 8000000 in
theorem ok_Room_text (T : Tx K mg) : FnOk P w K mg base CX0 1 T.a_Room_text T.d_Room_text ["self"] (spD K 0 1 (S_Room_text T.C_Room)) := by
  refine fnD T.F_Room_text sc_Room_text fun cdv A outer s H E hr => ⟨_, (psd_one (psd_ret (pd_fld T.cl_Room T.na_whole (pd_v 0)))), ?_⟩
  rintro c ds Φ hc - ⟨t, rows, al, rfl, hΦ⟩
  cases c with
  | cons _ _ => cases hc
  | nil =>
  conv => whnf
  refine ⟨rfl, _, rfl, ?_⟩
  conv => whnf
  exact hΦ
set_option maxHeartbeats 8000000 in
theorem ok_Room_sides (T : Tx K mg) : FnOk P w K mg base CX0 1 T.a_Room_sides T.d_Room_sides ["self"] (spD K 0 1 (S_Room_sides T.C_Room)) := by
  refine fnD T.F_Room_sides sc_Room_sides fun cdv A outer s H E hr => ⟨_, (psd_one (psd_ret (pd_fld T.cl_Room T.na_rows (pd_v 0)))), ?_⟩
  rintro c ds Φ hc - ⟨t, rows, al, rfl, hr, hΦ⟩
  cases c with
  | cons _ _ => cases hc
  | nil =>
  conv => whnf
  refine ⟨rfl, _, rfl, ?_⟩
  conv => whnf
  exact hΦ
set_option maxHeartbeats 8000000 in
theorem ok_Room_letters (T : Tx K mg) : FnOk P w K mg base CX0 1 T.a_Room_letters T.d_Room_letters ["self"] (spD K 0 1 (S_Room_letters T.C_Room)) := by
  refine fnD T.F_Room_letters sc_Room_letters fun cdv A outer s H E hr => ⟨_, (psd_one (psd_ret (pd_fld T.cl_Room T.na_alphabet (pd_v 0)))), ?_⟩
  rintro c ds Φ hc - ⟨t, rows, al, rfl, hΦ⟩
  cases c with
  | cons _ _ => cases hc
  | nil =>
  conv => whnf
  refine ⟨rfl, _, rfl, ?_⟩
  conv => whnf
  exact hΦ
set_option maxHeartbeats 8000000 in
theorem ok_Room___eq__ (T : Tx K mg) : FnOk P w K mg base CX0 1 T.a_Room___eq__ T.d_Room___eq__ ["self", "other"] (spD K 0 2 (S_Room___eq__ T.C_Room)) := by
  refine fnD T.F_Room___eq__ sc_Room___eq__ fun cdv A outer s H E hr => ⟨_, (psd_one (psd_ret (pd_and (pd_isi T.i_Room (.own _) (pd_v 1) (pe_glob rfl T.g_Room rfl) T.n_isinstance) (pd_one (pd_eq hr (pd_fld T.cl_Room T.na_whole (pd_v 0)) (pd_fld T.cl_Room T.na_whole (pd_v 1))))))), ?_⟩
  rintro c ds Φ hc - ⟨t, rows, al, t', rows', al', rfl, hΦ⟩
  cases c with
  | cons _ _ => cases hc
  | nil =>
  conv => whnf
  refine ⟨.ins T.C_Room, true, rfl, if_pos rfl, ?_⟩
  conv => whnf
  refine ⟨rfl, _, rfl, ?_⟩
  conv => whnf
  refine ⟨rfl, _, rfl, ?_⟩
  conv => whnf
  exact hΦ
set_option maxHeartbeats 8000000 in
theorem ok_Room___str__ (T : Tx K mg) : FnOk P w K mg base CX0 1 T.a_Room___str__ T.d_Room___str__ ["self"] (spD K 0 1 (S_Room___str__ T.C_Room)) := by
  refine fnD T.F_Room___str__ sc_Room___str__ fun cdv A outer s H E hr => ⟨_, (psd_one (psd_ret (pd_strc (pd_fld T.cl_Room T.na_whole (pd_v 0)) T.n_str))), ?_⟩
  rintro c ds Φ hc - ⟨t, rows, al, rfl, hΦ⟩
  cases c with
  | cons _ _ => cases hc
  | nil =>
  conv => whnf
  refine ⟨rfl, _, rfl, ?_⟩
  conv => whnf
  exact hΦ
set_option maxHeartbeats 8000000 in
theorem ok_Room___len__ (T : Tx K mg) : FnOk P w K mg base CX0 1 T.a_Room___len__ T.d_Room___len__ ["self"] (spD K 0 1 (S_Room___len__ T.C_Room)) := by
  refine fnD T.F_Room___len__ sc_Room___len__ fun cdv A outer s H E hr => ⟨_, (psd_one (psd_ret (pd_len (pd_fld T.cl_Room T.na_rows (pd_v 0)) T.n_len))), ?_⟩
  rintro c ds Φ hc - ⟨t, rows, al, rfl, hΦ⟩
  cases c with
  | cons _ _ => cases hc
  | nil =>
  conv => whnf
  refine ⟨rfl, _, rfl, ?_⟩
  conv => whnf
  exact hΦ
set_option maxHeartbeats 8000000 in
theorem ok_Room___init__ (T : Tx K mg) : FnOk P w K mg base CX0 6 T.a_Room___init__ T.d_Room___init__ ["self", "text"] (spD K 1 2 (S_Room___init__ T.C_Room)) := by
  refine fnD T.F_Room___init__ sc_Room___init__ fun cdv A outer s H E hr => ⟨_, (psd_cons (psd_set (i := 2) sc_Room___init__.nd (pd_callP (ok_sides_of T) (hr.mono (by decide)) T.g_sides_of T.F_sides_of.kp T.b_sides_of pass0 (pds_cons (pd_v 1) pds_nil))) (psd_cons (psd_if (pdt_isn (pd_v 2) pd_non) (psd_one psd_never) psd_nil) (psd_cons (psd_stf T.cl_Room T.na_whole (pd_v 0) (pd_v 1)) (psd_cons (psd_stf T.cl_Room T.na_rows (pd_v 0) (pd_v 2)) (psd_one (psd_stf T.cl_Room T.na_alphabet (pd_v 0) (pd_join pd_str (pd_sortSet T.n_sorted rfl sc_Room___init__.nd (pid_tup (pd_v 2)) (by kernel_rfl) (fun _ _ _ _ _ => pg_name (i := 3) sc_Room___init__.nd rfl (Or.inl rfl)) (fun _ _ _ _ _ => (pd_ix (pd_v 3) pd_int)))))))))), ?_⟩
  rintro c ds Φ hc - ⟨ss, rfl, rfl, hs, hn, hΦ⟩
  conv => whnf
  refine ⟨rfl, rfl, ss, rfl, hs, hn, ?_⟩
  conv => whnf
  refine ⟨0, [], [], rfl, rfl, by decide, ?_⟩
  conv => whnf
  refine ⟨0, _, _, rfl, rfl, by show (1 : Nat) < 1000; decide, ?_⟩
  conv => whnf
  refine ⟨_, rfl, ?_⟩
  conv => whnf
  refine ⟨ss.map fun s => one s.l, by rw [List.length_map, List.length_map], by rw [List.length_map]; have := hs.1; omega, ?_, fun zs hz1 hz2 hz3 => ?_⟩
  · intro j d y hd hy Ψ h
    rw [List.getElem?_map] at hd hy
    cases e : ss[j]? with
    | none => rw [e] at hd; cases hd
    | some s =>
      rw [e] at hd hy
      cases hd; cases hy
      exact h
  · have ez : zs = ([120, 121, 122].filter (hasL ss)).map one := sort3 hs hz1 hz2 hz3
    conv => whnf
    refine ⟨zs, txts_strs zs, ?_, ?_⟩
    · have h2 : ([120, 121, 122].filter (hasL ss)).length ≤ 3 := List.length_filter_le _ _
      have h3 : ∀ l : List Nat, ((l.map one).map (·.length)).sum = l.length := fun l => by
        induction l with
        | nil => rfl
        | cons a l ih =>
          show (1 : Nat) + ((l.map one).map (·.length)).sum = l.length + 1
          rw [ih]; omega
      rw [ez, h3, List.length_map, show (Str.ofString "").length = 0 from rfl]
      omega
    · have e1 : Txt.join (Str.ofString "") zs = lettersS ss := by rw [ez]; rfl
      rw [e1]
      conv => whnf
      refine ⟨0, _, _, rfl, rfl, by show (2 : Nat) < 1000; decide, ?_⟩
      conv => whnf
      exact hΦ

end
end K08

namespace K08
open PySem PySem.Spec PyProof.Rows L2 Cw
theorem mem_joinL {S : List Nat} {x : Nat} : ∀ {ps : List (List Nat)}, x ∈ TL.joinL S ps → x ∈ S ∨ ∃ p ∈ ps, x ∈ p
  | [], h => by cases h
  | [p], h => .inr ⟨p, List.mem_cons_self, h⟩
  | p :: q :: r, h => by
    have h : x ∈ p ++ (S ++ TL.joinL S (q :: r)) := h
    rcases List.mem_append.mp h with h | h
    · exact .inr ⟨p, List.mem_cons_self, h⟩
    · rcases List.mem_append.mp h with h | h
      · exact .inl h
      · exact (mem_joinL h).imp id fun ⟨z, hz, hx⟩ => ⟨z, List.mem_cons_of_mem _ hz, hx⟩
theorem strOk_of {x : Str} (h : ∀ k ∈ TL.tl x, k < 0x110000) : PyData.strOk x = true := by
  unfold PyData.strOk
  rw [← Array.all_toList, List.all_eq_true]
  intro k hk
  exact decide_eq_true (h k hk)
theorem strOk_to {x : Str} (h : PyData.strOk x = true) : ∀ k ∈ TL.tl x, k < 0x110000 := by
  unfold PyData.strOk at h
  rw [← Array.all_toList, List.all_eq_true] at h
  exact fun k hk => of_decide_eq_true (h k hk)
theorem strOk_join {y : Str} {xs : List Str} (hy : PyData.strOk y = true) (hx : ∀ x ∈ xs, PyData.strOk x = true) : PyData.strOk (Txt.join y xs) = true := strOk_of fun k hk => by
  rw [TL.join_eq, TL.tl_join] at hk
  rcases mem_joinL hk with hk | ⟨p, hp, hk⟩
  · exact strOk_to hy k hk
  · obtain ⟨t, ht, rfl⟩ := List.mem_map.mp hp
    exact strOk_to (hx t ht) k hk
/-- what is needed of a part of a value that is shown -/
structure Fine (p : PyData) (n : Nat) : Prop where
  lay : p.canLay0 = true
  show_ : p.showable = true
  sml : p.intsShort 45 = true
  dep : p.depth ≤ 4
  wt : p.weight ≤ n
theorem Fine.up {p : PyData} {n n' : Nat} (h : Fine p n) (hn : n ≤ n') : Fine p n' := ⟨h.lay, h.show_, h.sml, h.dep, Nat.le_trans h.wt hn⟩
theorem fine_str {x : Str} {n : Nat} (h : PyData.strOk x = true) (hl : x.length ≤ n) : Fine (.str x) n := ⟨h, rfl, rfl, Nat.zero_le _, hl⟩
theorem fine_bool (b : Bool) : Fine (.bool b) 0 := ⟨rfl, rfl, rfl, Nat.zero_le _, Nat.le_refl _⟩
theorem fine_int {n : Nat} (h : n < 10) : Fine (.int n) 4 := ⟨rfl, all_small h (P := fun n => PyData.showable (.int n) = true) (by decide +kernel), all_small h (P := fun n => PyData.intsShort 45 (.int n) = true) (by decide +kernel), Nat.zero_le _, all_small h (P := fun n => PyData.weight (.int n) ≤ 4) (by decide +kernel)⟩
structure Fines (ps : List PyData) (n d : Nat) : Prop where
  lay : PyData.canLayAll0 ps = true
  show_ : PyData.showableAll ps = true
  sml : PyData.intsShortAll 45 ps = true
  dep : PyData.depthAll ps ≤ d
  wt : PyData.weightAll ps ≤ n
theorem fines_nil {n d : Nat} : Fines [] n d := ⟨rfl, rfl, rfl, Nat.zero_le _, Nat.zero_le _⟩
theorem fines_cons {p : PyData} {ps : List PyData} {a n m d : Nat} (h : Fine p a) (hd : p.depth ≤ d) (t : Fines ps m d) (e : a + 1 + m ≤ n) : Fines (p :: ps) n d := by
  refine ⟨?_, ?_, ?_, ?_, ?_⟩
  · show (p.canLay0 && PyData.canLayAll0 ps) = true
    rw [h.lay, t.lay]; rfl
  · show (p.showable && PyData.showableAll ps) = true
    rw [h.show_, t.show_]; rfl
  · show (p.intsShort 45 && PyData.intsShortAll 45 ps) = true
    rw [h.sml, t.sml]; rfl
  · show max p.depth (PyData.depthAll ps) ≤ d
    have := t.dep
    omega
  · show p.weight + 1 + PyData.weightAll ps ≤ n
    have := h.wt
    have := t.wt
    omega
theorem fine_tup {ps : List PyData} {n d : Nat} (h : Fines ps n d) (hd : d ≤ 3) : Fine (.tuple ps) n := ⟨h.lay, h.show_, h.sml, by show PyData.depthAll ps + 1 ≤ 4; have := h.dep; omega, h.wt⟩
theorem fine_lst {ps : List PyData} {n d : Nat} (h : Fines ps n d) (hd : d ≤ 3) : Fine (.list ps) n := ⟨h.lay, h.show_, h.sml, by show PyData.depthAll ps + 1 ≤ 4; have := h.dep; omega, h.wt⟩
theorem fines_of {α : Type} {py : α → PyData} {a d : Nat} : ∀ {xs : List α}, (∀ x ∈ xs, Fine (py x) a ∧ (py x).depth ≤ d) → Fines (xs.map py) ((a + 1) * xs.length) d
  | [], _ => fines_nil
  | x :: xs, h => by
    have h1 := h x List.mem_cons_self
    have h2 := fines_of fun y hy => h y (List.mem_cons_of_mem x hy)
    refine fines_cons h1.1 h1.2 h2 ?_
    rw [List.length_cons, Nat.mul_add]; omega
theorem Fine.showy {p : PyData} {n : Nat} (h : Fine p n) (hn : n ≤ 300000) : Showy p := by
  have hw := h.wt
  have hd := h.dep
  refine ⟨h.show_, PyData.hasDict_of_canLay _ h.lay, by omega, ?_⟩
  have h2 := PyData.shown_le 45 (by decide) p (PyData.leavesShort_of_canLay0 45 p h.lay h.sml)
  have h3 : (45 + 2) * p.weight ≤ 47 * 300000 := Nat.mul_le_mul (by decide) (by omega)
  have e : sizeLine = 16777216 := by decide
  rw [e]
  omega
theorem fine_big {i : Int} (h : i.natAbs < 10 ^ 44) : Fine (.int i) 200 := by
  have hl : i.natAbs.log2 < 148 := by
    by_cases h0 : i.natAbs = 0
    · rw [h0]; decide
    · refine (Nat.log2_lt h0).mpr (Nat.lt_of_lt_of_le h (by decide))
  refine ⟨rfl, decide_eq_true (by omega), ?_, Nat.zero_le _, ?_⟩
  · refine decide_eq_true ?_
    have e := int_text_length_le10 (k := 44) (by decide) h
    show (Str.ofString (toString i)).length ≤ 45
    exact Nat.le_trans (Nat.le_of_eq (PySem.ofString_length _)) e
  · show (if i == 0 then 0 else i.natAbs.log2 + 1) ≤ 200
    split <;> omega
def isIn (a b : Int) : D → Bool
  | .int v => decide (a ≤ v) && decide (v ≤ b)
  | _ => false

def amongB (ys : List Str) : D → Bool
  | .str x => decide (x ∈ ys)
  | _ => false

def isInt : D → Bool
  | .int _ => true
  | _ => false
/-- any thing that a filling may be, or that may stand in one -/
def oddD : D → Prop
  | .non => True
  | .bl _ => True
  | .int _ => True
  | .str _ => True
  | .tup ds => okDs 0 ds = true
  | .lst ds => okDs 0 ds = true
  | .dct _ ds => okDs 0 ds = true
  | _ => False
theorem oddD.ok {d : D} (h : oddD d) : okD 0 d = true := by
  cases d <;> first | exact h.elim | rfl | exact h
theorem oddD.ty {d : D} (h : oddD d) : ∃ t, tyD d = some t ∧ ∀ C, t ≠ .ins C := by
  cases d <;> first | exact h.elim | exact ⟨_, rfl, fun _ z => nomatch z⟩
def S1_is_any_integer : Pm := fun c ds Φ => ∃ d, ds = [d] ∧ oddD d ∧ Φ (.bl (isInt d)) c
def S1_is_integer : Pm := fun c ds Φ => ∃ d a b, ds = [d, .int a, .int b] ∧ oddD d ∧ Φ (.bl (isIn a b d)) c
def S1_is_among : Pm := fun c ds Φ => ∃ ys : List Str, ∃ d sq, ds = [d, sq] ∧ oddD d ∧ (sq = .tup (ys.map .str) ∨ sq = .lst (ys.map .str)) ∧ Φ (.bl (amongB ys d)) c
def wordsL : List Str := ["bad text", "bad line", "bad state", "bad number", "bad name", "bad place", "bad wish", "bad claim", "no borders", "no room", "bad sizes", "bad filling", "bad names", "bad lines", "unknown", "in use", "other letters", "too many", "no undo", "not asked", "broken"]
def fits : List Bool := [false, false, false, true, false, false, false, false, false, false, false, false, false, false, false, false, false, false, false, false, false]
def S__law_sorts : Pm := fun c ds Φ => ds = [] ∧ Φ (.lst (wordsL.map .str)) c
def S__law_sort (C : Addr) : Addr × Obj → Pm := fun p c ds Φ => ∃ dd ns fs, HeldO p dd C ∧ ds = [.exc p.1 dd C ns fs] ∧ okDs 0 fs = true ∧ Φ (.str "bad number") c
def S__law_told (C : Addr) : Addr × Obj → Pm := fun p c ds Φ => ∃ dd x, HeldO p dd C ∧ ds = [.exc p.1 dd C ["given"] [x], .str "bad number"] ∧ okDs 0 [x] = true ∧ Φ (.tup [x]) c
/-- the sides of an oblong -/
def obl (n : Int) : List Sh := [⟨120, n, true⟩, ⟨121, n, true⟩, ⟨120, n, true⟩, ⟨121, n, true⟩]
theorem obl_ok {n : Int} (h : -9 ≤ n ∧ n ≤ 9) : oks (obl n) := ⟨by show 4 ≤ 12; decide, fun s hs => by
  simp only [obl, List.mem_cons, List.not_mem_nil, or_false] at hs
  rcases hs with rfl | rfl | rfl | rfl
  · exact ⟨.inl rfl, h⟩
  · exact ⟨.inr (.inl rfl), h⟩
  · exact ⟨.inl rfl, h⟩
  · exact ⟨.inr (.inl rfl), h⟩⟩
theorem obl_ne (n : Int) : obl n ≠ [] := fun z => nomatch z
def roomO (C : Addr) (n : Int) : D := roomD C (planS (obl n)) (shsD (obl n)) (lettersS (obl n))
def S_plus_text : Pm := fun c ds Φ => ∃ n, ds = [.int n] ∧ (-9 ≤ n ∧ n ≤ 9) ∧ Φ (.str (moreS n)) c
def S_Room_oblong (C : Addr) : Pm := fun c ds Φ => ∃ n, ds = [.int n] ∧ (-9 ≤ n ∧ n ≤ 9) ∧ Φ (roomO C n) c
def Sx_Room_oblong (C CN : Addr) : Pmx := fun ds Φ Ξ => ∃ d, ds = [d] ∧ oddD d ∧ (∀ n, d = .int n → (-9 ≤ n ∧ n ≤ 9) → Φ (roomO C n)) ∧ (isIn (-9) 9 d = false → Ξ ⟨CN, ["given"], [d]⟩)
theorem more_plus {n : Int} (h : n ≠ 0) : plusT n = moreS n := by unfold moreS; rw [if_neg h]; rfl
theorem obl_rows (n : Int) : ((obl n).map Sh.row).map D.str = (chars "xyxy").map fun d => match d with | .str x => .str (x ++ moreS n ++ " out") | _ => .non := by
  have e : ∀ k : Nat, Sh.row ⟨k, n, true⟩ = one k ++ moreS n ++ " out" := fun k => by
    refine TL.ext_tl ?_
    unfold Sh.row
    rw [TL.tl_append, TL.tl_append, TL.tl_append, TL.tl_append, TL.tl_append, List.append_assoc]
    rfl
  show [D.str (Sh.row ⟨120, n, true⟩), .str (Sh.row ⟨121, n, true⟩), .str (Sh.row ⟨120, n, true⟩), .str (Sh.row ⟨121, n, true⟩)] = _
  rw [e, e]
  rfl
theorem fmt_str {x : Str} (h : x.length ≤ sizeLine) : fmtS (.str x) = some x := by
  show (if _ then _ else _) = _
  rw [if_pos h]
theorem more_len {n : Int} (h : -9 ≤ n ∧ n ≤ 9) : (moreS n).length ≤ 3 := by
  have := tos_len h
  have l2 : (Str.ofString "+").length = 1 := by decide
  unfold moreS
  split
  · exact Nat.zero_le _
  · split
    · omega
    · rw [Str.length_append]; omega
/-- the text of an oblong, as the program makes it -/
theorem obl_text {a x : Option D} {n : Int} (hn : -9 ≤ n ∧ n ≤ 9) {Φ : D → List Cell → Prop} (h : Φ (.str (planS (obl n))) []) :
    lcD 2 dYes (dFs2c " out" (dVar 2) (dVar 1)) (chars "xyxy") [] [a, some (.str (moreS n)), x] [] fun y c2 => fJoin (.str ", ") (.lst y) c2 Φ := by
  refine lc_map (c := []) (fun d => match d with | .str x => .str (x ++ moreS n ++ " out") | _ => .non) rfl _ (fun d hd => ?_) (by decide +kernel) ?_
  · obtain ⟨k, _, rfl⟩ := List.mem_map.mp hd
    refine ⟨rfl, fun acc Ψ _ q => ?_⟩
    have l1 : (one k).length = 1 := rfl
    have l3 : (Str.ofString " out").length = 4 := by decide
    have hm := more_len hn
    show ∃ a, fmtS (.str (one k)) = some a ∧ a.length ≤ sizeLine ∧ (∃ b, fmtS (.str (moreS n)) = some b ∧ a.length + b.length + (Str.ofString " out").length ≤ sizeLine ∧ Ψ (D.str (a ++ b ++ Str.ofString " out")) ([] ++ [Cell.lst acc]))
    refine ⟨_, fmt_str (by show (1 : Nat) ≤ sizeLine; decide), by show (1 : Nat) ≤ sizeLine; decide, ?_⟩
    refine ⟨_, fmt_str (Nat.le_trans hm (by decide)), Nat.le_trans (Nat.add_le_add_right (Nat.add_le_add_left hm _) _) (by rw [l3]; show 1 + 3 + 4 ≤ sizeLine; decide), q⟩
  · rw [← obl_rows]
    refine ⟨_, txts_strs _, ?_, h⟩
    have h1 := rows_len (obl_ok hn).2
    have h2 : (Str.ofString ", ").length = 2 := by decide
    rw [List.length_map, h2]
    have : (obl n).length = 4 := rfl
    show _ ≤ 16777216
    omega
theorem isIn_int {a m : Int} {d : D} (h : isIn a m d = true) : ∃ L, d = .int L ∧ a ≤ L ∧ L ≤ m := by
  cases d with
  | int L =>
    obtain ⟨h1, h2⟩ := Bool.and_eq_true_iff.mp h
    exact ⟨L, rfl, of_decide_eq_true h1, of_decide_eq_true h2⟩
  | _ => cases h
section
variable {P : Program} {w : World} {K : PySem.W.Frag} {mg : Str → Option Value} {base : Heap}
theorem okI_InvalidNumber (T : Tx K mg) : FnOk P w K mg base CX0 1 T.aI_InvalidNumber T.dI_InvalidNumber ["self", "given"] (spI T.C_InvalidNumber "given") :=
  init_of T.FI_InvalidNumber scI_InvalidNumber T.ox_InvalidNumber T.no_InvalidNumber_given rfl fun X hK hN hs => by
    subst hK
    exact pss_one (ps_ost (pe_var (i := 0) (by rw [hN]; rfl) (.inl (by rw [hs]; rfl)) (by decide) (by decide)) (pe_var (i := 1) (by rw [hN]; rfl) (.inl (by rw [hs]; rfl)) (by decide) (by decide)))
set_option maxHeartbeats 8000000 in
theorem ok__law_sorts (T : Tx K mg) : FnE P w K mg base 1 T.a__law_sorts T.d__law_sorts [] (spE K 0 0 (fun _ => S__law_sorts)) := by
  refine fnED T.F__law_sorts sc__law_sorts fun cdv A outer s H E p hr _ => ⟨_, (psd_cons (psd_set (i := 0) sc__law_sorts.nd (pd_lst (pds_cons pd_str (pds_cons pd_str (pds_cons pd_str (pds_cons pd_str (pds_cons pd_str (pds_cons pd_str (pds_cons pd_str (pds_cons pd_str pds_nil)))))))))) (psd_cons (psd_set (i := 0) sc__law_sorts.nd (pd_add (pd_v 0) (pd_lst (pds_cons pd_str (pds_cons pd_str (pds_cons pd_str (pds_cons pd_str (pds_cons pd_str (pds_cons pd_str (pds_cons pd_str pds_nil)))))))))) (psd_one (psd_ret (pd_add (pd_v 0) (pd_lst (pds_cons pd_str (pds_cons pd_str (pds_cons pd_str (pds_cons pd_str (pds_cons pd_str (pds_cons pd_str pds_nil)))))))))))), ?_⟩
  rintro c ds Φ hc - ⟨rfl, hΦ⟩
  cases c with
  | cons _ _ => cases hc
  | nil =>
  conv => whnf
  refine ⟨by show 8 ≤ sizeLine; decide, ?_⟩
  conv => whnf
  refine ⟨by show 7 ≤ sizeLine; decide, ?_⟩
  conv => whnf
  refine ⟨by show 8 + 7 ≤ sizeLine; decide, ?_⟩
  conv => whnf
  refine ⟨by show 6 ≤ sizeLine; decide, ?_⟩
  conv => whnf
  refine ⟨by show 15 + 6 ≤ sizeLine; decide, ?_⟩
  conv => whnf
  exact hΦ
set_option maxHeartbeats 8000000 in
theorem ok__law_sort (T : Tx K mg) : FnE P w K mg base 2 T.a__law_sort T.d__law_sort ["_law_e"] (spE K 0 1 (S__law_sort T.C_InvalidNumber)) := by
  refine fnED T.F__law_sort sc__law_sort fun cdv A outer s H E p hr ⟨_, _, _, dd, ns, fs, hE, _⟩ => ⟨_, (psd_cons (psd_set (i := 1) sc__law_sort.nd (pd_lst (pds_cons (pd_isX (List.mem_cons_self) hE T.xa_InvalidNumber (.own _) T.kt_InvalidNumber_InvalidText (pd_v 0) (pe_glob rfl T.g_InvalidText rfl) T.n_isinstance) (pds_cons (pd_isX (List.mem_cons_self) hE T.xa_InvalidNumber (.own _) T.kt_InvalidNumber_InvalidLine (pd_v 0) (pe_glob rfl T.g_InvalidLine rfl) T.n_isinstance) (pds_cons (pd_isX (List.mem_cons_self) hE T.xa_InvalidNumber (.own _) T.kt_InvalidNumber_InvalidState (pd_v 0) (pe_glob rfl T.g_InvalidState rfl) T.n_isinstance) pds_nil))))) (psd_cons (psd_set (i := 1) sc__law_sort.nd (pd_add (pd_v 1) (pd_lst (pds_cons (pd_isX (List.mem_cons_self) hE T.xa_InvalidNumber (.own _) T.kt_InvalidNumber_InvalidNumber (pd_v 0) (pe_glob rfl T.g_InvalidNumber rfl) T.n_isinstance) (pds_cons (pd_isX (List.mem_cons_self) hE T.xa_InvalidNumber (.own _) T.kt_InvalidNumber_InvalidName (pd_v 0) (pe_glob rfl T.g_InvalidName rfl) T.n_isinstance) (pds_cons (pd_isX (List.mem_cons_self) hE T.xa_InvalidNumber (.own _) T.kt_InvalidNumber_InvalidIndex (pd_v 0) (pe_glob rfl T.g_InvalidIndex rfl) T.n_isinstance) pds_nil)))))) (psd_cons (psd_set (i := 1) sc__law_sort.nd (pd_add (pd_v 1) (pd_lst (pds_cons (pd_isX (List.mem_cons_self) hE T.xa_InvalidNumber (.own _) T.kt_InvalidNumber_InvalidWish (pd_v 0) (pe_glob rfl T.g_InvalidWish rfl) T.n_isinstance) (pds_cons (pd_isX (List.mem_cons_self) hE T.xa_InvalidNumber (.own _) T.kt_InvalidNumber_InvalidClaim (pd_v 0) (pe_glob rfl T.g_InvalidClaim rfl) T.n_isinstance) (pds_cons (pd_isX (List.mem_cons_self) hE T.xa_InvalidNumber (.own _) T.kt_InvalidNumber_NotBorders (pd_v 0) (pe_glob rfl T.g_NotBorders rfl) T.n_isinstance) pds_nil)))))) (psd_cons (psd_set (i := 1) sc__law_sort.nd (pd_add (pd_v 1) (pd_lst (pds_cons (pd_isX (List.mem_cons_self) hE T.xa_InvalidNumber (.own _) T.kt_InvalidNumber_NotARoom (pd_v 0) (pe_glob rfl T.g_NotARoom rfl) T.n_isinstance) (pds_cons (pd_isX (List.mem_cons_self) hE T.xa_InvalidNumber (.own _) T.kt_InvalidNumber_InvalidSizes (pd_v 0) (pe_glob rfl T.g_InvalidSizes rfl) T.n_isinstance) (pds_cons (pd_isX (List.mem_cons_self) hE T.xa_InvalidNumber (.own _) T.kt_InvalidNumber_InvalidFilling (pd_v 0) (pe_glob rfl T.g_InvalidFilling rfl) T.n_isinstance) pds_nil)))))) (psd_cons (psd_set (i := 1) sc__law_sort.nd (pd_add (pd_v 1) (pd_lst (pds_cons (pd_isX (List.mem_cons_self) hE T.xa_InvalidNumber (.own _) T.kt_InvalidNumber_InvalidNames (pd_v 0) (pe_glob rfl T.g_InvalidNames rfl) T.n_isinstance) (pds_cons (pd_isX (List.mem_cons_self) hE T.xa_InvalidNumber (.own _) T.kt_InvalidNumber_InvalidLines (pd_v 0) (pe_glob rfl T.g_InvalidLines rfl) T.n_isinstance) (pds_cons (pd_isX (List.mem_cons_self) hE T.xa_InvalidNumber (.own _) T.kt_InvalidNumber_UnknownName (pd_v 0) (pe_glob rfl T.g_UnknownName rfl) T.n_isinstance) pds_nil)))))) (psd_cons (psd_set (i := 1) sc__law_sort.nd (pd_add (pd_v 1) (pd_lst (pds_cons (pd_isX (List.mem_cons_self) hE T.xa_InvalidNumber (.own _) T.kt_InvalidNumber_InUse (pd_v 0) (pe_glob rfl T.g_InUse rfl) T.n_isinstance) (pds_cons (pd_isX (List.mem_cons_self) hE T.xa_InvalidNumber (.own _) T.kt_InvalidNumber_OtherLetters (pd_v 0) (pe_glob rfl T.g_OtherLetters rfl) T.n_isinstance) (pds_cons (pd_isX (List.mem_cons_self) hE T.xa_InvalidNumber (.own _) T.kt_InvalidNumber_TooMany (pd_v 0) (pe_glob rfl T.g_TooMany rfl) T.n_isinstance) pds_nil)))))) (psd_cons (psd_set (i := 1) sc__law_sort.nd (pd_add (pd_v 1) (pd_lst (pds_cons (pd_isX (List.mem_cons_self) hE T.xa_InvalidNumber (.own _) T.kt_InvalidNumber_NothingToUndo (pd_v 0) (pe_glob rfl T.g_NothingToUndo rfl) T.n_isinstance) (pds_cons (pd_isX (List.mem_cons_self) hE T.xa_InvalidNumber (.own _) T.kt_InvalidNumber_NotAsked (pd_v 0) (pe_glob rfl T.g_NotAsked rfl) T.n_isinstance) (pds_cons (pd_isX (List.mem_cons_self) hE T.xa_InvalidNumber (.own _) T.kt_InvalidNumber_Broken (pd_v 0) (pe_glob rfl T.g_Broken rfl) T.n_isinstance) pds_nil)))))) (psd_cons (psd_if (pdt_neU (hotU hr) (pd_cntB (pd_v 1) pd_bl) pd_int) (psd_one (psd_ret pd_str)) psd_nil) (psd_cons (psd_set (i := 2) sc__law_sort.nd (pd_idxB (pd_v 1) pd_bl)) (psd_cons (psd_set (i := 3) sc__law_sort.nd (pd_lst (pds_cons (pd_isX (List.mem_cons_self) hE T.xa_InvalidNumber (.own _) T.kt_InvalidNumber_BadValue (pd_v 0) (pe_glob rfl T.g_BadValue rfl) T.n_isinstance) (pds_cons (pd_isX (List.mem_cons_self) hE T.xa_InvalidNumber (.own _) T.kt_InvalidNumber_BadName (pd_v 0) (pe_glob rfl T.g_BadName rfl) T.n_isinstance) (pds_cons (pd_isX (List.mem_cons_self) hE T.xa_InvalidNumber (.own _) T.kt_InvalidNumber_NoAnswer (pd_v 0) (pe_glob rfl T.g_NoAnswer rfl) T.n_isinstance) pds_nil))))) (psd_cons (psd_set (i := 4) sc__law_sort.nd (pd_lst (pds_cons (pd_isX (List.mem_cons_self) hE T.xa_InvalidNumber (.ty "ValueError") T.kt_InvalidNumber_ValueError (pd_v 0) (pe_bltn rfl T.n_ValueError (by decide +kernel) rfl) T.n_isinstance) (pds_cons (pd_isX (List.mem_cons_self) hE T.xa_InvalidNumber (.ty "LookupError") T.kt_InvalidNumber_LookupError (pd_v 0) (pe_bltn rfl T.n_LookupError (by decide +kernel) rfl) T.n_isinstance) (pds_cons (pd_isX (List.mem_cons_self) hE T.xa_InvalidNumber (.ty "ArithmeticError") T.kt_InvalidNumber_ArithmeticError (pd_v 0) (pe_bltn rfl T.n_ArithmeticError (by decide +kernel) rfl) T.n_isinstance) pds_nil))))) (psd_cons (psd_if (PDw.pt (pdw_or (pdt_neU (hotU hr) (pd_v 3) (pd_lst (pds_cons (pd_lt (pd_v 2) pd_int) (pds_cons (pd_inU (hotU hr) (pd_v 2) (pd_lst (pds_cons pd_int (pds_cons pd_int pds_nil)))) (pds_cons (pd_gt (pd_v 2) pd_int) pds_nil))))) (pdw_or1 (pdt_neU (hotU hr) (pd_v 4) (pd_v 3))))) (psd_one (psd_ret pd_str)) psd_nil) (psd_one (psd_ret (pd_ix (pd_callE0 (ok__law_sorts T) (hr.mono (by decide)) (List.mem_cons_self) T.g__law_sorts T.F__law_sorts.kp T.b__law_sorts) (pd_v 2)))))))))))))))), ?_⟩
  rintro c ds Φ hc - ⟨dd', ns', fs', hE', rfl, hx, hΦ⟩
  have e : dd' = dd := Option.some.inj (hE'.dict.symm.trans hE.dict)
  subst e
  cases c with
  | cons _ _ => cases hc
  | nil =>
  conv => whnf
  refine ⟨⟨_, _, _, rfl⟩, ?_⟩
  conv => whnf
  refine ⟨⟨_, _, _, rfl⟩, ?_⟩
  conv => whnf
  refine ⟨⟨_, _, _, rfl⟩, ?_⟩
  conv => whnf

  refine ⟨by show 3 ≤ sizeLine; decide, ?_⟩
  conv => whnf
  refine ⟨⟨_, _, _, rfl⟩, ?_⟩
  conv => whnf
  refine ⟨⟨_, _, _, rfl⟩, ?_⟩
  conv => whnf
  refine ⟨⟨_, _, _, rfl⟩, ?_⟩
  conv => whnf

  refine ⟨by show 3 ≤ sizeLine; decide, ?_⟩
  conv => whnf
  refine ⟨by show 3 + 3 ≤ sizeLine; decide, ?_⟩
  conv => whnf
  refine ⟨⟨_, _, _, rfl⟩, ?_⟩
  conv => whnf
  refine ⟨⟨_, _, _, rfl⟩, ?_⟩
  conv => whnf
  refine ⟨⟨_, _, _, rfl⟩, ?_⟩
  conv => whnf

  refine ⟨by show 3 ≤ sizeLine; decide, ?_⟩
  conv => whnf
  refine ⟨by show 6 + 3 ≤ sizeLine; decide, ?_⟩
  conv => whnf
  refine ⟨⟨_, _, _, rfl⟩, ?_⟩
  conv => whnf
  refine ⟨⟨_, _, _, rfl⟩, ?_⟩
  conv => whnf
  refine ⟨⟨_, _, _, rfl⟩, ?_⟩
  conv => whnf

  refine ⟨by show 3 ≤ sizeLine; decide, ?_⟩
  conv => whnf
  refine ⟨by show 9 + 3 ≤ sizeLine; decide, ?_⟩
  conv => whnf
  refine ⟨⟨_, _, _, rfl⟩, ?_⟩
  conv => whnf
  refine ⟨⟨_, _, _, rfl⟩, ?_⟩
  conv => whnf
  refine ⟨⟨_, _, _, rfl⟩, ?_⟩
  conv => whnf

  refine ⟨by show 3 ≤ sizeLine; decide, ?_⟩
  conv => whnf
  refine ⟨by show 12 + 3 ≤ sizeLine; decide, ?_⟩
  conv => whnf
  refine ⟨⟨_, _, _, rfl⟩, ?_⟩
  conv => whnf
  refine ⟨⟨_, _, _, rfl⟩, ?_⟩
  conv => whnf
  refine ⟨⟨_, _, _, rfl⟩, ?_⟩
  conv => whnf

  refine ⟨by show 3 ≤ sizeLine; decide, ?_⟩
  conv => whnf
  refine ⟨by show 15 + 3 ≤ sizeLine; decide, ?_⟩
  conv => whnf
  refine ⟨⟨_, _, _, rfl⟩, ?_⟩
  conv => whnf
  refine ⟨⟨_, _, _, rfl⟩, ?_⟩
  conv => whnf
  refine ⟨⟨_, _, _, rfl⟩, ?_⟩
  conv => whnf

  refine ⟨by show 3 ≤ sizeLine; decide, ?_⟩
  conv => whnf
  refine ⟨by show 18 + 3 ≤ sizeLine; decide, ?_⟩
  conv => whnf
  refine ⟨fits, rfl, ?_⟩
  conv => whnf
  refine ⟨true, rfl, ?_⟩
  conv => whnf
  refine ⟨fits, rfl, ?_⟩
  conv => whnf
  refine ⟨true, 3, rfl, rfl, ?_⟩
  conv => whnf
  refine ⟨⟨_, _, _, rfl⟩, ?_⟩
  conv => whnf
  refine ⟨⟨_, _, _, rfl⟩, ?_⟩
  conv => whnf
  refine ⟨⟨_, _, _, rfl⟩, ?_⟩
  conv => whnf

  refine ⟨by show 3 ≤ sizeLine; decide, ?_⟩
  conv => whnf
  refine ⟨⟨_, _, _, rfl⟩, ?_⟩
  conv => whnf
  refine ⟨⟨_, _, _, rfl⟩, ?_⟩
  conv => whnf
  refine ⟨⟨_, _, _, rfl⟩, ?_⟩
  conv => whnf

  refine ⟨by show 3 ≤ sizeLine; decide, ?_⟩
  conv => whnf
  refine ⟨by show 2 ≤ sizeLine; decide, ?_⟩
  conv => whnf
  refine .inl ⟨_, rfl, rfl, rfl, ?_⟩
  conv => whnf
  refine ⟨by show 3 ≤ sizeLine; decide, ?_⟩
  conv => whnf
  refine ⟨_, _, rfl, rfl, rfl, rfl, ?_⟩
  conv => whnf
  refine ⟨_, _, rfl, rfl, rfl, rfl, ?_⟩
  conv => whnf
  refine ⟨rfl, rfl, rfl, ?_⟩
  conv => whnf
  exact hΦ
set_option maxHeartbeats 8000000 in
theorem ok__law_told (T : Tx K mg) : FnE P w K mg base 1 T.a__law_told T.d__law_told ["_law_e", "_law_word"] (spE K 0 2 (S__law_told T.C_InvalidNumber)) := by
  refine fnED T.F__law_told sc__law_told fun cdv A outer s H E p hr ⟨_, _, _, dd, fs, hE, _⟩ => ⟨_, (psd_cons (psd_if (pdt_eqU (hotU hr) (pd_v 1) pd_str) (psd_one (psd_ret (pd_tup (pds_cons (pd_xf (List.mem_cons_self) hE T.xa_InvalidNumber T.no_InvalidNumber_index (pd_v 0)) (pds_cons (pd_xf (List.mem_cons_self) hE T.xa_InvalidNumber T.no_InvalidNumber_shown (pd_v 0)) pds_nil))))) psd_nil) (psd_cons (psd_if (pdt_inU (hotU hr) (pd_v 1) (pd_lst (pds_cons pd_str (pds_cons pd_str (pds_cons pd_str (pds_cons pd_str (pds_cons pd_str (pds_cons pd_str pds_nil)))))))) (psd_one (psd_ret (pd_tup (pds_cons (pd_xf (List.mem_cons_self) hE T.xa_InvalidNumber T.no_InvalidNumber_index (pd_v 0)) pds_nil)))) psd_nil) (psd_cons (psd_if (pdt_eqU (hotU hr) (pd_v 1) pd_str) (psd_one (psd_ret (pd_tup (pds_cons (pd_xf (List.mem_cons_self) hE T.xa_InvalidNumber T.no_InvalidNumber_limit (pd_v 0)) pds_nil)))) psd_nil) (psd_one (psd_ret (pd_if (pdt_inU (hotU hr) (pd_v 1) (pd_lst (pds_cons pd_str (pds_cons pd_str (pds_cons pd_str pds_nil))))) (pd_tup pds_nil) (pd_tup (pds_cons (pd_xf (List.mem_cons_self) hE T.xa_InvalidNumber T.no_InvalidNumber_given (pd_v 0)) pds_nil)))))))), ?_⟩
  rintro c ds Φ hc - ⟨dd', x, hE', rfl, hx, hΦ⟩
  have e : dd' = dd := Option.some.inj (hE'.dict.symm.trans hE.dict)
  subst e
  cases c with
  | cons _ _ => cases hc
  | nil =>
  conv => whnf
  refine ⟨by show 6 ≤ sizeLine; decide, ?_⟩
  conv => whnf
  refine .inl ⟨_, rfl, rfl, rfl, ?_⟩
  rw [show inF (.str "bad number") [.str "bad sizes", .str "bad filling", .str "bad names", .str "bad lines", .str "in use", .str "not asked"] = false by decide]
  conv => whnf
  refine ⟨by show 3 ≤ sizeLine; decide, ?_⟩
  conv => whnf
  refine .inl ⟨_, rfl, rfl, rfl, ?_⟩
  rw [show inF (.str "bad number") [.str "other letters", .str "no undo", .str "odd"] = false by decide]
  conv => whnf
  refine ⟨_, _, _, _, rfl, rfl, ?_⟩
  refine ⟨by show 1 ≤ sizeLine; decide, ?_⟩
  conv => whnf
  exact hΦ
set_option maxHeartbeats 8000000 in
theorem okw_is_any_integer (T : Tx K mg) : FnOk P w K mg base CX0 1 T.a_is_any_integer T.d_is_any_integer ["value"] (spD K 0 1 S1_is_any_integer) := by
  refine fnD T.F_is_any_integer sc_is_any_integer fun cdv A outer s H E hr => ⟨_, (psd_one (psd_ret (pd_and (pd_isi isi_int (.ty "int") (pd_v 0) (pe_bltn rfl T.n_int (by decide +kernel) rfl) T.n_isinstance) (pd_one (pd_not (pd_isi isi_bool (.ty "bool") (pd_v 0) (pe_bltn rfl T.n_bool (by decide +kernel) rfl) T.n_isinstance)))))), ?_⟩
  rintro c ds Φ hc - ⟨d, rfl, hd, hΦ⟩
  cases c with
  | cons _ _ => cases hc
  | nil =>
  conv => whnf
  cases d <;> first | exact hd.elim | skip
  all_goals
    refine ⟨_, _, rfl, rfl, ?_⟩
    (conv => whnf)
    first | exact hΦ | (refine ⟨_, _, rfl, rfl, ?_⟩; (conv => whnf); exact hΦ)
set_option maxHeartbeats 8000000 in
theorem okw_is_integer (T : Tx K mg) : FnOk P w K mg base CX0 2 T.a_is_integer T.d_is_integer ["value", "least", "most"] (spD K 0 3 S1_is_integer) := by
  refine fnD T.F_is_integer sc_is_integer fun cdv A outer s H E hr => ⟨_, (psd_one (psd_ret (pd_and (pd_callP (okw_is_any_integer T) (hr.mono (by decide)) T.g_is_any_integer T.F_is_any_integer.kp T.b_is_any_integer pass0 (pds_cons (pd_v 0) pds_nil)) (pd_one (pd_lele (pd_v 1) (pd_v 0) (pd_v 2)))))), ?_⟩
  rintro c ds Φ hc - ⟨d, a, b, rfl, hd, hΦ⟩
  cases c with
  | cons _ _ => cases hc
  | nil =>
  conv => whnf
  have okd : okDs 0 [d] = true := by
    show (okD 0 d && true) = true
    rw [hd.ok]; rfl
  refine ⟨rfl, okd, d, rfl, hd, ?_⟩
  cases d with
  | int i =>
    conv => whnf
    split
    · rename_i h
      have h : a ≤ i := by simpa using h
      conv => whnf
      have e : isIn a b (.int i) = decide (i ≤ b) := by show (decide (a ≤ i) && _) = _; rw [decide_eq_true h]; rfl
      rw [e] at hΦ
      exact hΦ
    · rename_i h
      have h : ¬ a ≤ i := by simpa using h
      conv => whnf
      have e : isIn a b (.int i) = false := by show (decide (a ≤ i) && _) = _; rw [decide_eq_false h]; rfl
      rw [e] at hΦ
      exact hΦ
    · rename_i h1 h2
      cases e : decide (a ≤ i) with
      | true => exact (h1 (by simp [e])).elim
      | false => exact (h2 (by simp [e])).elim
  | _ =>
    first
    | exact hd.elim
    | ((conv => whnf); exact hΦ)
set_option maxHeartbeats 8000000 in
theorem ok_plus_text (T : Tx K mg) : FnOk P w K mg base CX0 1 T.a_plus_text T.d_plus_text ["plus"] (spD K 0 1 S_plus_text) := by
  refine fnD T.F_plus_text sc_plus_text fun cdv A outer s H E hr => ⟨_, (psd_one (psd_ret (pd_if (pdt_eq hr (pd_v 0) pd_int) pd_str (pd_fmtP (pd_v 0))))), ?_⟩
  rintro c ds Φ hc - ⟨n, rfl, hn, hΦ⟩
  cases c with
  | cons _ _ => cases hc
  | nil =>
  conv => whnf
  split
  · rename_i he
    have he : n = 0 := of_decide_eq_true he
    subst he
    conv => whnf
    exact hΦ
  · rename_i he
    have he : n ≠ 0 := of_decide_eq_false he
    conv => whnf
    refine ⟨n, rfl, hn, he, ?_⟩
    rw [more_plus he]
    exact hΦ
set_option maxHeartbeats 8000000 in
theorem ok_Room_oblong (T : Tx K mg) : FnOk P w K mg base CX0 8 T.a_Room_oblong T.d_Room_oblong ["by"] (spD K 0 1 (S_Room_oblong T.C_Room)) := by
  refine fnDF T.F_Room_oblong sc_Room_oblong fun cdv A outer s H E hr => ⟨_, (psd_cons (psd_if (pdt_not (pdt_val (pd_callP (okw_is_integer T) (hr.mono (by decide)) T.g_is_integer T.F_is_integer.kp T.b_is_integer pass0 (pds_cons (pd_v 0) (pds_cons (pd_neg (pd_gi T.c_MOST_PLUS)) (pds_cons (pd_gi T.c_MOST_PLUS) pds_nil)))))) (psd_one psd_never) psd_nil) (psd_cons (psd_set (i := 1) sc_Room_oblong.nd (pd_callP (ok_plus_text T) (hr.mono (by decide)) T.g_plus_text T.F_plus_text.kp T.b_plus_text pass0 (pds_cons (pd_v 0) pds_nil))) (psd_one (psd_ret (pd_make T.mk_Room (ok_Room___init__ T) (hr.mono (by decide)) T.g_Room T.b_Room___init__ pass0 (pds_cons (pd_join pd_str (pd_lc (i := 2) rfl sc_Room_oblong.nd (pid_str pd_str) (by kernel_rfl) (fun _ _ _ _ _ => pg_name (i := 2) sc_Room_oblong.nd rfl (Or.inl rfl)) (fun _ _ _ _ _ => ptd_nil) (fun _ _ _ _ _ => (pd_fs2c (pd_v 2) (pd_v 1))))) pds_nil)))))), ?_⟩
  rintro c ds Φ hc - ⟨n, rfl, hn, hΦ⟩
  cases c with
  | cons _ _ => cases hc
  | nil =>
  conv => whnf
  refine ⟨rfl, rfl, .int n, -9, 9, rfl, True.intro, ?_⟩
  have e : isIn (-9) 9 (.int n) = true := by
    show (decide (-9 ≤ n) && decide (n ≤ 9)) = true
    rw [decide_eq_true hn.1, decide_eq_true hn.2]; rfl
  rw [e]
  conv => whnf
  refine ⟨rfl, rfl, n, rfl, hn, ?_⟩
  conv => whnf
  refine ⟨_, rfl, ?_⟩
  refine obl_text hn ?_
  conv => whnf
  refine ⟨rfl, rfl, obl n, rfl, rfl, obl_ok hn, obl_ne n, ⟨rfl, rfl, by show (true && (okDs 0 ((obl n).map Sh.d) && (true && true))) = true; rw [shs_ok]; rfl, ?_⟩⟩
  conv => whnf
  exact hΦ
set_option maxHeartbeats 8000000 in
theorem okx_Room_oblong (T : Tx K mg) : FnOk P w K mg base (L2.CX P w) 8 T.a_Room_oblong T.d_Room_oblong ["by"] (spX K 1 (Sx_Room_oblong T.C_Room T.C_InvalidNumber)) := by
  refine fnXF T.F_Room_oblong sc_Room_oblong fun cdv A outer s H E hr => ?_
  have tk : Takes (cxOf (L2.CX P w) P w K mg base ["by", "plus", "letter"] "Room.oblong" (defScope st_Room_oblong) T.a_Room_oblong cdv A outer s H E) (fun cls d _ H => E cls d H) := takes_of rfl rfl rfl rfl
  have pso : PassesOwn (model P w) (cxOf (L2.CX P w) P w K mg base ["by", "plus", "letter"] "Room.oblong" (defScope st_Room_oblong) T.a_Room_oblong cdv A outer s H E).A (cxOf (L2.CX P w) P w K mg base ["by", "plus", "letter"] "Room.oblong" (defScope st_Room_oblong) T.a_Room_oblong cdv A outer s H E).env (cxOf (L2.CX P w) P w K mg base ["by", "plus", "letter"] "Room.oblong" (defScope st_Room_oblong) T.a_Room_oblong cdv A outer s H E).xe := passes_of rfl
  refine ⟨_, (psx_cons (psx_if (pdt_not (pdt_val (pd_callP (okw_is_integer T) (hr.mono (by decide)) T.g_is_integer T.F_is_integer.kp T.b_is_integer pass0 (pds_cons (pd_v 0) (pds_cons (pd_neg (pd_gi T.c_MOST_PLUS)) (pds_cons (pd_gi T.c_MOST_PLUS) pds_nil)))))) (psx_one (psx_raise rfl tk T.ox_InvalidNumber T.iC_InvalidNumber T.tI_InvalidNumber (okI_InvalidNumber T) (hr.mono (by decide)) T.bI_InvalidNumber (pass0) T.g_InvalidNumber (pd_v 0))) psx_nil) (psx_cons (psx_of (psd_set (i := 1) sc_Room_oblong.nd (pd_callP (ok_plus_text T) (hr.mono (by decide)) T.g_plus_text T.F_plus_text.kp T.b_plus_text pass0 (pds_cons (pd_v 0) pds_nil)))) (psx_one (psx_ret (pdx_of (pd_make T.mk_Room (ok_Room___init__ T) (hr.mono (by decide)) T.g_Room T.b_Room___init__ pass0 (pds_cons (pd_join pd_str (pd_lc (i := 2) rfl sc_Room_oblong.nd (pid_str pd_str) (by kernel_rfl) (fun _ _ _ _ _ => pg_name (i := 2) sc_Room_oblong.nd rfl (Or.inl rfl)) (fun _ _ _ _ _ => ptd_nil) (fun _ _ _ _ _ => (pd_fs2c (pd_v 2) (pd_v 1))))) pds_nil))))))), ?_⟩
  rintro ds Φ Ξ - ⟨d, rfl, hd, h1, h2⟩
  have okd : okDs 0 [d, .int (-9), .int 9] = true := by
    show (okD 0 d && (true && (true && true))) = true
    rw [hd.ok]; rfl
  conv => whnf
  refine ⟨rfl, okd, d, -9, 9, rfl, hd, ?_⟩
  cases e : isIn (-9) 9 d with
  | false =>
    conv => whnf
    exact ⟨by show (okD 0 d && true) = true; rw [hd.ok]; rfl, h2 e⟩
  | true =>
    obtain ⟨n, rfl, n1, n2⟩ := isIn_int e
    have hn : -9 ≤ n ∧ n ≤ 9 := ⟨n1, n2⟩
    conv => whnf
    refine ⟨rfl, rfl, n, rfl, hn, ?_⟩
    conv => whnf
    refine ⟨_, rfl, ?_⟩
    refine obl_text hn ?_
    conv => whnf
    refine ⟨rfl, rfl, obl n, rfl, rfl, obl_ok hn, obl_ne n, ⟨rfl, rfl, by show (true && (okDs 0 ((obl n).map Sh.d) && (true && true))) = true; rw [shs_ok]; rfl, ?_⟩⟩
    conv => whnf
    exact h1 n rfl hn

end
end K08

namespace K08
open PySem PySem.Spec PyProof.Rows L2 Cw
def S__law_shuts_by : Pm := fun c ds Φ => ∃ n, ds = [.int n] ∧ (-9 ≤ n ∧ n ≤ 9) ∧ Φ (shsD (obl n)) c
def S__law_is (C : Addr) : Pm := fun c ds Φ => ∃ n, ds = [roomO C n, shsD (obl n)] ∧ (-9 ≤ n ∧ n ≤ 9) ∧ Φ (.bl true) c
def S__law_right : Pm := fun c ds Φ => ∃ a b k, c = [spr a b k] ∧ ds = [.cell 0] ∧ B3 a b k 0 ∧ ∀ a' b' k', Φ (.bl true) [spr a' b' k']
def tell8 (C : Addr) : XD → Option D := fun y => if y.C = C then (match y.ns, y.ds with
  | ["given"], [d] => some (.tup [.str "bad number", .tup [d]])
  | _, _ => none) else none
theorem tell8_at {C : Addr} {y : XD} {r : D} (h : tell8 C y = some r) : ∃ d, y = ⟨C, ["given"], [d]⟩ ∧ r = .tup [.str "bad number", .tup [d]] := by
  obtain ⟨Cy, ns, ds⟩ := y
  unfold tell8 at h
  by_cases hc : Cy = C
  · rw [if_pos hc] at h
    subst hc
    simp only at h
    split at h
    · rename_i d
      cases h
      exact ⟨d, rfl, rfl⟩
    · cases h
  · rw [if_neg hc] at h; cases h
theorem tell8_exm {K : PySem.W.Frag} {C : Addr} {cs : List Value} (h : PySem.W.exmAny K (.ref C) cs = some true) : ∀ y r, tell8 C y = some r → PySem.W.exmAny K (.ref y.C) cs = some true := fun y r e => by
  obtain ⟨d, rfl, _⟩ := tell8_at e
  exact h
theorem tell8_eq {C : Addr} {d : D} : tell8 C ⟨C, ["given"], [d]⟩ = some (.tup [.str "bad number", .tup [d]]) := by
  unfold tell8
  rw [if_pos rfl]
  rfl
def tsu8 (C : Addr) : Addr × Obj → TSD := fun p => dSeq (dSet 3 (dCallP (S__law_sort C p) 1 (dCons (dVar 2) dNil))) (dRet (dTup (dCons (dVar 3) (dCons (dCallP (S__law_told C p) 2 (dCons (dVar 2) (dCons (dVar 3) dNil))) dNil))))
theorem tell8_ts {C : Addr} (p : Addr × Obj) (dd : Addr) (y : XD) (r : D) (c : List Cell) (Ψ : D → List Cell → Prop) (hE : HeldO p dd y.C) (e : tell8 C y = some r) (ok : okDs 0 y.ds = true) (hΨ : Ψ r c) :
    tsu8 C p ⟨fun _ _ => False, Ψ, fun _ _ => False, fun _ _ => False⟩ [none, none, some (.exc p.1 dd y.C y.ns y.ds), none] c := by
  obtain ⟨d, rfl, rfl⟩ := tell8_at e
  have okd : okD 0 d = true := (Bool.and_eq_true_iff.mp (show (okD 0 d && true) = true from ok)).1
  have ok2 : okDs 0 [d] = true := ok
  conv => whnf
  refine ⟨rfl, ?_, dd, _, _, hE, rfl, ok2, ?_⟩
  · show (okDs 0 [d] && true) = true
    rw [ok2]; rfl
  conv => whnf
  refine ⟨rfl, ?_, dd, d, hE, rfl, ok2, ?_⟩
  · show (okDs 0 [d] && (true && true)) = true
    rw [ok2]; rfl
  conv => whnf
  refine ⟨by show 2 ≤ sizeLine; decide, ?_⟩
  exact hΨ
theorem showy_g {p : PyData} (h : Showy p) : ShowG p := ⟨h.sh, h.dp, h.sz⟩
theorem obl_letters (n : Int) : lettersS (obl n) = "xy" := by
  show lettersS [⟨120, n, true⟩, ⟨121, n, true⟩, ⟨120, n, true⟩, ⟨121, n, true⟩] = _
  have e : hasL [⟨120, n, true⟩, ⟨121, n, true⟩, ⟨120, n, true⟩, ⟨121, n, true⟩] = hasL [⟨120, 0, true⟩, ⟨121, 0, true⟩, ⟨120, 0, true⟩, ⟨121, 0, true⟩] := rfl
  unfold lettersS
  rw [e]
  decide +kernel
def isPy (n : Int) : PyData := .list [.str (planS (obl n)), .tuple ((obl n).map Sh.py), .str "xy", .int 4, .bool true]
theorem strOk_app {x y : Str} (hx : PyData.strOk x = true) (hy : PyData.strOk y = true) : PyData.strOk (x ++ y) = true := strOk_of fun k hk => by
  rw [TL.tl_append] at hk
  exact (List.mem_append.mp hk).elim (strOk_to hx k) (strOk_to hy k)
theorem more_ok {n : Int} (h : -9 ≤ n ∧ n ≤ 9) : PyData.strOk (moreS n) = true := nine (P := fun n => PyData.strOk (moreS n) = true) h (by decide +kernel)
theorem row_strOk {s : Sh} (h : s.ok) : PyData.strOk s.row = true := by
  unfold Sh.row
  refine strOk_app (strOk_app (strOk_app ?_ (more_ok h.2)) (by decide +kernel)) (by cases s.o <;> decide +kernel)
  rcases h.1 with e | e | e <;> rw [e] <;> decide +kernel
theorem plan_strOk {ss : List Sh} (h : oks ss) : PyData.strOk (planS ss) = true := strOk_join (by decide +kernel) fun x hx => by
  obtain ⟨s, hs, rfl⟩ := List.mem_map.mp hx
  exact row_strOk (h.2 s hs)
theorem sh_fine {s : Sh} (h : s.ok) : Fine s.py 400 ∧ s.py.depth ≤ 1 := by
  have e1 : PyData.strOk (one s.l) = true := by rcases h.1 with e | e | e <;> rw [e] <;> decide +kernel
  have e2 : PyData.strOk (bendS s.o) = true := by cases s.o <;> decide +kernel
  have f := fines_cons (d := 0) (n := 400) (m := 300) (fine_str (n := 1) e1 (Nat.le_refl _)) (Nat.le_refl _) (fines_cons (m := 50) (fine_big (i := s.n) (by have := h.2; omega)) (Nat.le_refl _) (fines_cons (m := 0) (fine_str (n := 3) e2 (by cases s.o <;> decide)) (Nat.le_refl _) fines_nil (by decide)) (by decide)) (by decide)
  exact ⟨fine_tup f (by decide), by show PyData.depthAll _ + 1 ≤ 1; have := f.dep; omega⟩
theorem is_showy {n : Int} (hn : -9 ≤ n ∧ n ≤ 9) : Showy (isPy n) := by
  have h := obl_ok hn
  have f2 := fines_of (py := Sh.py) (a := 400) (d := 1) (xs := obl n) fun s hs => sh_fine (h.2 s hs)
  have f := fines_cons (d := 2) (n := 4000) (m := 3000) (fine_str (n := 200) (plan_strOk h) (plan_len h)) (Nat.zero_le _) (fines_cons (m := 500) (fine_tup (n := 401 * 4) f2 (by decide)) (by show PyData.depthAll _ + 1 ≤ 2; have := f2.dep; omega) (fines_cons (m := 300) (fine_str (n := 2) (x := "xy") (by decide +kernel) (by decide)) (Nat.zero_le _) (fines_cons (m := 1) (fine_big (i := 4) (by decide)) (Nat.zero_le _) (fines_cons (m := 0) (fine_bool true) (Nat.zero_le _) fines_nil (by decide)) (by decide)) (by decide)) (by decide)) (by decide)
  exact (fine_lst f (by decide)).showy (by decide)
theorem is_py (n : Int) : D.pyG (.lst [.str (planS (obl n)), shsD (obl n), .str "xy", .int 4, .bl true]) = some (isPy n) := rfl
/-- what is drawn -/
def someL8 (u v : Int) : List D := [.int (-10), .int 10, .int (10 ^ 30), .bl true, .bl false, .non, .str "1", .str "", .tup [], .tup [.int 1], .lst [], .dct [] [], .int (10 + u), .int (-10 - v)]
def badD (d : D) : D := .tup [.str "bad number", .tup [d]]
def good8 (d : D) : Prop := oddD d ∧ isIn (-9) 9 d = false ∧ ∃ P, D.pyG (.lst [badD d, badD d]) = some P ∧ ShowG P
theorem bad_show {p : PyData} {n : Nat} (h : Fine p n) (hn : n ≤ 300) (hd : p.depth ≤ 1) : ShowG (.list [.tuple [.str "bad number", .tuple [p]], .tuple [.str "bad number", .tuple [p]]]) := by
  have f1 : Fine (.tuple [p]) 400 := fine_tup (d := 1) (fines_cons (m := 0) h hd fines_nil (by omega)) (by decide)
  have f2 : Fine (.tuple [.str "bad number", .tuple [p]]) 600 := fine_tup (d := 2) (fines_cons (m := 500) (fine_str (n := 10) (by decide +kernel) (by decide)) (Nat.zero_le _) (fines_cons (m := 0) f1 (by show max p.depth 0 + 1 ≤ 2; omega) fines_nil (by decide)) (by decide)) (by decide)
  have dp : (PyData.tuple [.str "bad number", .tuple [p]]).depth ≤ 3 := by show max 0 (max (max p.depth 0 + 1) 0) + 1 ≤ 3; omega
  exact showy_g ((fine_lst (n := 2000) (fines_cons (m := 1000) f2 dp (fines_cons (m := 0) f2 dp fines_nil (by decide)) (by decide)) (by decide)).showy (by decide))
theorem some_all {u v : Int} (hu : 0 ≤ u ∧ u < 1000000000) (hv : 0 ≤ v ∧ v < 1000000000) : ∀ d ∈ someL8 u v, good8 d := by
  have fn : Fine .none 0 := ⟨rfl, rfl, rfl, Nat.zero_le _, Nat.le_refl _⟩
  intro d hd
  simp only [someL8, List.mem_cons, List.not_mem_nil, or_false] at hd
  rcases hd with rfl | rfl | rfl | rfl | rfl | rfl | rfl | rfl | rfl | rfl | rfl | rfl | rfl | rfl
  · exact ⟨trivial, by decide, _, rfl, bad_show (fine_big (i := -10) (by decide)) (by decide) (Nat.zero_le _)⟩
  · exact ⟨trivial, by decide, _, rfl, bad_show (fine_big (i := 10) (by decide)) (by decide) (Nat.zero_le _)⟩
  · exact ⟨trivial, by decide +kernel, _, rfl, bad_show (fine_big (i := 10 ^ 30) (by decide +kernel)) (by decide) (Nat.zero_le _)⟩
  · exact ⟨trivial, rfl, _, rfl, bad_show (fine_bool true) (by decide) (Nat.zero_le _)⟩
  · exact ⟨trivial, rfl, _, rfl, bad_show (fine_bool false) (by decide) (Nat.zero_le _)⟩
  · exact ⟨trivial, rfl, _, rfl, bad_show fn (by decide) (Nat.zero_le _)⟩
  · exact ⟨trivial, rfl, _, rfl, bad_show (fine_str (n := 1) (x := "1") (by decide +kernel) (by decide)) (by decide) (Nat.zero_le _)⟩
  · exact ⟨trivial, rfl, _, rfl, bad_show (fine_str (n := 0) (x := "") (by decide +kernel) (by decide)) (by decide) (Nat.zero_le _)⟩
  · exact ⟨rfl, rfl, _, rfl, bad_show (fine_tup (n := 10) (d := 0) fines_nil (by decide)) (by decide) (by decide)⟩
  · exact ⟨rfl, rfl, _, rfl, bad_show (fine_tup (n := 250) (d := 0) (fines_cons (m := 0) (fine_big (i := 1) (by decide)) (Nat.le_refl _) fines_nil (by decide)) (by decide)) (by decide) (by decide)⟩
  · exact ⟨rfl, rfl, _, rfl, bad_show (fine_lst (n := 10) (d := 0) fines_nil (by decide)) (by decide) (by decide)⟩
  · exact ⟨rfl, rfl, _, rfl, ⟨by decide +kernel, by decide +kernel, by decide +kernel⟩⟩
  · refine ⟨trivial, ?_, _, rfl, bad_show (fine_big (i := 10 + u) (by omega)) (by decide) (Nat.zero_le _)⟩
    show (decide (-9 ≤ 10 + u) && decide (10 + u ≤ 9)) = false
    rw [decide_eq_false (show ¬ 10 + u ≤ 9 by omega), Bool.and_false]
  · refine ⟨trivial, ?_, _, rfl, bad_show (fine_big (i := -10 - v) (by omega)) (by decide) (Nat.zero_le _)⟩
    show (decide (-9 ≤ -10 - v) && decide (-10 - v ≤ 9)) = false
    rw [decide_eq_false (show ¬ -9 ≤ -10 - v by omega), Bool.false_and]
theorem ix_any {c : List Cell} {ds : List D} {u : Int} {Ψ : D → List Cell → Prop} (h0 : 0 ≤ u) (h1 : u < ds.length) (h : ∀ d ∈ ds, Ψ d c) : fIx (vw c (.lst ds)) (vw c (.int u)) c Ψ := by
  obtain ⟨n, rfl⟩ : ∃ n : Nat, u = n := ⟨u.toNat, by omega⟩
  have hn : n < ds.length := by omega
  show (match L2.atI ds (n : Int) with | some d => Ψ d c | none => False)
  have e : L2.atI ds (n : Int) = some ds[n] := by
    unfold L2.atI L2.ixN
    rw [if_pos (by omega), if_pos (by omega)]
    show ds[((n : Int)).toNat]? = _
    rw [Int.toNat_natCast, List.getElem?_eq_getElem hn]
  rw [e]
  exact h _ (List.getElem_mem hn)
theorem not_in {n : Int} (h : isIn (-9) 9 (.int n) = false) (hn : -9 ≤ n ∧ n ≤ 9) : False := by
  have h : (decide (-9 ≤ n) && decide (n ≤ 9)) = false := h
  rw [decide_eq_true hn.1, decide_eq_true hn.2] at h
  cases h
section
variable {P : Program} {w : World} {K : PySem.W.Frag} {mg : Str → Option Value} {base : Heap}
set_option maxHeartbeats 8000000 in
theorem ok__law_shuts_by (T : Tx K mg) : FnOk P w K mg base CX0 1 T.a__law_shuts_by T.d__law_shuts_by ["_law_shift"] (spD K 0 1 S__law_shuts_by) := by
  refine fnD T.F__law_shuts_by sc__law_shuts_by fun cdv A outer s H E hr => ⟨_, (psd_one (psd_ret (pd_tuplec (pd_lc (i := 1) rfl sc__law_shuts_by.nd (pid_str pd_str) (by kernel_rfl) (fun _ _ _ _ _ => pg_name (i := 1) sc__law_shuts_by.nd rfl (Or.inl rfl)) (fun _ _ _ _ _ => ptd_nil) (fun _ _ _ _ _ => (pd_tup (pds_cons (pd_v 1) (pds_cons (pd_v 0) (pds_cons pd_str pds_nil)))))) T.n_tuple))), ?_⟩
  rintro c ds Φ hc - ⟨n, rfl, hn, hΦ⟩
  cases c with
  | cons _ _ => cases hc
  | nil =>
  obtain ⟨X, hX⟩ : ∃ X : Str, X = "xyxy" := ⟨_, rfl⟩
  rw [← hX]
  conv => whnf
  refine lc_map (c := []) (fun d => .tup [d, .int n, .str "out"]) rfl (chars X) (fun d hd => ?_) (by rw [hX]; decide +kernel) ?_
  · obtain ⟨k, _, rfl⟩ := List.mem_map.mp hd
    refine ⟨rfl, fun acc Ψ _ q => ?_⟩
    conv => whnf
    exact ⟨by show 3 ≤ sizeLine; decide, q⟩
  · rw [hX]
    conv => whnf
    exact hΦ
set_option maxHeartbeats 8000000 in
theorem ok__law_is (T : Tx K mg) : FnG P w K mg base 9 T.a__law_is T.d__law_is ["_law_mine", "_law_shuts"] (spD K 0 2 (S__law_is T.C_Room)) := by
  refine fnGD T.F__law_is sc__law_is fun cdv A outer s H E hgu hr => ⟨_, (psd_cons (psd_set (i := 2) sc__law_is.nd (pd_lst (pds_cons (pd_prop T.cl_Room T.P_Room_text (ok_Room_text T) (hr.mono (by decide)) T.b_Room_text pass0 (pd_v 0)) (pds_cons (pd_prop T.cl_Room T.P_Room_sides (ok_Room_sides T) (hr.mono (by decide)) T.b_Room_sides pass0 (pd_v 0)) (pds_cons (pd_prop T.cl_Room T.P_Room_letters (ok_Room_letters T) (hr.mono (by decide)) T.b_Room_letters pass0 (pd_v 0)) (pds_cons (pd_lenO (ok_Room___len__ T) T.f_Room___len__ T.k_Room___len__ T.b_Room___len__ pass0 (hr.mono (by decide)) (pd_v 0) T.n_len) (pds_cons (pd_eqO (ok_Room___eq__ T) T.f_Room___eq__ T.k_Room___eq__ T.b_Room___eq__ pass0 (hr.mono (by decide)) (pd_v 0) (pd_make T.mk_Room (ok_Room___init__ T) (hr.mono (by decide)) T.g_Room T.b_Room___init__ pass0 (pds_cons (pd_callP (ok__law_plan T) (hr.mono (by decide)) T.g__law_plan T.F__law_plan.kp T.b__law_plan pass0 (pds_cons (pd_v 1) pds_nil)) pds_nil))) pds_nil))))))) (psd_one (psd_ret (pd_eq hr (pd_reprG hgu hr.units (pd_v 2) T.n_repr) (pd_reprG hgu hr.units (pd_lst (pds_cons (pd_callP (ok__law_plan T) (hr.mono (by decide)) T.g__law_plan T.F__law_plan.kp T.b__law_plan pass0 (pds_cons (pd_v 1) pds_nil)) (pds_cons (pd_v 1) (pds_cons pd_str (pds_cons pd_int (pds_cons pd_bl pds_nil)))))) T.n_repr))))), ?_⟩
  rintro c ds Φ hc - ⟨n, rfl, hn, hΦ⟩
  cases c with
  | cons _ _ => cases hc
  | nil =>
  have okr : okDs 0 [roomO T.C_Room n] = true := by
    show ((true && (okDs 0 ((obl n).map Sh.d) && (true && true))) && true) = true
    rw [shs_ok]; rfl
  have okr2 : okDs 0 [roomO T.C_Room n, roomO T.C_Room n] = true := by
    show ((true && (okDs 0 ((obl n).map Sh.d) && (true && true))) && ((true && (okDs 0 ((obl n).map Sh.d) && (true && true))) && true)) = true
    rw [shs_ok]; rfl
  have oks1 : okDs 0 [shsD (obl n)] = true := shsD_ok _
  conv => whnf
  refine ⟨⟨_, _, rfl⟩, okr, _, _, _, rfl, ?_⟩
  conv => whnf
  refine ⟨⟨_, _, rfl⟩, okr, _, _, _, rfl, by show okDs 0 ((obl n).map Sh.d) = true; exact shs_ok _, ?_⟩
  conv => whnf
  refine ⟨⟨_, _, rfl⟩, okr, _, _, _, rfl, ?_⟩
  conv => whnf
  refine ⟨⟨_, _, rfl⟩, okr, _, _, _, rfl, ?_⟩
  conv => whnf
  refine ⟨4, rfl, by decide, ?_⟩
  conv => whnf
  refine ⟨rfl, oks1, obl n, rfl, obl_ok hn, ?_⟩
  conv => whnf
  refine ⟨rfl, rfl, obl n, rfl, rfl, obl_ok hn, obl_ne n, ⟨rfl, rfl, by show (true && (okDs 0 ((obl n).map Sh.d) && (true && true))) = true; rw [shs_ok]; rfl, ?_⟩⟩
  conv => whnf
  refine ⟨⟨_, _, rfl⟩, ⟨_, _, rfl⟩, okr2, _, _, _, _, _, _, rfl, _, rfl, ?_⟩
  rw [show decide (planS (obl n) = planS (obl n)) = true from decide_eq_true rfl]
  conv => whnf
  refine ⟨by show 5 ≤ sizeLine; decide, ?_⟩
  conv => whnf
  obtain ⟨Q, e1, sQ, e2⟩ : ∃ Q, D.pyG (.lst [.str (planS (obl n)), shsD (obl n), .str (lettersS (obl n)), .int 4, .bl true]) = some Q ∧ ShowG Q ∧ D.pyG (.lst [.str (planS (obl n)), shsD (obl n), .str "xy", .int 4, .bl true]) = some Q :=
    ⟨isPy n, by rw [obl_letters]; exact is_py n, showy_g (is_showy hn), is_py n⟩
  refine ⟨Q, e1, sQ, ?_⟩
  conv => whnf
  refine ⟨rfl, oks1, obl n, rfl, obl_ok hn, ?_⟩
  conv => whnf
  refine ⟨by show 5 ≤ sizeLine; decide, ?_⟩
  conv => whnf
  refine ⟨Q, e2, sQ, ?_⟩
  conv => whnf
  show Φ (.bl (decide (Q.shown = Q.shown))) []
  rw [decide_eq_true rfl]
  exact hΦ
set_option maxHeartbeats 8000000 in
theorem ok__law_right (T : Tx K mg) (TB : LamX.TabB base mg T.cL T.P) : FnG P w K mg base 12 T.a__law_right T.d__law_right ["_law_spring_here"] (spD K 1 1 S__law_right) := by
  refine fnGCD T.FC sc__law_right fun A outer s H E hgu hr => ⟨_, (psd_cons (psd_for PassesOwn.never rfl (pid_range2 (pd_neg pd_int) pd_int T.n_range) (pgd_name (i := 1) sc__law_right.nd) (psd_cons (psd_set (i := 2) sc__law_right.nd (pd_callP (ok__law_shuts_by T) (hr.mono (by decide)) T.g__law_shuts_by T.F__law_shuts_by.kp T.b__law_shuts_by pass0 (pds_cons (pd_v 1) pds_nil))) (psd_one (psd_if (PDw.pt (pdw_or (pdt_not (pdt_val (pd_callPG (ok__law_is T) hgu (hr.mono (by decide)) T.g__law_is T.F__law_is.kp T.b__law_is pass0 (pds_cons (pd_smeth T.g_Room T.S_Room_oblong (ok_Room_oblong T) (hr.mono (by decide))  T.b_Room_oblong .nil dfOk_nil pass0 (pds_cons (pd_v 1) pds_nil)) (pds_cons (pd_v 2) pds_nil))))) (pdw_or1 (pdt_not (pdt_val (pd_callPG (ok__law_is T) hgu (hr.mono (by decide)) T.g__law_is T.F__law_is.kp T.b__law_is pass0 (pds_cons (pd_smethK T.g_Room T.S_Room_oblong (ok_Room_oblong T) (hr.mono (by decide))  T.kw_Room_oblong pass0 (pdk_cons (pd_v 1) pdk_nil)) (pds_cons (pd_v 2) pds_nil)))))))) (psd_one (psd_ret pd_bl)) psd_nil)))) (psd_cons (psd_set (i := 3) sc__law_right.nd (pd_lst (pds_cons (pd_neg pd_int) (pds_cons pd_int (pds_cons (pd_pow pd_int pd_int) (pds_cons pd_bl (pds_cons pd_bl (pds_cons pd_non (pds_cons pd_str (pds_cons pd_str (pds_cons (pd_tup pds_nil) (pds_cons (pd_tup (pds_cons pd_int pds_nil)) (pds_cons (pd_lst pds_nil) (pds_cons pd_dict0 (pds_cons (pd_add pd_int (pd_callM (ok__law_take T) (hr.mono (by decide)) T.g__law_take T.F__law_take.kp T.b__law_take pass0 (pds_cons (pd_v 0) (pds_cons (pd_pow pd_int pd_int) pds_nil)))) pds_nil))))))))))))))) (psd_cons (psd_set (i := 3) sc__law_right.nd (pd_add (pd_v 3) (pd_lst (pds_cons (pd_sub (pd_neg pd_int) (pd_callM (ok__law_take T) (hr.mono (by decide)) T.g__law_take T.F__law_take.kp T.b__law_take pass0 (pds_cons (pd_v 0) (pds_cons (pd_pow pd_int pd_int) pds_nil)))) pds_nil)))) (psd_cons (psd_set (i := 4) sc__law_right.nd (pd_ix (pd_v 3) (pd_callM (ok__law_take T) (hr.mono (by decide)) T.g__law_take T.F__law_take.kp T.b__law_take pass0 (pds_cons (pd_v 0) (pds_cons (pd_len (pd_v 3) T.n_len) pds_nil))))) (psd_cons (psd_set (i := 5) sc__law_right.nd (pd_tup (pds_cons pd_str (pds_cons (pd_tup (pds_cons (pd_v 4) pds_nil)) pds_nil)))) (psd_cons (psd_set (i := 6) sc__law_right.nd (pd_lstM (pds_cons (pd_lam (k := 8) (tell := tell8 T.C_InvalidNumber) (tsu := tsu8 T.C_InvalidNumber) T.F__law_caught sc__law_caught rfl T.g__law_caught T.b__law_caught T.g_BadValue T.g_BadName T.g_NoAnswer TB rfl T.hT (hr.mono (by decide)) (tell8_exm T.xm_InvalidNumber) (fun cdv A outer s H p pn hr => (psd_cons (psd_set (i := 3) sc__law_caught.nd (pd_callE (ok__law_sort T) (hr.mono (by decide)) (List.mem_cons_self) T.g__law_sort T.F__law_sort.kp T.b__law_sort (pds_cons (pd_v 2) pds_nil))) (psd_one (psd_ret (pd_tup (pds_cons (pd_v 3) (pds_cons (pd_callE (ok__law_told T) (hr.mono (by decide)) (List.mem_cons_self) T.g__law_told T.F__law_told.kp T.b__law_told (pds_cons (pd_v 2) (pds_cons (pd_v 3) pds_nil))) pds_nil))))))) tell8_ts (fun A outer s H E f c' hr => (pdx_smeth T.g_Room T.S_Room_oblong (okx_Room_oblong T) (hr.mono (by decide))  T.b_Room_oblong .nil dfOk_nil (passes_call (takes_of rfl rfl rfl rfl) fun _ _ _ _ h => h) (pds_cons (pd_v 4) pds_nil))) (LamX.lamS_by (by kernel_rfl))) pds_nil))) (psd_cons (psd_expr (pd_append (pd_v 6) (pd_lam (k := 8) (tell := tell8 T.C_InvalidNumber) (tsu := tsu8 T.C_InvalidNumber) T.F__law_caught sc__law_caught rfl T.g__law_caught T.b__law_caught T.g_BadValue T.g_BadName T.g_NoAnswer TB rfl T.hT (hr.mono (by decide)) (tell8_exm T.xm_InvalidNumber) (fun cdv A outer s H p pn hr => (psd_cons (psd_set (i := 3) sc__law_caught.nd (pd_callE (ok__law_sort T) (hr.mono (by decide)) (List.mem_cons_self) T.g__law_sort T.F__law_sort.kp T.b__law_sort (pds_cons (pd_v 2) pds_nil))) (psd_one (psd_ret (pd_tup (pds_cons (pd_v 3) (pds_cons (pd_callE (ok__law_told T) (hr.mono (by decide)) (List.mem_cons_self) T.g__law_told T.F__law_told.kp T.b__law_told (pds_cons (pd_v 2) (pds_cons (pd_v 3) pds_nil))) pds_nil))))))) tell8_ts (fun A outer s H E f c' hr => (pdx_smethK T.g_Room T.S_Room_oblong (okx_Room_oblong T) (hr.mono (by decide))  T.kw_Room_oblong (passes_call (takes_of rfl rfl rfl rfl) fun _ _ _ _ h => h) (pdk_cons (pd_v 4) pdk_nil))) (LamX.lamS_by (by kernel_rfl))))) (psd_one (psd_ret (pd_and (pd_eq hr (pd_reprG hgu hr.units (pd_v 6) T.n_repr) (pd_reprG hgu hr.units (pd_lst (pds_cons (pd_v 5) (pds_cons (pd_v 5) pds_nil))) T.n_repr)) (pd_one (pd_callPG (ok__law_is T) hgu (hr.mono (by decide)) T.g__law_is T.F__law_is.kp T.b__law_is pass0 (pds_cons (pd_smeth0 T.g_Room T.S_Room_oblong (ok_Room_oblong T) (hr.mono (by decide))  T.b0_Room_oblong.choose_spec.2 T.b0_Room_oblong.choose_spec.1 dfOk_int pass0) (pds_cons (pd_callP (ok__law_shuts_by T) (hr.mono (by decide)) T.g__law_shuts_by T.F__law_shuts_by.kp T.b__law_shuts_by pass0 (pds_cons pd_int pds_nil)) pds_nil)))))))))))))), ?_⟩
  rintro c ds Φ hc - ⟨a, b, k, rfl, rfl, hB, hΦ⟩
  have okb : ∀ n : Int, okDs 0 [roomO T.C_Room n, shsD (obl n)] = true := fun n => by
    show ((true && (okDs 0 ((obl n).map Sh.d) && (true && true))) && (okDs 0 ((obl n).map Sh.d) && true)) = true
    rw [shs_ok]; rfl
  have okr : ∀ n : Int, okD 0 (roomO T.C_Room n) = true := fun n => by
    show (true && (okDs 0 ((obl n).map Sh.d) && (true && true))) = true
    rw [shs_ok]; rfl
  have oks1 : ∀ n : Int, okD 0 (shsD (obl n)) = true := fun n => by
    show okDs 0 ((obl n).map Sh.d) = true
    exact shs_ok _
  conv => whnf
  refine ⟨by decide, ?_⟩
  refine forD_inv (fun ds ρ c => ∃ (x1 x2 : Option D), ρ = [some (.cell 0), x1, x2, none, none, none, none] ∧ c = [spr a b k] ∧ (∀ d ∈ ds, ∃ n : Int, d = .int n ∧ -9 ≤ n ∧ n ≤ 9)) ?_ ?_ _ _ _ ⟨none, none, rfl, rfl, ?_⟩
  case refine_2 =>
    rintro d ds ρ c F hF ⟨x1, x2, rfl, rfl, hds⟩
    obtain ⟨n, rfl, hn⟩ := hds d List.mem_cons_self
    conv => whnf
    refine ⟨rfl, rfl, n, rfl, hn, ?_⟩
    conv => whnf
    refine ⟨rfl, rfl, n, rfl, hn, ?_⟩
    conv => whnf
    refine ⟨rfl, okb n, n, rfl, hn, ?_⟩
    conv => whnf
    refine ⟨rfl, rfl, rfl, n, rfl, hn, ?_⟩
    conv => whnf
    refine ⟨rfl, okb n, n, rfl, hn, ?_⟩
    conv => whnf
    exact hF _ _ ⟨_, _, rfl, rfl, fun d hd => hds d (List.mem_cons_of_mem _ hd)⟩
  case refine_3 =>
    intro d hd
    obtain ⟨j, hj, rfl⟩ := List.mem_map.mp hd
    have := List.mem_range.mp hj
    exact ⟨_, rfl, by omega, by omega⟩
  rintro ρ c ⟨x1, x2, rfl, rfl, -⟩
  conv => whnf
  refine ⟨by decide, ?_⟩
  conv => whnf
  refine ⟨by show 0 ≤ sizeLine; decide, ?_⟩
  conv => whnf
  refine ⟨by show 1 ≤ sizeLine; decide, ?_⟩
  conv => whnf
  refine ⟨by show 0 ≤ sizeLine; decide, ?_⟩
  conv => whnf
  refine ⟨by decide, ?_⟩
  conv => whnf
  refine ⟨rfl, ?_⟩
  refine take_call (rest := []) hB (by decide) (by decide) fun u a1 b1 k1 u0 u1 hB1 => ?_
  conv => whnf
  refine ⟨by show 13 ≤ sizeLine; decide, ?_⟩
  conv => whnf
  refine ⟨by decide, ?_⟩
  conv => whnf
  refine ⟨rfl, ?_⟩
  refine take_call (rest := []) hB1 (by decide) (by decide) fun v a2 b2 k2 v0 v1 hB2 => ?_
  conv => whnf
  refine ⟨by show 1 ≤ sizeLine; decide, ?_⟩
  conv => whnf
  refine ⟨by show 13 + 1 ≤ sizeLine; decide, ?_⟩
  conv => whnf
  refine ⟨rfl, ?_⟩
  refine take_call (m := 14) (rest := []) hB2 (by decide) (by decide) fun w a3 b3 k3 w0 w1 hB3 => ?_
  refine ix_any (ds := someL8 u v) w0 w1 fun d hd => ?_
  obtain ⟨od, oi, PD, eD, sD⟩ := some_all ⟨u0, u1⟩ ⟨v0, v1⟩ d hd
  clear hd
  have od1 : okDs 0 [d] = true := by show (okD 0 d && true) = true; rw [od.ok]; rfl
  conv => whnf
  refine ⟨by show 1 ≤ sizeLine; decide, ?_⟩
  conv => whnf
  refine ⟨by show 2 ≤ sizeLine; decide, ?_⟩
  conv => whnf
  refine ⟨rfl, od1, d, rfl, od, fun n e hn => (by subst e; exact (not_in oi hn).elim), fun _ => ⟨_, tell8_eq, od1, ?_⟩⟩
  conv => whnf
  refine ⟨by show 1 ≤ sizeLine; decide, ?_⟩
  conv => whnf
  refine ⟨1, rfl, ⟨_, rfl⟩, ?_⟩
  conv => whnf
  refine ⟨rfl, rfl, od1, d, rfl, od, fun n e hn => (by subst e; exact (not_in oi hn).elim), fun _ => ⟨_, tell8_eq, od1, ?_⟩⟩
  conv => whnf
  refine ⟨_, rfl, by show 1 < sizeLine; decide, ?_⟩
  conv => whnf
  refine ⟨PD, eD, sD, ?_⟩
  conv => whnf
  refine ⟨by show 2 ≤ sizeLine; decide, ?_⟩
  conv => whnf
  refine ⟨PD, eD, sD, ?_⟩
  conv => whnf
  rw [decide_eq_true (rfl : PD.shown = PD.shown)]
  conv => whnf
  refine ⟨rfl, rfl, 0, rfl, by decide, ?_⟩
  conv => whnf
  refine ⟨rfl, rfl, 0, rfl, by decide, ?_⟩
  conv => whnf
  refine ⟨rfl, okb 0, 0, rfl, by decide, ?_⟩
  conv => whnf
  exact ⟨rfl, rfl, hΦ _ _ _⟩

end
end K08

namespace K08
open PySem PySem.Spec PyProof.Rows L2 Cw
theorem inner_more {acc : List D} {y : D} {ex : List Cell} {Q : List Cell → Prop} (ha : okDs 0 acc = true) (hy : okD 1 y = true) (q : Q []) : inner 0 acc y (.lst acc :: ex) Q := by
  refine ⟨rfl, ?_⟩
  cases ex with
  | nil => exact q
  | cons e r =>
    refine ⟨?_, hy, q⟩
    show (okDs 1 acc && true) = true
    rw [show okDs 1 acc = true from okDs_up _ ha]; rfl
theorem lc_fresh {i : Nat} {te : TD} {ρ : Cw.Env} {Φ : List D → List Cell → Prop} (f : D → D) : ∀ (ds acc : List D),
    (∀ d ∈ ds, okD 0 (f d) = true ∧ ∀ acc (Ψ : D → List Cell → Prop), (∀ ex, Ψ (f d) (.lst acc :: ex)) → te (ρ.set i (some d)) [.lst acc] Ψ) →
    okDs 0 acc = true → acc.length + ds.length ≤ sizeLine → Φ (acc ++ ds.map f) [] → lcD i dYes te ds acc ρ [] Φ
  | [], acc, _, h, _, q => ⟨rfl, h, by simpa using q⟩
  | d :: ds, acc, he, h, hl, q => by
    have hl' : acc.length + (ds.length + 1) ≤ sizeLine := hl
    obtain ⟨hk, ht⟩ := he d List.mem_cons_self
    show te _ _ _
    refine ht acc _ fun ex => ⟨by omega, inner_more h (okD_up _ hk) ?_⟩
    refine lc_fresh f ds _ (fun x hx => he x (List.mem_cons_of_mem _ hx)) (okDs_app h (okDs_one hk)) (by rw [List.length_append]; show acc.length + 1 + ds.length ≤ _; omega) ?_
    simpa using q
theorem oki : ∀ ns : List Int, okDs 0 (ns.map D.int) = true
  | [] => rfl
  | n :: ns => by
    show (true && okDs 0 (ns.map D.int)) = true
    rw [oki ns]; rfl
theorem bls_true : ∀ ds : List D, Cw.bls (ds.map fun _ => D.bl true) = some (ds.map fun _ => true)
  | [] => rfl
  | d :: ds => by
    have ih := bls_true ds
    show (Cw.bls (D.bl true :: ds.map fun _ => D.bl true)) = _
    simp only [Cw.bls, ih]
    rfl
theorem all_true (ds : List D) : (ds.map fun _ => true).all id = true := by simp
def S_law : Pm := fun c ds Φ => ∃ ns, ds = [intsD ns] ∧ ns.length ≤ 63 ∧ Φ (.bl true) c
section
variable {P : Program} {w : World} {K : PySem.W.Frag} {mg : Str → Option Value} {base : Heap}
set_option maxHeartbeats 8000000 in
theorem ok_law (T : Tx K mg) (TB : LamX.TabB base mg T.cL T.P) : FnG P w K mg base 13 T.a_law T.d_law ["_law_cells"] (spD K 0 1 S_law) := by
  refine fnGD T.F_law sc_law fun cdv A outer s H E hgu hr => ⟨_, (psd_one (psd_ret (pd_all rfl (pd_lc (i := 1) rfl sc_law.nd (pid_range1 (pd_max rfl pd_int (pd_min rfl (pd_len (pd_v 0) T.n_len) pd_int T.n_min) T.n_max) T.n_range) (by kernel_rfl) (fun _ _ _ _ _ => pg_name (i := 1) sc_law.nd rfl (Or.inl rfl)) (fun _ _ _ _ _ => ptd_nil) (fun _ _ _ _ _ => (pd_callMG (ok__law_right T TB) hgu (hr.mono (by decide)) T.g__law_right T.F__law_right.kp T.b__law_right pass0 (pds_cons (pd_callN (ok__law_spring T) (hr.mono (by decide)) T.g__law_spring T.F__law_spring.kp T.b__law_spring pass0 (pds_cons (pd_v 0) (pds_cons (pd_v 1) pds_nil))) pds_nil)))) T.n_all))), ?_⟩
  rintro c ds Φ hc - ⟨ns, rfl, hl, hΦ⟩
  cases c with
  | cons _ _ => cases hc
  | nil =>
  conv => whnf
  have hnl : ((ns.map D.int).length : Int) ≤ 63 := by rw [List.length_map]; omega
  generalize hM : (if (if 5 < ((ns.map D.int).length : Int) then 5 else ((ns.map D.int).length : Int)) > 2 then (if 5 < ((ns.map D.int).length : Int) then 5 else ((ns.map D.int).length : Int)) else 2) = M
  have hM' : 0 ≤ M ∧ M ≤ 5 := by
    subst hM
    split <;> split <;> omega
  refine ⟨by omega, ?_⟩
  refine lc_fresh (fun _ => .bl true) _ [] ?_ rfl ?_ ?_
  · intro d hd
    obtain ⟨j, hj, rfl⟩ := List.mem_map.mp hd
    have hj := List.mem_range.mp hj
    refine ⟨rfl, fun acc Ψ h => ?_⟩
    conv => whnf
    refine ⟨rfl, ?_, ns, _, rfl, ⟨by omega, by omega⟩, hl, fun a b ha hb => ?_⟩
    · show (okDs 0 (ns.map D.int) && (true && true)) = true
      rw [oki]; rfl
    · conv => whnf
      exact ⟨rfl, spr a b 0, rfl, rfl, rfl, a, b, 0, rfl, rfl, ⟨ha, hb, by decide, by decide⟩, fun a' b' k' => ⟨rfl, rfl, h [spr a' b' k']⟩⟩
  · show 0 + (rng 0 M.toNat).length ≤ _
    rw [rng_len]; exact short (by omega)
  · conv => whnf
    refine ⟨_, bls_true _, ?_⟩
    rw [all_true]
    exact hΦ

end
end K08

namespace K08
open PySem PySem.Spec PyProof.Rows L2 Cw
theorem law_in {K : PySem.W.Frag} {H : Hp} {a P : Addr} {ns : List Int} (hl : ns.length ≤ 63) (hT : tabsK K = [(P, (⟨lamQ, rfl⟩ : LQ))]) (hH : H P = some (.tbl #[])) (h : SqL K H a (ns.map V.int)) : spD K 0 1 S_law [.ref a] H (fun v _ => v = .bl true) fun _ _ _ => False := by
  have at_ : ∀ b u, H b = some u → (∀ ps, u ≠ .tbl ps) → hid ⟨[], [P]⟩ H b = some u := fun b u e n => by
    rw [hid_of]
    · exact e
    · refine ⟨fun z => (by cases z), fun z => ?_⟩
      have : b = P := by simpa using z
      subst this
      rw [hH] at e
      exact n _ (Option.some.inj e).symm
  have h' : SqL K (hid ⟨[], [P]⟩ H) a (ns.map V.int) := by
    rcases h with (h | ⟨o, h⟩) | h
    · exact .inl (.inl (at_ _ _ h fun _ z => nomatch z))
    · exact .inl (.inr ⟨o, at_ _ _ h fun _ z => nomatch z⟩)
    · exact .inr h
  have ri : ∀ ns : List Int, RL K [] (hid ⟨[], [P]⟩ H) (ns.map D.int) (ns.map V.int) := fun ns => by
    induction ns with
    | nil => rfl
    | cons n ns ih => exact ⟨_, _, rfl, rfl, ih⟩
  refine ⟨⟨[], [P]⟩, [], [intsD ns], fun d _ => d = .bl true, rfl, rfl, ⟨rfl, List.nodup_nil, fun k ce e => by simp at e, fun b hb => ?_, fun b hb => absurd (show b ∈ ([] : List Addr) from hb) (by simp), fun p hp => ?_⟩, ⟨.ref a, [], rfl, ⟨a, _, rfl, h', ri ns⟩, rfl⟩, ⟨ns, rfl, hl, rfl⟩, fun d c' w H' hd _ r _ => ?_⟩
  · have : b = P := by simpa using hb
    subst this
    exact ⟨_, hH, fun _ z => nomatch z⟩
  · rw [hT] at hp
    have : p = (P, (⟨lamQ, rfl⟩ : LQ)) := by simpa using hp
    subst this
    exact ⟨List.mem_cons_self, #[], hH, True.intro, fun pos cv hc => by
      have z : codeAmong pos [] = some cv := hc
      simp [codeAmong] at z⟩
  · subst hd
    exact r
theorem fin {l : PySem.W.OpenLaw} {w : World} {K : PySem.W.Frag} {mg : Str → Option Value} {fa : Addr} {h : Heap} (T : Tx K mg) (KX : K.In h) (hget : h.get? T.P = some (PySem.W.tabObj #[])) (nT : K.lookup T.P = none) (hcd : PySem.W.codeHdIn K T.cL T.P = true) (hb : ∀ (s : Shared) (v : Value), BindsTo s T.d_law ⟨[v], []⟩ [("_law_cells", v)]) (hfa : mg "law" = some (.ref fa)) :
    ∃ (fd : FuncData) (cL P : Addr), h.get? P = some { cls := .none, data := .fields #[] } ∧ K.lookup P = none ∧ PySem.W.CodeHd h cL P ∧ (∀ (s : Shared) (v : Value), BindsTo s fd ⟨[v], []⟩ [("_law_cells", v)]) ∧
      (∀ (H : Hp) (a : Addr) (ns : List Int), ns.length ≤ 63 → H P = some (.tbl #[]) → SqL K H a (ns.map V.int) → spD K 0 1 S_law [.ref a] H (fun v _ => v = .bl true) fun _ _ _ => False) ∧
      ∀ base : Heap, K.In base → base.Ns mainGlobals mg → LamX.TabB base mg cL P → FnG l.prog w K mg base 13 fa fd ["_law_cells"] (spD K 0 1 S_law) := by
  have e := hfa.symm.trans T.g_law
  have e : fa = T.a_law := by injection e with e; injection e
  subst e
  exact ⟨T.d_law, T.cL, T.P, hget, nT, PySem.W.codeHd_of_K KX hcd, hb, fun H a ns hl hH hS => law_in hl T.hTab hH hS, fun base _ _ TB => ok_law T TB⟩
theorem walkL {l : PySem.W.OpenLaw} {q : Program} {loose : List Str} {XP : (Str → Option Value) → Heap → Prop} {YP : World → Heap → Prop} {d : DefRec} {K : Params → PySem.W.Frag} (hn : l.most = some 63) (hdf : d.params.defaults = [])
    (hY : ∀ (w : World) (h : Heap), YP w h → (K w.params).In h)
    (F : ∀ (w : World) (mg : Str → Option Value) (fa : Addr) (h : Heap), YP w h → (K w.params).In h → h.Ns mainGlobals mg → mg d.name = some (.ref fa) →
      ∃ (fd : FuncData) (cL P : Addr), h.get? P = some { cls := .none, data := .fields #[] } ∧ (K w.params).lookup P = none ∧ PySem.W.CodeHd h cL P ∧ (∀ (s : Shared) (v : Value), BindsTo s fd ⟨[v], []⟩ [("_law_cells", v)]) ∧
        (∀ (H : Hp) (a : Addr) (ns : List Int), ns.length ≤ 63 → H P = some (.tbl #[]) → SqL (K w.params) H a (ns.map V.int) → spD (K w.params) 0 1 S_law [.ref a] H (fun v _ => v = .bl true) fun _ _ _ => False) ∧
        ∀ base : Heap, (K w.params).In base → base.Ns mainGlobals mg → LamX.TabB base mg cL P → FnG l.prog w (K w.params) mg base 13 fa fd ["_law_cells"] (spD (K w.params) 0 1 S_law)) :
    PySem.W.WalkO q loose XP YP l.row.toRowW d [] (fun f vs => PySem.call f vs) :=
  walkT (n := 63) (k := 13) (x := "_law_cells") (sp := fun w => spD (K w.params) 0 1 S_law) hn (by decide) hdf ⟨rfl, by decide, by decide⟩ hY F
/-! ### the head: the top by one run -/
abbrev rowR : PySem.W.OpenRow := PySem.W.OpenLaw.row PySem.Challenge.rw_cornerways_k08_oblongs
abbrev qvR : Program := PySem.W.view rowR.prog [53]
def namesR0 : List Str := ["_wall", "BadValue", "InvalidText", "InvalidLine", "InvalidState", "InvalidNumber", "InvalidName", "InvalidIndex", "InvalidWish", "InvalidClaim", "NotBorders", "NotARoom", "InvalidSizes", "InvalidFilling", "InvalidNames", "InvalidLines", "BadName", "UnknownName", "InUse", "NoAnswer", "OtherLetters", "TooMany", "NothingToUndo", "NotAsked"]
def namesR1 : List Str := ["Broken", "DIGITS", "TURNS", "is_any_integer", "is_integer", "number_of", "MOST_SIDES", "MOST_PLUS", "SIDE_LETTERS", "plus_of", "plus_text", "side_of", "sides_of", "Room", "_law_spring", "_law_take", "_law_sort", "_law_told", "_law_caught", "_law_sorts", "_law_shut_row", "_law_plan", "_law_shuts_by", "_law_is"]
def namesR2 : List Str := ["_law_right"]
def namesR : List Str := namesR0 ++ (namesR1 ++ (namesR2))
theorem head_km {r : PySem.W.OpenRow} {q : Program} {M : Nat} {loose : List Str} {d : DefRec} {kwd : List (Str × PySem.Expr)} {K : Params → PySem.W.Frag} {as ts : List Addr} {e : ∀ P, as = (K P).map (·.1)} {h : PySem.W.Hook} (_ : h = PySem.W.kmHook K as e ts)
    (e1 : PySem.W.opening r.prog = PySem.W.plainProg r.prog.main.scope.names) (f : ∀ s, fenceModules? r.prog s = some s) (run : ∀ w, HandSHeadRun.RunEq r q (PySem.W.kmHook K as e ts) (fun s => (as.map (HandSHeadRun.getT s), ts.map (HandSHeadRun.getT s))) M loose w)
    (hdef : PySem.W.defOf q r.name = some (d, kwd)) (hp : r.prog.theDef r.name = some (d.params, d.body, d.scope)) (hk : PySem.W.kwWritten? d.params.kwonlyargs d.params.kw_defaults = some kwd)
    (hwr : (!r.writes || r.records.isEmpty) = true) (k1 : r.wellSaid = true) (ok : (PySem.W.chainsOk q && PySem.W.opensWell r.prog && (PySem.W.frees r.toRowW && r.within.isEmpty)) = true) (hb : r.prog.bare) (hw : r.toRowW.promised)
    (call : PySem.W.WalkO q loose (PySem.W.XL q []) (PySem.W.kmHook K as e ts).says r.toRowW d kwd fun f vs => PySem.call f vs) : r.Holds :=
  HandSHeadRun.head_any (fun s => by
    show (as.map (HandSHeadRun.getT s), ts.map (HandSHeadRun.getT s)) = (as.map s.abs.heap.get?, ts.map s.abs.heap.get?)
    rw [show HandSHeadRun.getT s = s.abs.heap.get? from funext (HandSHeadRun.getT_eq s)]) e1 f run hdef hp hk hwr k1 ok hb hw call
end K08
open PySem PySem.W PyProof.Rows
local macro_rules | `(tactic| o_head $h:term) => `(tactic| refine K08.head_km (r := K08.rowR) (q := K08.qvR) (M := 9000) (loose := K08.namesR) (kwd := []) (h := $h) rfl (by kernel_rfl) (fun s => by kernel_rfl) (fun w os => by kernel_rfl) (by rfl) (by rfl) (by rfl) (by rfl) (by first | assumption | decide +kernel) (by decide +kernel) ⟨rfl, rfl, rfl, rfl, rfl, by decide +kernel⟩ ?hw ?hc)
set_option maxRecDepth 100000 in
set_option maxHeartbeats 0 in
theorem PySem.Challenge.cw_cornerways_k08_oblongs_holds : PySem.Challenge.rw_cornerways_k08_oblongs.Holds := by
  w_on; o_law; k_head; (case hw => w_witness2)
  k_fill
  refine K08.walkL (l := PySem.Challenge.rw_cornerways_k08_oblongs) rfl rfl (fun w h Y => PySem.W.km_in_of Y) ?F
  case F =>
    intro w mg fa h Y KX G hmg
    have tabs := PySem.W.km_tabs_of Y
    refine' K08.fin (K08.mkTx KX G ?z_ValueError ?z_LookupError ?z_ArithmeticError ?z_isinstance ?z_int ?z_bool ?z_len ?z_tuple ?z_str ?z_abs ?z_divmod ?z_repr ?z_range ?z_all ?z_max ?z_min ?z_sorted ?z_staticmethod ?s_DIGITS ?s_MOST_SIDES ?s_MOST_PLUS ?s_TURNS ?l_TURNS ?s_SIDE_LETTERS ?l_SIDE_LETTERS ?ag_is_any_integer ?l_is_any_integer ?c_is_any_integer ?k_is_any_integer ?ag_is_integer ?l_is_integer ?c_is_integer ?k_is_integer ?ag_number_of ?l_number_of ?c_number_of ?k_number_of ?ag_plus_of ?l_plus_of ?c_plus_of ?k_plus_of ?ag_plus_text ?l_plus_text ?c_plus_text ?k_plus_text ?ag_side_of ?l_side_of ?c_side_of ?k_side_of ?ag_sides_of ?l_sides_of ?c_sides_of ?k_sides_of ?ag__law_spring ?l__law_spring ?c__law_spring ?k__law_spring ?ag__law_take ?l__law_take ?c__law_take ?k__law_take ?ag__law_sort ?l__law_sort ?c__law_sort ?k__law_sort ?ag__law_told ?l__law_told ?c__law_told ?k__law_told ?ag__law_caught ?l__law_caught ?c__law_caught ?k__law_caught ?ag__law_sorts ?l__law_sorts ?c__law_sorts ?k__law_sorts ?ag__law_shut_row ?l__law_shut_row ?c__law_shut_row ?k__law_shut_row ?ag__law_plan ?l__law_plan ?c__law_plan ?k__law_plan ?ag__law_shuts_by ?l__law_shuts_by ?c__law_shuts_by ?k__law_shuts_by ?ag__law_is ?l__law_is ?c__law_is ?k__law_is ?ag__law_right ?l__law_right ?c__law_right ?k__law_right ?ag_law ?l_law ?c_law ?k_law ?aC_Room ?pg_Room ?hd_Room ?po_Room ?sa_Room ?mk_Room ?kc_Room ?ne_Room ?mro_Room ?bool_Room ?hcl_Room ?hsp_Room ?htk_Room ?kwNoneType_Room ?kwbool_Room ?kwint_Room ?kwstr_Room ?kwtuple_Room ?kwlist_Room ?kwdict_Room ?na_whole_Room ?na_rows_Room ?na_alphabet_Room ?l_Room___init__ ?c_Room___init__ ?k_Room___init__ ?e_Room___init__ ?i_Room___init__ ?e_Room_oblong ?fc_Room_oblong ?r_Room_oblong ?rd_Room_oblong ?ga_Room_oblong ?l_Room_oblong ?c_Room_oblong ?k_Room_oblong ?ld_Room_oblong ?l_Room_text ?c_Room_text ?k_Room_text ?e_Room_text ?g_Room_text ?tk_Room_text ?r_Room_text ?l_Room_sides ?c_Room_sides ?k_Room_sides ?e_Room_sides ?g_Room_sides ?tk_Room_sides ?r_Room_sides ?l_Room_letters ?c_Room_letters ?k_Room_letters ?e_Room_letters ?g_Room_letters ?tk_Room_letters ?r_Room_letters ?l_Room___eq__ ?c_Room___eq__ ?k_Room___eq__ ?e_Room___eq__ ?i_Room___eq__ ?l_Room___str__ ?c_Room___str__ ?k_Room___str__ ?e_Room___str__ ?i_Room___str__ ?l_Room___len__ ?c_Room___len__ ?k_Room___len__ ?e_Room___len__ ?i_Room___len__ ?aC_BadValue ?aC_InvalidText ?aC_InvalidLine ?aC_InvalidState ?aC_InvalidNumber ?aC_InvalidName ?aC_InvalidIndex ?aC_InvalidWish ?aC_InvalidClaim ?aC_NotBorders ?aC_NotARoom ?aC_InvalidSizes ?aC_InvalidFilling ?aC_InvalidNames ?aC_InvalidLines ?aC_BadName ?aC_UnknownName ?aC_InUse ?aC_NoAnswer ?aC_OtherLetters ?aC_TooMany ?aC_NothingToUndo ?aC_NotAsked ?aC_Broken ?oex_InvalidNumber ?ecl_InvalidNumber ?ehd_InvalidNumber ?ega_InvalidNumber ?egt_InvalidNumber ?esu_InvalidNumber ?ehc_InvalidNumber ?esp_InvalidNumber ?etk_InvalidNumber ?emr_InvalidNumber ?esa_InvalidNumber ?ety_InvalidNumber ?ekp_InvalidNumber ?enogiven_InvalidNumber ?enoindex_InvalidNumber ?enoshown_InvalidNumber ?enolimit_InvalidNumber ?exm_InvalidNumber ?kt_InvalidNumber_BadValue ?kt_InvalidNumber_InvalidText ?kt_InvalidNumber_InvalidLine ?kt_InvalidNumber_InvalidState ?kt_InvalidNumber_InvalidNumber ?kt_InvalidNumber_InvalidName ?kt_InvalidNumber_InvalidIndex ?kt_InvalidNumber_InvalidWish ?kt_InvalidNumber_InvalidClaim ?kt_InvalidNumber_NotBorders ?kt_InvalidNumber_NotARoom ?kt_InvalidNumber_InvalidSizes ?kt_InvalidNumber_InvalidFilling ?kt_InvalidNumber_InvalidNames ?kt_InvalidNumber_InvalidLines ?kt_InvalidNumber_BadName ?kt_InvalidNumber_UnknownName ?kt_InvalidNumber_InUse ?kt_InvalidNumber_NoAnswer ?kt_InvalidNumber_OtherLetters ?kt_InvalidNumber_TooMany ?kt_InvalidNumber_NothingToUndo ?kt_InvalidNumber_NotAsked ?kt_InvalidNumber_Broken ?kt_InvalidNumber_ValueError ?kt_InvalidNumber_LookupError ?kt_InvalidNumber_ArithmeticError ?e_InvalidNumber_I ?l_InvalidNumber_I ?c_InvalidNumber_I ?k_InvalidNumber_I ?t_InvalidNumber_I ?hcd ?hTab) KX (tabs _ List.mem_cons_self) ?nT ?hcc ?hbb hmg
    (case aC_Room => k_is)
    (case aC_BadValue => k_is)
    (case aC_InvalidText => k_is)
    (case aC_InvalidLine => k_is)
    (case aC_InvalidState => k_is)
    (case aC_InvalidNumber => k_is)
    (case aC_InvalidName => k_is)
    (case aC_InvalidIndex => k_is)
    (case aC_InvalidWish => k_is)
    (case aC_InvalidClaim => k_is)
    (case aC_NotBorders => k_is)
    (case aC_NotARoom => k_is)
    (case aC_InvalidSizes => k_is)
    (case aC_InvalidFilling => k_is)
    (case aC_InvalidNames => k_is)
    (case aC_InvalidLines => k_is)
    (case aC_BadName => k_is)
    (case aC_UnknownName => k_is)
    (case aC_InUse => k_is)
    (case aC_NoAnswer => k_is)
    (case aC_OtherLetters => k_is)
    (case aC_TooMany => k_is)
    (case aC_NothingToUndo => k_is)
    (case aC_NotAsked => k_is)
    (case aC_Broken => k_is)
    (case e_Room___init__ => k_is)
    (case e_Room_oblong => k_is)
    (case e_Room_text => k_is)
    (case e_Room_sides => k_is)
    (case e_Room_letters => k_is)
    (case e_Room___eq__ => k_is)
    (case e_Room___str__ => k_is)
    (case e_Room___len__ => k_is)
    (case e_InvalidNumber_I => k_is)
    (case r_Room_oblong => k_is)
    (case r_Room_text => k_is)
    (case r_Room_sides => k_is)
    (case r_Room_letters => k_is)
    (case z_ValueError => k_is)
    (case z_LookupError => k_is)
    (case z_ArithmeticError => k_is)
    (case z_isinstance => k_is)
    (case z_int => k_is)
    (case z_bool => k_is)
    (case z_len => k_is)
    (case z_tuple => k_is)
    (case z_str => k_is)
    (case z_abs => k_is)
    (case z_divmod => k_is)
    (case z_repr => k_is)
    (case z_range => k_is)
    (case z_all => k_is)
    (case z_max => k_is)
    (case z_min => k_is)
    (case z_sorted => k_is)
    (case z_staticmethod => k_is)
    (case s_DIGITS => k_is)
    (case s_MOST_SIDES => k_is)
    (case s_MOST_PLUS => k_is)
    (case s_TURNS => k_is)
    (case l_TURNS => k_is)
    (case s_SIDE_LETTERS => k_is)
    (case l_SIDE_LETTERS => k_is)
    (case ag_is_any_integer => k_is)
    (case l_is_any_integer => k_is)
    (case c_is_any_integer => k_is)
    (case k_is_any_integer => k_is)
    (case ag_is_integer => k_is)
    (case l_is_integer => k_is)
    (case c_is_integer => k_is)
    (case k_is_integer => k_is)
    (case ag_number_of => k_is)
    (case l_number_of => k_is)
    (case c_number_of => k_is)
    (case k_number_of => k_is)
    (case ag_plus_of => k_is)
    (case l_plus_of => k_is)
    (case c_plus_of => k_is)
    (case k_plus_of => k_is)
    (case ag_plus_text => k_is)
    (case l_plus_text => k_is)
    (case c_plus_text => k_is)
    (case k_plus_text => k_is)
    (case ag_side_of => k_is)
    (case l_side_of => k_is)
    (case c_side_of => k_is)
    (case k_side_of => k_is)
    (case ag_sides_of => k_is)
    (case l_sides_of => k_is)
    (case c_sides_of => k_is)
    (case k_sides_of => k_is)
    (case ag__law_spring => k_is)
    (case l__law_spring => k_is)
    (case c__law_spring => k_is)
    (case k__law_spring => k_is)
    (case ag__law_take => k_is)
    (case l__law_take => k_is)
    (case c__law_take => k_is)
    (case k__law_take => k_is)
    (case ag__law_sort => k_is)
    (case l__law_sort => k_is)
    (case c__law_sort => k_is)
    (case k__law_sort => k_is)
    (case ag__law_told => k_is)
    (case l__law_told => k_is)
    (case c__law_told => k_is)
    (case k__law_told => k_is)
    (case ag__law_caught => k_is)
    (case l__law_caught => k_is)
    (case c__law_caught => k_is)
    (case k__law_caught => k_is)
    (case ag__law_sorts => k_is)
    (case l__law_sorts => k_is)
    (case c__law_sorts => k_is)
    (case k__law_sorts => k_is)
    (case ag__law_shut_row => k_is)
    (case l__law_shut_row => k_is)
    (case c__law_shut_row => k_is)
    (case k__law_shut_row => k_is)
    (case ag__law_plan => k_is)
    (case l__law_plan => k_is)
    (case c__law_plan => k_is)
    (case k__law_plan => k_is)
    (case ag__law_shuts_by => k_is)
    (case l__law_shuts_by => k_is)
    (case c__law_shuts_by => k_is)
    (case k__law_shuts_by => k_is)
    (case ag__law_is => k_is)
    (case l__law_is => k_is)
    (case c__law_is => k_is)
    (case k__law_is => k_is)
    (case ag__law_right => k_is)
    (case l__law_right => k_is)
    (case c__law_right => k_is)
    (case k__law_right => k_is)
    (case ag_law => k_is)
    (case l_law => k_is)
    (case c_law => k_is)
    (case k_law => k_is)
    (case pg_Room => k_is)
    (case hd_Room => k_is)
    (case po_Room => k_is)
    (case sa_Room => k_is)
    (case mk_Room => k_is)
    (case kc_Room => k_is)
    (case ne_Room => k_is)
    (case mro_Room => k_is)
    (case bool_Room => k_is)
    (case hcl_Room => k_is)
    (case hsp_Room => k_is)
    (case htk_Room => k_is)
    (case kwNoneType_Room => kernel_rfl)
    (case kwbool_Room => kernel_rfl)
    (case kwint_Room => kernel_rfl)
    (case kwstr_Room => kernel_rfl)
    (case kwtuple_Room => kernel_rfl)
    (case kwlist_Room => kernel_rfl)
    (case kwdict_Room => kernel_rfl)
    (case na_whole_Room => k_is)
    (case na_rows_Room => k_is)
    (case na_alphabet_Room => k_is)
    (case l_Room___init__ => k_is)
    (case c_Room___init__ => k_is)
    (case k_Room___init__ => k_is)
    (case i_Room___init__ => k_is)
    (case fc_Room_oblong => k_is)
    (case rd_Room_oblong => k_is)
    (case ga_Room_oblong => k_is)
    (case l_Room_oblong => k_is)
    (case c_Room_oblong => k_is)
    (case k_Room_oblong => k_is)
    (case ld_Room_oblong => k_is)
    (case l_Room_text => k_is)
    (case c_Room_text => k_is)
    (case k_Room_text => k_is)
    (case g_Room_text => k_is)
    (case tk_Room_text => k_is)
    (case l_Room_sides => k_is)
    (case c_Room_sides => k_is)
    (case k_Room_sides => k_is)
    (case g_Room_sides => k_is)
    (case tk_Room_sides => k_is)
    (case l_Room_letters => k_is)
    (case c_Room_letters => k_is)
    (case k_Room_letters => k_is)
    (case g_Room_letters => k_is)
    (case tk_Room_letters => k_is)
    (case l_Room___eq__ => k_is)
    (case c_Room___eq__ => k_is)
    (case k_Room___eq__ => k_is)
    (case i_Room___eq__ => k_is)
    (case l_Room___str__ => k_is)
    (case c_Room___str__ => k_is)
    (case k_Room___str__ => k_is)
    (case i_Room___str__ => k_is)
    (case l_Room___len__ => k_is)
    (case c_Room___len__ => k_is)
    (case k_Room___len__ => k_is)
    (case i_Room___len__ => k_is)
    (case oex_InvalidNumber => kernel_rfl)
    (case ecl_InvalidNumber => kernel_rfl)
    (case ehd_InvalidNumber => k_is)
    (case ega_InvalidNumber => k_is)
    (case egt_InvalidNumber => k_is)
    (case esu_InvalidNumber => k_is)
    (case ehc_InvalidNumber => k_is)
    (case esp_InvalidNumber => k_is)
    (case etk_InvalidNumber => k_is)
    (case emr_InvalidNumber => k_is)
    (case esa_InvalidNumber => k_is)
    (case ety_InvalidNumber => k_is)
    (case ekp_InvalidNumber => k_is)
    (case enogiven_InvalidNumber => k_is)
    (case enoindex_InvalidNumber => k_is)
    (case enoshown_InvalidNumber => k_is)
    (case enolimit_InvalidNumber => k_is)
    (case exm_InvalidNumber => kernel_rfl)
    (case kt_InvalidNumber_BadValue => kernel_rfl)
    (case kt_InvalidNumber_InvalidText => kernel_rfl)
    (case kt_InvalidNumber_InvalidLine => kernel_rfl)
    (case kt_InvalidNumber_InvalidState => kernel_rfl)
    (case kt_InvalidNumber_InvalidNumber => kernel_rfl)
    (case kt_InvalidNumber_InvalidName => kernel_rfl)
    (case kt_InvalidNumber_InvalidIndex => kernel_rfl)
    (case kt_InvalidNumber_InvalidWish => kernel_rfl)
    (case kt_InvalidNumber_InvalidClaim => kernel_rfl)
    (case kt_InvalidNumber_NotBorders => kernel_rfl)
    (case kt_InvalidNumber_NotARoom => kernel_rfl)
    (case kt_InvalidNumber_InvalidSizes => kernel_rfl)
    (case kt_InvalidNumber_InvalidFilling => kernel_rfl)
    (case kt_InvalidNumber_InvalidNames => kernel_rfl)
    (case kt_InvalidNumber_InvalidLines => kernel_rfl)
    (case kt_InvalidNumber_BadName => kernel_rfl)
    (case kt_InvalidNumber_UnknownName => kernel_rfl)
    (case kt_InvalidNumber_InUse => kernel_rfl)
    (case kt_InvalidNumber_NoAnswer => kernel_rfl)
    (case kt_InvalidNumber_OtherLetters => kernel_rfl)
    (case kt_InvalidNumber_TooMany => kernel_rfl)
    (case kt_InvalidNumber_NothingToUndo => kernel_rfl)
    (case kt_InvalidNumber_NotAsked => kernel_rfl)
    (case kt_InvalidNumber_Broken => kernel_rfl)
    (case kt_InvalidNumber_ValueError => kernel_rfl)
    (case kt_InvalidNumber_LookupError => kernel_rfl)
    (case kt_InvalidNumber_ArithmeticError => kernel_rfl)
    (case l_InvalidNumber_I => k_is)
    (case c_InvalidNumber_I => k_is)
    (case k_InvalidNumber_I => k_is)
    (case t_InvalidNumber_I => k_is)
    (case hcd => rfl)
    (case hTab => kernel_rfl)
    (case nT => first | k_is | kernel_rfl)
    (case hcc => first | k_is | kernel_rfl)
    case hbb => exact fun s v => .of_eq rfl
