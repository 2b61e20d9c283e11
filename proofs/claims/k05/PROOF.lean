import PyProof.Rows.All
import Wide.All
import OpenK.AllK
import Wide.FinOn
import HandS.ForMost
import HandS.TupAny
import HandS.Property
import HandS.RaiseMore
import HandS.IsInst
import HandS.MakeKw
import HandS.Deep
import HandS.OwnEq
import HandS.NamedTupSort
import HandS.Small
import KE.KFmtOwn
import KE.KCallOwn
import KE.KFromBytes
import PyProof.ReprRoads
import HandS.MakeKwOnly
import HandS.Style
import HandS.SetTxt0
import HandS.SetBool
import PySem.Challenge.RW_cornerways_k05_rooms_made
set_option Elab.async false
set_option linter.all false
set_option maxRecDepth 100000
set_option maxHeartbeats 1000000
/-! # Values as plain data, mutable objects as numbered cells: readings over data alone -/
namespace Cw
open PySem PySem.Spec PyProof.Rows L2

/-- plain data; `cell k` is the k-th mutable object at hand -/
inductive D where
  | non | bl (b : Bool) | int (i : Int) | str (x : Str)
  | tup (ds : List D) | lst (ds : List D) | fl (ds : List D) | cell (k : Nat)
  | ins (C : Addr) (ns : List Str) (ds : List D)
  | raw (v : V)

/-- a mutable object's content -/
inductive Cell where
  | lst (ds : List D)
  | obj (C : Addr) (ns : List Str) (ds : List D)

/-- where the cells stand; what the callers hide -/
structure Ad where
  ix : List Addr
  hd : List Addr
/-- the heap without the mutable objects -/
def hid (m : Ad) (H : Hp) : Hp := fun b => if b ∈ m.ix ∨ b ∈ m.hd then none else H b
theorem hid_some {m : Ad} {H : Hp} {b : Addr} {o : HO} (h : hid m H b = some o) : (b ∉ m.ix ∧ b ∉ m.hd) ∧ H b = some o := by
  unfold hid at h
  by_cases hb : b ∈ m.ix ∨ b ∈ m.hd
  · rw [if_pos hb] at h; cases h
  · rw [if_neg hb] at h; exact ⟨⟨fun z => hb (.inl z), fun z => hb (.inr z)⟩, h⟩
theorem hid_of {m : Ad} {H : Hp} {b : Addr} (h : b ∉ m.ix ∧ b ∉ m.hd) : hid m H b = H b := by
  unfold hid; rw [if_neg (fun z => z.elim h.1 h.2)]

def Ex (H H' : Hp) : Prop := ∀ a o, H a = some o → H' a = some o
theorem Ex.refl (H : Hp) : Ex H H := fun _ _ h => h
theorem Ex.trans {H H1 H2 : Hp} (a : Ex H H1) (b : Ex H1 H2) : Ex H H2 := fun x o h => b x o (a x o h)
theorem Ex.new {H : Hp} {p : Addr} {o : HO} (h : H p = none) : Ex H (upd H p o) := fun a u e => by
  rw [upd_ne (ne_of_none e h)]; exact e
theorem ex_rd {H H' : Hp} {a : Addr} {u : HO} (e : Ex H H') (h : Rd H a u) : Rd H' a u := by
  rcases h with h | ⟨o, h⟩
  · exact .inl (e a _ h)
  · exact .inr ⟨o, e a _ h⟩
theorem ex_l {K : PySem.W.Frag} {H H' : Hp} {a : Addr} {xs : List V} (e : Ex H H') (h : SqL K H a xs) : SqL K H' a xs := by
  rcases h with h | h
  · exact .inl (ex_rd e h)
  · exact .inr h
theorem ex_t {K : PySem.W.Frag} {H H' : Hp} {a : Addr} {xs : List V} (e : Ex H H') (h : SqT K H a xs) : SqT K H' a xs := by
  rcases h with h | h
  · exact .inl (ex_rd e h)
  · exact .inr h
theorem ex_hid (m : Ad) (H : Hp) : Ex (hid m H) H := fun _ _ h => (hid_some h).2

/-! ### which value is which data -/
section
variable (K : PySem.W.Frag) (m : List Addr) (H : Hp)
mutual
def R : D → V → Prop
  | .non, v => v = .non
  | .bl b, v => v = .bl b
  | .int i, v => v = .int i
  | .str x, v => v = .str x
  | .tup ds, v => ∃ a xs, v = .ref a ∧ SqT K H a xs ∧ RL ds xs
  | .lst ds, v => ∃ a xs, v = .ref a ∧ H a = some (.lst xs) ∧ RL ds xs
  | .fl ds, v => ∃ a xs, v = .ref a ∧ SqL K H a xs ∧ RL ds xs
  | .cell k, v => ∃ a, m[k]? = some a ∧ v = .ref a
  | .ins C ns ds, v => ∃ a dx fs, v = .ref a ∧ H a = some (.ins C dx fs) ∧ fs.map (·.1) = ns ∧ RL ds (fs.map (·.2))
  | .raw w, v => v = w
def RL : List D → List V → Prop
  | [], xs => xs = []
  | d :: ds, xs => ∃ x r, xs = x :: r ∧ R d x ∧ RL ds r
end
end
section
variable {K : PySem.W.Frag} {m m' : List Addr} {H H' : Hp}
mutual
theorem R.mono (e : Ex H H') (p : ∀ (k : Nat) a, m[k]? = some a → m'[k]? = some a) : ∀ (d : D) (v : V), R K m H d v → R K m' H' d v
  | .non, _, h => h
  | .bl _, _, h => h
  | .int _, _, h => h
  | .str _, _, h => h
  | .tup ds, _, ⟨a, xs, e1, h1, h2⟩ => ⟨a, xs, e1, ex_t e h1, RL.mono e p ds xs h2⟩
  | .lst ds, _, ⟨a, xs, e1, h1, h2⟩ => ⟨a, xs, e1, e a _ h1, RL.mono e p ds xs h2⟩
  | .fl ds, _, ⟨a, xs, e1, h1, h2⟩ => ⟨a, xs, e1, ex_l e h1, RL.mono e p ds xs h2⟩
  | .cell k, _, ⟨a, h1, h2⟩ => ⟨a, p k a h1, h2⟩
  | .ins _ _ ds, _, ⟨a, dx, fs, e1, h1, h2, h3⟩ => ⟨a, dx, fs, e1, e a _ h1, h2, RL.mono e p ds _ h3⟩
  | .raw _, _, h => h
theorem RL.mono (e : Ex H H') (p : ∀ (k : Nat) a, m[k]? = some a → m'[k]? = some a) : ∀ (ds : List D) (xs : List V), RL K m H ds xs → RL K m' H' ds xs
  | [], _, h => h
  | d :: ds, _, ⟨x, r, e1, h1, h2⟩ => ⟨x, r, e1, R.mono e p d x h1, RL.mono e p ds r h2⟩
end
theorem RL.length : ∀ {ds : List D} {xs : List V}, RL K m H ds xs → ds.length = xs.length
  | [], _, h => by cases (show _ = [] from h); rfl
  | d :: ds, _, ⟨x, r, e1, h1, h2⟩ => by subst e1; simp [RL.length h2]
theorem RL.get : ∀ {ds : List D} {xs : List V} {i : Nat} {d : D}, RL K m H ds xs → ds[i]? = some d → ∃ x, xs[i]? = some x ∧ R K m H d x
  | [], _, _, _, _, e => by simp at e
  | d :: ds, _, 0, _, ⟨x, r, e1, h1, h2⟩, e => by subst e1; simp at e; subst e; exact ⟨x, rfl, h1⟩
  | d :: ds, _, i + 1, _, ⟨x, r, e1, h1, h2⟩, e => by
    subst e1
    obtain ⟨y, h3, h4⟩ := RL.get (i := i) h2 (by simpa using e)
    exact ⟨y, by simpa using h3, h4⟩
theorem RL.append : ∀ {ds es : List D} {xs ys : List V}, RL K m H ds xs → RL K m H es ys → RL K m H (ds ++ es) (xs ++ ys)
  | [], _, _, _, h, h' => by cases (show _ = [] from h); exact h'
  | d :: ds, _, _, _, ⟨x, r, e1, h1, h2⟩, h' => by subst e1; exact ⟨x, r ++ _, rfl, h1, RL.append h2 h'⟩
theorem RL.take : ∀ {ds : List D} {xs : List V} (n : Nat), RL K m H ds xs → RL K m H (ds.take n) (xs.take n)
  | [], _, n, h => by cases (show _ = [] from h); simp; exact rfl
  | d :: ds, _, 0, ⟨x, r, e1, h1, h2⟩ => by subst e1; exact rfl
  | d :: ds, _, n + 1, ⟨x, r, e1, h1, h2⟩ => by subst e1; exact ⟨x, r.take n, rfl, h1, RL.take n h2⟩
theorem RL.drop : ∀ {ds : List D} {xs : List V} (n : Nat), RL K m H ds xs → RL K m H (ds.drop n) (xs.drop n)
  | [], _, n, h => by cases (show _ = [] from h); simp; exact rfl
  | d :: ds, _, 0, h => h
  | d :: ds, _, n + 1, ⟨x, r, e1, h1, h2⟩ => by subst e1; exact RL.drop n h2
theorem RL.set {d : D} {x : V} (hx : R K m H d x) : ∀ {ds : List D} {xs : List V} (n : Nat), RL K m H ds xs → RL K m H (ds.set n d) (xs.set n x)
  | [], _, n, h => by cases (show _ = [] from h); exact rfl
  | d :: ds, _, 0, ⟨y, r, e1, h1, h2⟩ => by subst e1; exact ⟨x, r, rfl, hx, h2⟩
  | d :: ds, _, n + 1, ⟨y, r, e1, h1, h2⟩ => by subst e1; exact ⟨y, r.set n x, rfl, h1, RL.set hx n h2⟩
end

/-! ### the mutable objects and the slots -/
abbrev RR (K : PySem.W.Frag) (H : Hp) (m : Ad) (d : D) (v : V) : Prop := R K m.ix (hid m H) d v
abbrev RRL (K : PySem.W.Frag) (H : Hp) (m : Ad) (ds : List D) (vs : List V) : Prop := RL K m.ix (hid m H) ds vs
def CellAt (K : PySem.W.Frag) (m : Ad) (H : Hp) (a : Addr) : Cell → Prop
  | .lst ds => ∃ xs, H a = some (.lst xs) ∧ RRL K H m ds xs
  | .obj C ns ds => ∃ dx fs, H a = some (.ins C dx fs) ∧ fs.map (·.1) = ns ∧ RRL K H m ds (fs.map (·.2))
structure CR (K : PySem.W.Frag) (H : Hp) (m : Ad) (c : List Cell) : Prop where
  len : m.ix.length = c.length
  nd : m.ix.Nodup
  at_ : ∀ (k : Nat) ce, c[k]? = some ce → ∃ a, m.ix[k]? = some a ∧ CellAt K m H a ce
  hs : ∀ b ∈ m.hd, ∃ o, H b = some o
  dj : ∀ a ∈ m.ix, a ∉ m.hd
/-- the slots: none says nothing -/
abbrev Env := List (Option D)
structure SR (K : PySem.W.Frag) (σ : L2.St) (H : Hp) (m : Ad) (ρ : Env) (c : List Cell) : Prop where
  cr : CR K H m c
  len : ρ.length = σ.length
  sl : ∀ (i : Nat) d, ρ[i]? = some (some d) → ∃ v, σ[i]? = some (some v) ∧ RR K H m d v
/-- what is kept -/
structure Le (m : Ad) (H : Hp) (m' : Ad) (H' : Hp) : Prop where
  pre : ∀ (k : Nat) a, m.ix[k]? = some a → m'.ix[k]? = some a
  ex : Ex (hid m H) (hid m' H')
  hd : m'.hd = m.hd
  hk : ∀ b ∈ m.hd, H' b = H b
  fr : ∀ a ∈ m'.ix, a ∈ m.ix ∨ H a = none
  al : ∀ a, H' a = none → H a = none
theorem upd_none {H : Hp} {p a : Addr} {o : HO} (h : upd H p o a = none) : H a = none := by
  by_cases e : a = p
  · subst e; rw [upd_same] at h; cases h
  · rw [upd_ne e] at h; exact h
section
variable {K : PySem.W.Frag} {m m' m2 : Ad} {H H' H2 : Hp} {σ : L2.St} {ρ : Env} {c c' : List Cell}
theorem Le.refl (m : Ad) (H : Hp) : Le m H m H := ⟨fun _ _ h => h, Ex.refl _, rfl, fun _ _ => rfl, fun _ h => .inl h, fun _ h => h⟩
theorem Le.trans (a : Le m H m' H') (b : Le m' H' m2 H2) : Le m H m2 H2 := ⟨fun k x h => b.pre k x (a.pre k x h), a.ex.trans b.ex, b.hd.trans a.hd, fun x hx => (b.hk x (by rw [a.hd]; exact hx)).trans (a.hk x hx), fun x hx => (b.fr x hx).elim (a.fr x) fun z => .inr (a.al x z), fun x h => a.al x (b.al x h)⟩
theorem Le.r {d : D} {v : V} (a : Le m H m' H') (h : RR K H m d v) : RR K H' m' d v := R.mono a.ex a.pre d v h
theorem Le.rl {ds : List D} {vs : List V} (a : Le m H m' H') (h : RRL K H m ds vs) : RRL K H' m' ds vs := RL.mono a.ex a.pre ds vs h
theorem SR.step (s : SR K σ H m ρ c) (a : Le m H m' H') (h : CR K H' m' c') : SR K σ H' m' ρ c' :=
  ⟨h, s.len, fun i d e => let ⟨v, h1, h2⟩ := s.sl i d e; ⟨v, h1, a.r h2⟩⟩
theorem CR.some_at {k : Nat} {a : Addr} (C : CR K H m c) (h : m.ix[k]? = some a) : ∃ ce, c[k]? = some ce ∧ CellAt K m H a ce := by
  have hk : k < c.length := by rw [← C.len]; exact (List.getElem?_eq_some_iff.mp h).1
  obtain ⟨b, h1, h2⟩ := C.at_ k c[k] (List.getElem?_eq_getElem hk)
  rw [h] at h1; cases h1
  exact ⟨_, List.getElem?_eq_getElem hk, h2⟩
theorem CellAt.obj {a : Addr} {ce : Cell} (h : CellAt K m H a ce) : ∃ o, H a = some o := by
  cases ce with
  | lst ds => obtain ⟨xs, h, _⟩ := h; exact ⟨_, h⟩
  | obj C ns ds => obtain ⟨dx, fs, h, _⟩ := h; exact ⟨_, h⟩
/-- a new object, not mutable -/
theorem hid_new {p : Addr} (h : H p = none) (c1 : CR K H m c) : p ∉ m.ix ∧ p ∉ m.hd := by
  refine ⟨fun hp => ?_, fun hp => ?_⟩
  · obtain ⟨k, e⟩ := List.mem_iff_getElem?.mp hp
    obtain ⟨ce, _, h2⟩ := c1.some_at e
    obtain ⟨o, h3⟩ := h2.obj
    rw [h] at h3; cases h3
  · obtain ⟨o, h3⟩ := c1.hs p hp
    rw [h] at h3; cases h3
theorem hid_upd {p : Addr} {o : HO} (hp : p ∉ m.ix ∧ p ∉ m.hd) : hid m (upd H p o) = upd (hid m H) p o := by
  funext b
  unfold hid upd
  by_cases hb : b = p
  · subst hb; simp [hp.1, hp.2]
  · simp [hb]
theorem hid_mut {p : Addr} {o : HO} (hp : p ∈ m.ix) : hid m (upd H p o) = hid m H := by
  funext b
  unfold hid upd
  by_cases hb : b = p
  · subst hb; simp [hp]
  · simp [hb]
theorem CellAt.step {a : Addr} {ce : Cell} (l : Le m H m' H') (k : ∀ o, H a = some o → H' a = some o) (h : CellAt K m H a ce) : CellAt K m' H' a ce := by
  cases ce with
  | lst ds => obtain ⟨xs, h1, h2⟩ := h; exact ⟨xs, k _ h1, l.rl h2⟩
  | obj C ns ds => obtain ⟨dx, fs, h1, h2, h3⟩ := h; exact ⟨dx, fs, k _ h1, h2, l.rl h3⟩
theorem Le.new {p : Addr} {o : HO} (h : H p = none) (c1 : CR K H m c) : Le m H m (upd H p o) := by
  have hp := hid_new h c1
  refine ⟨fun _ _ e => e, ?_, rfl, fun b hb => upd_ne fun e => hp.2 (by rw [← e]; exact hb), fun _ h => .inl h, fun _ h => upd_none h⟩
  rw [hid_upd hp]
  exact Ex.new (by rw [hid_of hp]; exact h)
theorem CR.new {p : Addr} {o : HO} (h : H p = none) (c1 : CR K H m c) : CR K (upd H p o) m c :=
  ⟨c1.len, c1.nd, fun k ce e => let ⟨a, h1, h2⟩ := c1.at_ k ce e; ⟨a, h1, h2.step (Le.new h c1) fun o' e' => by rw [upd_ne (ne_of_none e' h)]; exact e'⟩,
    fun b hb => let ⟨o', h3⟩ := c1.hs b hb; ⟨o', by rw [upd_ne (ne_of_none h3 h)]; exact h3⟩, c1.dj⟩
theorem new_at {p : Addr} {o : HO} (h : H p = none) (c1 : CR K H m c) : hid m (upd H p o) p = some o := by
  rw [hid_of (hid_new h c1), upd_same]
end

/-! ### readings over data -/
/-- an expression: which data and which cells come out -/
abbrev TD := Env → List Cell → (D → List Cell → Prop) → Prop
abbrev TDs := Env → List Cell → (List D → List Cell → Prop) → Prop
abbrev TDt := Env → List Cell → (Bool → List Cell → Prop) → Prop
def lift (K : PySem.W.Frag) (t : TD) : TE := fun σ H Q => ∃ (m : Ad) (ρ : Env) (c : List Cell) (Φ : D → List Cell → Prop), SR K σ H m ρ c ∧ t ρ c Φ ∧
  ∀ d c' v H' m', Φ d c' → CR K H' m' c' → RR K H' m' d v → Le m H m' H' → Q v H'
def liftA (K : PySem.W.Frag) (t : TDs) : TA := fun σ H Q => ∃ (m : Ad) (ρ : Env) (c : List Cell) (Φ : List D → List Cell → Prop), SR K σ H m ρ c ∧ t ρ c Φ ∧
  ∀ ds c' vs H' m', Φ ds c' → CR K H' m' c' → RRL K H' m' ds vs → Le m H m' H' → Q vs H'
def liftT (K : PySem.W.Frag) (t : TDt) : TT := fun σ H Q => ∃ (m : Ad) (ρ : Env) (c : List Cell) (Φ : Bool → List Cell → Prop), SR K σ H m ρ c ∧ t ρ c Φ ∧
  ∀ b c' H' m', Φ b c' → CR K H' m' c' → Le m H m' H' → Q b H'
abbrev PD (X : Cx) (e : Expr) (t : TD) : Prop := PE X e (lift X.K t)
abbrev PDs (X : Cx) (es : List Expr) (t : TDs) : Prop := PA X es (liftA X.K t)
abbrev PDt (X : Cx) (e : Expr) (t : TDt) : Prop := PT X e (liftT X.K t)
theorem PE.imp {X : Cx} {e : Expr} {t t' : TE} (h : PE X e t) (i : ∀ σ H Q, t' σ H Q → t σ H Q) : PE X e t' := ⟨fun pins s σ H Q I w => h.run pins s σ H Q I (i σ H Q w)⟩
theorem PT.imp {X : Cx} {e : Expr} {t t' : TT} (h : PT X e t) (i : ∀ σ H Q, t' σ H Q → t σ H Q) : PT X e t' := ⟨fun pins s σ H Q I w => h.run pins s σ H Q I (i σ H Q w)⟩
theorem PW.imp {X : Cx} {e : Expr} {t t' : TT} (h : PW X e t) (i : ∀ σ H Q, t' σ H Q → t σ H Q) : PW X e t' := ⟨fun wh pins s σ H Q I w => h.run wh pins s σ H Q I (i σ H Q w)⟩
theorem PA.imp {X : Cx} {es : List Expr} {t t' : TA} (h : PA X es t) (i : ∀ σ H Q, t' σ H Q → t σ H Q) : PA X es t' := ⟨fun pos pins s σ H Q I w => h.run pos pins s σ H Q I (i σ H Q w)⟩
theorem PS.imp {X : Cx} {st : Stmt} {t t' : TS} (h : PS X st t) (i : ∀ D σ H, t' D σ H → t D σ H) : PS X st t' := ⟨fun pins s σ H D I w => h.run pins s σ H D I (i D σ H w)⟩
theorem PSs.imp {X : Cx} {st : List Stmt} {t t' : TS} (h : PSs X st t) (i : ∀ D σ H, t' D σ H → t D σ H) : PSs X st t' := ⟨fun pins s σ H D I w => h.run pins s σ H D I (i D σ H w)⟩
end Cw

namespace Cw
open PySem PySem.Spec PyProof.Rows L2

/-! ### a mutable object as what it holds now -/
def vw (c : List Cell) : D → D
  | .cell k => match c[k]? with
    | some (.lst ds) => .lst ds
    | some (.obj C ns ds) => .ins C ns ds
    | none => .cell k
  | d => d
def W (K : PySem.W.Frag) (H : Hp) (m : Ad) : D → V → Prop
  | .lst ds, v => ∃ a xs, v = .ref a ∧ H a = some (.lst xs) ∧ RRL K H m ds xs
  | .ins C ns ds, v => ∃ a dx fs, v = .ref a ∧ H a = some (.ins C dx fs) ∧ fs.map (·.1) = ns ∧ RRL K H m ds (fs.map (·.2))
  | d, v => RR K H m d v
section
variable {K : PySem.W.Frag} {m : Ad} {H : Hp} {c : List Cell}
theorem W.of : ∀ {d : D} {v : V}, RR K H m d v → W K H m d v
  | .non, _, h => h
  | .bl _, _, h => h
  | .int _, _, h => h
  | .str _, _, h => h
  | .tup _, _, h => h
  | .lst _, _, ⟨a, xs, e1, h1, h2⟩ => ⟨a, xs, e1, ex_hid m H a _ h1, h2⟩
  | .fl _, _, h => h
  | .cell _, _, h => h
  | .ins _ _ _, _, ⟨a, dx, fs, e1, h1, h2, h3⟩ => ⟨a, dx, fs, e1, ex_hid m H a _ h1, h2, h3⟩
  | .raw _, _, h => h
theorem W.vw (C : CR K H m c) {d : D} {v : V} (h : RR K H m d v) : W K H m (vw c d) v := by
  cases d with
  | cell k =>
    obtain ⟨a, h1, h2⟩ := h
    cases e : c[k]? with
    | none =>
      have z : Cw.vw c (.cell k) = .cell k := by simp [Cw.vw, e]
      rw [z]; exact ⟨a, h1, h2⟩
    | some ce =>
      obtain ⟨b, h3, h4⟩ := C.at_ k ce e
      rw [h1] at h3; cases h3
      cases ce with
      | lst ds =>
        have z : Cw.vw c (.cell k) = .lst ds := by simp [Cw.vw, e]
        rw [z]
        obtain ⟨xs, h5, h6⟩ := h4; exact ⟨a, xs, h2, h5, h6⟩
      | obj C ns ds =>
        have z : Cw.vw c (.cell k) = .ins C ns ds := by simp [Cw.vw, e]
        rw [z]
        obtain ⟨dx, fs, h5, h6, h7⟩ := h4; exact ⟨a, dx, fs, h2, h5, h6, h7⟩
  | _ => exact W.of h
end

/-! ### operators -/
abbrev F2 := D → D → List Cell → (D → List Cell → Prop) → Prop
abbrev F1 := D → List Cell → (D → List Cell → Prop) → Prop
abbrev Fs := List D → List Cell → (D → List Cell → Prop) → Prop
abbrev KQ (K : PySem.W.Frag) (H : Hp) (m : Ad) (Φ : D → List Cell → Prop) (Q : VK) : Prop :=
  ∀ d c' w H' m', Φ d c' → CR K H' m' c' → RR K H' m' d w → Le m H m' H' → Q w H'
/-- r does on values what f does on data -/
def L2f (K : PySem.W.Frag) (f : F2) (r : R2) : Prop := ∀ x y c Φ, f x y c Φ → ∀ H m u v, CR K H m c → W K H m x u → W K H m y v → ∀ Q, KQ K H m Φ Q → r u v H Q
def L1f (K : PySem.W.Frag) (f : F1) (r : V → Hp → VK → Prop) : Prop := ∀ x c Φ, f x c Φ → ∀ H m u, CR K H m c → W K H m x u → ∀ Q, KQ K H m Φ Q → r u H Q
def Lsf (K : PySem.W.Frag) (f : Fs) (r : List V → Hp → VK → Prop) : Prop := ∀ xs c Φ, f xs c Φ → ∀ H m us, CR K H m c → Paired (W K H m) xs us → ∀ Q, KQ K H m Φ Q → r us H Q
def dBin (f : F2) (ta tb : TD) : TD := fun ρ c Φ => ta ρ c fun x c1 => tb ρ c1 fun y c2 => f (vw c2 x) (vw c2 y) c2 Φ
def dUn (f : F1) (ta : TD) : TD := fun ρ c Φ => ta ρ c fun x c1 => f (vw c1 x) c1 Φ
def dCB (f : Fs) (ta : TDs) : TD := fun ρ c Φ => ta ρ c fun xs c1 => f (xs.map (vw c1)) c1 Φ
section
variable {K : PySem.W.Frag} {f : F2} {f1 : F1} {fs : Fs} {r : R2} {ta tb : TD} {tas : TDs} {σ : L2.St} {H : Hp} {Q : VK}
theorem lift_bin (l : L2f K f r) (h : lift K (dBin f ta tb) σ H Q) : tOp r (lift K ta) (lift K tb) σ H Q := by
  obtain ⟨m, ρ, c, Φ, S, h, q⟩ := h
  exact ⟨m, ρ, c, _, S, h, fun x c1 u H1 m1 hx C1 R1 L1 => ⟨m1, ρ, c1, _, S.step L1 C1, hx, fun y c2 v H2 m2 hy C2 R2 L2 =>
    l _ _ c2 Φ hy H2 m2 u v C2 (W.vw C2 (L2.r R1)) (W.vw C2 R2) Q fun d c' w H' m' hd C' R' L' => q d c' w H' m' hd C' R' (L1.trans (L2.trans L'))⟩⟩
theorem lift_un {r : V → Hp → VK → Prop} (l : L1f K f1 r) (h : lift K (dUn f1 ta) σ H Q) : tUn r (lift K ta) σ H Q := by
  obtain ⟨m, ρ, c, Φ, S, h, q⟩ := h
  exact ⟨m, ρ, c, _, S, h, fun x c1 u H1 m1 hx C1 R1 L1 => l _ c1 Φ hx H1 m1 u C1 (W.vw C1 R1) Q fun d c' w H' m' hd C' R' L' => q d c' w H' m' hd C' R' (L1.trans L')⟩
theorem paired_vw {m : Ad} {c : List Cell} (C : CR K H m c) : ∀ {ds : List D} {vs : List V}, RRL K H m ds vs → Paired (W K H m) (ds.map (vw c)) vs
  | [], _, h => by cases (show _ = [] from h); exact .nil
  | d :: ds, _, ⟨x, r, e1, h1, h2⟩ => by subst e1; exact .cons (W.vw C h1) (paired_vw C h2)
theorem lift_cb {r : List V → Hp → VK → Prop} (l : Lsf K fs r) (h : lift K (dCB fs tas) σ H Q) : tCB r (liftA K tas) σ H Q := by
  obtain ⟨m, ρ, c, Φ, S, h, q⟩ := h
  exact ⟨m, ρ, c, _, S, h, fun x c1 u H1 m1 hx C1 R1 L1 => l _ c1 Φ hx H1 m1 u C1 (paired_vw C1 R1) Q fun d c' w H' m' hd C' R' L' => q d c' w H' m' hd C' R' (L1.trans L')⟩
end

/-! ### names, constants -/
def dVar (i : Nat) : TD := fun ρ c Φ => match ρ[i]? with
  | some (some d) => Φ d c
  | _ => False
def dC (d : D) : TD := fun _ c Φ => Φ d c
section
variable {X : Cx} {e a b : Expr} {es : List Expr} {ta tb : TD} {tas : TDs} {pos : Pos}
theorem pd_pv {i : Nat} (h : PE X e (tVar i)) : PD X e (dVar i) := PE.imp h fun σ H Q ⟨m, ρ, c, Φ, S, h, q⟩ => by
  unfold dVar at h
  cases e1 : ρ[i]? with
  | none => rw [e1] at h; exact h.elim
  | some o =>
    cases o with
    | none => rw [e1] at h; exact h.elim
    | some d =>
      rw [e1] at h
      obtain ⟨v, h1, h2⟩ := S.sl i d e1
      exact ⟨v, h1, q d c v H m h S.cr h2 (Le.refl _ _)⟩
theorem pd_c {v : V} {d : D} (h : PE X e (tC v)) (r : ∀ m H, R X.K m H d v) : PD X e (dC d) := PE.imp h fun σ H Q ⟨m, ρ, c, Φ, S, h, q⟩ => q d c v H m h S.cr (r _ _) (Le.refl _ _)
theorem pd_v (i : Nat) {x : Str} (hN : X.N[i]? = some x := by rfl) (hv : Vis X.env.scope x := by first | exact Or.inl rfl | exact Or.inr (Or.inl rfl) | exact Or.inr (Or.inr rfl)) (hd : (x == ("__debug__" : Str)) = false := by decide)
    (hcd : (x == ("__classdict__" : Str)) = false := by decide) : PD X (.Name x pos) (dVar i) := pd_pv (pe_var hN hv hd hcd)
theorem pd_int {i j} : PD X (.Constant (.int i) j pos) (dC (.int i)) := pd_c pe_int fun _ _ => rfl
theorem pd_bl {b j} : PD X (.Constant (.bool b) j pos) (dC (.bl b)) := pd_c pe_bl fun _ _ => rfl
theorem pd_non {j} : PD X (.Constant .none j pos) (dC .non) := pd_c pe_non fun _ _ => rfl
theorem pd_str {x j} : PD X (.Constant (.str x) j pos) (dC (.str x)) := pd_c pe_str fun _ _ => rfl

/-! ### arguments, displays -/
def dNil : TDs := fun _ c Φ => Φ [] c
def dCons (ta : TD) (tr : TDs) : TDs := fun ρ c Φ => ta ρ c fun x c1 => tr ρ c1 fun xs c2 => Φ (x :: xs) c2
theorem pds_nil : PDs X [] dNil := PA.imp pa_nil fun σ H Q ⟨m, ρ, c, Φ, S, h, q⟩ => q [] c [] H m h S.cr rfl (Le.refl _ _)
theorem pds_cons (h1 : PD X e ta) (h2 : PDs X es tas) (hs : starEach (e :: es) X.env = (false, eval e X.env) :: starEach es X.env := by rfl) : PDs X (e :: es) (dCons ta tas) :=
  PA.imp (pa_cons h1 h2 hs) fun σ H Q ⟨m, ρ, c, Φ, S, h, q⟩ => ⟨m, ρ, c, _, S, h, fun x c1 u H1 m1 hx C1 R1 L1 => ⟨m1, ρ, c1, _, S.step L1 C1, hx, fun xs c2 us H2 m2 hy C2 R2 L2 =>
    q (x :: xs) c2 (u :: us) H2 m2 hy C2 ⟨u, us, rfl, L2.r R1, R2⟩ (L1.trans L2)⟩⟩
def dTup (t : TDs) : TD := fun ρ c Φ => t ρ c fun xs c1 => xs.length ≤ sizeLine ∧ Φ (.tup xs) c1
def dLst (t : TDs) : TD := fun ρ c Φ => t ρ c fun xs c1 => xs.length ≤ sizeLine ∧ Φ (.lst xs) c1
theorem RR.newT {m : Ad} {H : Hp} {c : List Cell} {p : Addr} {xs : List D} {us : List V} (C1 : CR X.K H m c) (hp : H p = none) (r : RRL X.K H m xs us) : RR X.K (upd H p (.tup us)) m (.tup xs) (.ref p) :=
  ⟨p, us, rfl, .inl (.inl (new_at hp C1)), (Le.new hp C1).rl r⟩
theorem RR.newL {m : Ad} {H : Hp} {c : List Cell} {p : Addr} {xs : List D} {us : List V} (C1 : CR X.K H m c) (hp : H p = none) (r : RRL X.K H m xs us) : RR X.K (upd H p (.lst us)) m (.lst xs) (.ref p) :=
  ⟨p, us, rfl, new_at hp C1, (Le.new hp C1).rl r⟩
theorem pd_tup {x1} (h : PDs X es tas) : PD X (.Tuple es x1 pos) (dTup tas) := PE.imp (pe_tup h) fun σ H Q ⟨m, ρ, c, Φ, S, h, q⟩ =>
  ⟨m, ρ, c, _, S, h, fun xs c1 us H1 m1 ⟨hl, hx⟩ C1 R1 L1 => ⟨by rw [← RL.length R1]; exact hl, fun p hp => q _ c1 _ _ m1 hx (C1.new hp) (RR.newT C1 hp R1) (L1.trans (Le.new hp C1))⟩⟩
theorem pd_lst (h : PDs X es tas) : PD X (.List es pos) (dLst tas) := PE.imp (pe_lst h) fun σ H Q ⟨m, ρ, c, Φ, S, h, q⟩ =>
  ⟨m, ρ, c, _, S, h, fun xs c1 us H1 m1 ⟨hl, hx⟩ C1 R1 L1 => ⟨by rw [← RL.length R1]; exact hl, fun p hp => q _ c1 _ _ m1 hx (C1.new hp) (RR.newL C1 hp R1) (L1.trans (Le.new hp C1))⟩⟩
/-- a list that will be changed: a new cell -/
def dLstM (t : TDs) : TD := fun ρ c Φ => t ρ c fun xs c1 => xs.length ≤ sizeLine ∧ Φ (.cell c1.length) (c1 ++ [.lst xs])
def Ad.push (m : Ad) (p : Addr) : Ad := ⟨m.ix ++ [p], m.hd⟩
theorem push_pre {m : Ad} {p : Addr} (k : Nat) (a : Addr) (e : m.ix[k]? = some a) : (m.push p).ix[k]? = some a := by
  show (m.ix ++ [p])[k]? = some a
  rw [List.getElem?_append_left (List.getElem?_eq_some_iff.mp e).1]; exact e
theorem hid_app {m : Ad} {H : Hp} {p : Addr} {o : HO} (hp : H p = none) : hid (m.push p) (upd H p o) = hid m H := by
  funext b
  unfold hid upd Ad.push
  by_cases hb : b = p
  · subst hb; simp [hp]
  · simp [hb]
theorem cell_new {K : PySem.W.Frag} {m : Ad} {H : Hp} {c : List Cell} {p : Addr} {o : HO} {ce : Cell} (C1 : CR K H m c) (hp : H p = none)
    (hc : CellAt K (m.push p) (upd H p o) p ce) : CR K (upd H p o) (m.push p) (c ++ [ce]) ∧ Le m H (m.push p) (upd H p o) ∧ RR K (upd H p o) (m.push p) (.cell c.length) (.ref p) := by
  have hn := hid_new hp C1
  have l : Le m H (m.push p) (upd H p o) := ⟨push_pre, by rw [hid_app hp]; exact Ex.refl _, rfl, fun b hb => upd_ne fun e => hn.2 (by rw [← e]; exact hb), fun a ha => (List.mem_append.mp (show a ∈ m.ix ++ [p] from ha)).elim .inl fun z => .inr (by
    have : a = p := by simpa using z
    subst this; exact hp), fun _ h => upd_none h⟩
  have last : (m.push p).ix[c.length]? = some p := by
    show (m.ix ++ [p])[c.length]? = some p
    rw [← C1.len]; simp
  refine ⟨⟨by simp [Ad.push, C1.len], ?_, fun k ce' e => ?_, fun b hb => ?_, fun a ha => ?_⟩, l, p, last, rfl⟩
  · show (m.ix ++ [p]).Nodup
    rw [List.nodup_append]
    refine ⟨C1.nd, by simp, fun a ha b hb e => ?_⟩
    have : b = p := by simpa using hb
    subst this; subst e
    exact hn.1 ha
  · by_cases hk : k < c.length
    · rw [List.getElem?_append_left hk] at e
      obtain ⟨a, h1, h2⟩ := C1.at_ k ce' e
      refine ⟨a, push_pre k a h1, h2.step l fun o' e' => ?_⟩
      rw [upd_ne (ne_of_none e' hp)]; exact e'
    · have hk' : k = c.length := by
        have := (List.getElem?_eq_some_iff.mp e).1
        simp at this; omega
      subst hk'
      simp at e; subst e
      exact ⟨p, last, hc⟩
  · obtain ⟨o', h3⟩ := C1.hs b hb
    exact ⟨o', by rw [upd_ne (ne_of_none h3 hp)]; exact h3⟩
  · rcases List.mem_append.mp (show a ∈ m.ix ++ [p] from ha) with z | z
    · exact C1.dj a z
    · have : a = p := by simpa using z
      subst this
      exact hn.2
theorem pd_lstM (h : PDs X es tas) : PD X (.List es pos) (dLstM tas) := PE.imp (pe_lst h) fun σ H Q ⟨m, ρ, c, Φ, S, h, q⟩ =>
  ⟨m, ρ, c, _, S, h, fun xs c1 us H1 m1 ⟨hl, hx⟩ C1 R1 L1 => ⟨by rw [← RL.length R1]; exact hl, fun p hp => by
    have z := cell_new (ce := .lst xs) (o := .lst us) C1 hp ⟨us, upd_same, by
      show RL _ _ (hid (m1.push p) _) _ _
      rw [hid_app hp]; exact RL.mono (Ex.refl _) push_pre _ _ R1⟩
    exact q _ _ _ _ _ hx z.1 z.2.2 (L1.trans z.2.1)⟩⟩
end
end Cw

namespace Cw
open PySem PySem.Spec PyProof.Rows L2

/-! ### data to the library's plain data -/
mutual
def D.py : D → Option PyData
  | .non => some .none
  | .bl b => some (.bool b)
  | .int i => some (.int i)
  | .str x => some (.str x)
  | .tup ds => (D.pys ds).map .tuple
  | .lst ds => (D.pys ds).map .list
  | .fl ds => (D.pys ds).map .list
  | .cell _ => none
  | .ins _ _ _ => none
  | .raw _ => none
def D.pys : List D → Option (List PyData)
  | [] => some []
  | d :: ds => match D.py d, D.pys ds with
    | some p, some ps => some (p :: ps)
    | _, _ => none
end
section
variable {K : PySem.W.Frag} {m : List Addr} {H : Hp}
mutual
theorem R.dp : ∀ (d : D) (v : V) (p : PyData), R K m H d v → D.py d = some p → Dp K H v p
  | .non, _, _, h, e => by cases e; cases (show _ = V.non from h); exact .non
  | .bl b, _, _, h, e => by cases e; cases (show _ = V.bl b from h); exact .bl b
  | .int i, _, _, h, e => by cases e; cases (show _ = V.int i from h); exact .int i
  | .str x, _, _, h, e => by cases e; cases (show _ = V.str x from h); exact .str x
  | .tup ds, _, p, ⟨a, xs, e1, h1, h2⟩, e => by
    subst e1
    rw [show D.py (.tup ds) = (D.pys ds).map .tuple by rw [D.py]] at e
    cases e2 : D.pys ds with
    | none => rw [e2] at e; cases e
    | some ps => rw [e2] at e; cases e; exact .tup h1 (RL.dp ds xs ps h2 e2)
  | .lst ds, _, p, ⟨a, xs, e1, h1, h2⟩, e => by
    subst e1
    rw [show D.py (.lst ds) = (D.pys ds).map .list by rw [D.py]] at e
    cases e2 : D.pys ds with
    | none => rw [e2] at e; cases e
    | some ps => rw [e2] at e; cases e; exact .lst (SqL.of h1) (RL.dp ds xs ps h2 e2)
  | .fl ds, _, p, ⟨a, xs, e1, h1, h2⟩, e => by
    subst e1
    rw [show D.py (.fl ds) = (D.pys ds).map .list by rw [D.py]] at e
    cases e2 : D.pys ds with
    | none => rw [e2] at e; cases e
    | some ps => rw [e2] at e; cases e; exact .lst h1 (RL.dp ds xs ps h2 e2)
  | .cell _, _, _, _, e => by rw [D.py] at e; cases e
  | .ins _ _ _, _, _, _, e => by rw [D.py] at e; cases e
  | .raw _, _, _, _, e => by rw [D.py] at e; cases e
theorem RL.dp : ∀ (ds : List D) (vs : List V) (ps : List PyData), RL K m H ds vs → D.pys ds = some ps → DpAll K H vs ps
  | [], _, _, h, e => by cases (show _ = [] from h); rw [D.pys] at e; cases e; exact .nil
  | d :: ds, _, ps, ⟨x, r, e1, h1, h2⟩, e => by
    subst e1
    rw [D.pys] at e
    cases e2 : D.py d with
    | none => rw [e2] at e; cases e
    | some p =>
      cases e3 : D.pys ds with
      | none => rw [e2, e3] at e; cases e
      | some qs => rw [e2, e3] at e; cases e; exact .cons (R.dp d x p h1 e2) (RL.dp ds r qs h2 e3)
end
theorem DpAll.mono' {H H' : Hp} (e : Ex H H') : ∀ {v : V} {d : PyData}, Dp K H v d → Dp K H' v d := by
  intro v d h
  refine Dp.rec (motive_1 := fun v d _ => Dp K H' v d) (motive_2 := fun vs ds _ => DpAll K H' vs ds) .non .bl .int .str (fun h1 _ i => .lst (ex_l e h1) i) (fun h1 _ i => .tup (ex_t e h1) i) .nil (fun _ _ i1 i2 => .cons i1 i2) h
theorem DpAll.mono2 {H H' : Hp} (e : Ex H H') : ∀ {vs : List V} {ds : List PyData}, DpAll K H vs ds → DpAll K H' vs ds
  | _, _, .nil => .nil
  | _, _, .cons h1 h2 => .cons (DpAll.mono' e h1) (DpAll.mono2 e h2)
end
section
variable {K : PySem.W.Frag} {m : Ad} {H : Hp}
theorem W.dp : ∀ {d : D} {v : V} {p : PyData}, W K H m d v → D.py d = some p → Dp K H v p
  | .non, _, _, h, e => DpAll.mono' (ex_hid m H) (R.dp (m := m.ix) .non _ _ h e)
  | .bl b, _, _, h, e => DpAll.mono' (ex_hid m H) (R.dp (m := m.ix) (.bl b) _ _ h e)
  | .int i, _, _, h, e => DpAll.mono' (ex_hid m H) (R.dp (m := m.ix) (.int i) _ _ h e)
  | .str x, _, _, h, e => DpAll.mono' (ex_hid m H) (R.dp (m := m.ix) (.str x) _ _ h e)
  | .tup ds, _, _, h, e => DpAll.mono' (ex_hid m H) (R.dp (m := m.ix) (.tup ds) _ _ h e)
  | .fl ds, _, _, h, e => DpAll.mono' (ex_hid m H) (R.dp (m := m.ix) (.fl ds) _ _ h e)
  | .lst ds, _, p, ⟨a, xs, e1, h1, h2⟩, e => by
    subst e1
    rw [show D.py (.lst ds) = (D.pys ds).map .list by rw [D.py]] at e
    cases e2 : D.pys ds with
    | none => rw [e2] at e; cases e
    | some ps => rw [e2] at e; cases e; exact .lst (SqL.of h1) (DpAll.mono2 (ex_hid m H) (RL.dp ds xs ps h2 e2))
  | .cell _, _, _, _, e => by rw [D.py] at e; cases e
  | .ins _ _ _, _, _, _, e => by rw [D.py] at e; cases e
  | .raw _, _, _, _, e => by rw [D.py] at e; cases e
theorem W.list {ds : List D} {v : V} (h : W K H m (.lst ds) v ∨ W K H m (.fl ds) v) : ∃ a xs, v = .ref a ∧ SqL K H a xs ∧ RRL K H m ds xs := by
  rcases h with ⟨a, xs, e, h1, h2⟩ | ⟨a, xs, e, h1, h2⟩
  · exact ⟨a, xs, e, SqL.of h1, h2⟩
  · exact ⟨a, xs, e, ex_l (ex_hid m H) h1, h2⟩
end

/-- the same data, the same heap -/
theorem KQ.pure {K : PySem.W.Frag} {H : Hp} {m : Ad} {c : List Cell} {Φ : D → List Cell → Prop} {Q : VK} {d : D} {w : V} (k : KQ K H m Φ Q) (C : CR K H m c) (h : Φ d c) (r : RR K H m d w) : Q w H := k d c w H m h C r (Le.refl _ _)
theorem KQ.newT {X : Cx} {H : Hp} {m : Ad} {c : List Cell} {Φ : D → List Cell → Prop} {Q : VK} {ds : List D} {ws : List V} (k : KQ X.K H m Φ Q) (C : CR X.K H m c) (h : Φ (.tup ds) c) (r : RRL X.K H m ds ws) {p : Addr} (hp : H p = none) : Q (.ref p) (upd H p (.tup ws)) :=
  k _ c _ _ m h (C.new hp) (RR.newT (X := X) C hp r) (Le.new hp C)
theorem KQ.newL {X : Cx} {H : Hp} {m : Ad} {c : List Cell} {Φ : D → List Cell → Prop} {Q : VK} {ds : List D} {ws : List V} (k : KQ X.K H m Φ Q) (C : CR X.K H m c) (h : Φ (.lst ds) c) (r : RRL X.K H m ds ws) {p : Addr} (hp : H p = none) : Q (.ref p) (upd H p (.lst ws)) :=
  k _ c _ _ m h (C.new hp) (RR.newL (X := X) C hp r) (Le.new hp C)

/-! ### + - * // % -/
def fAdd : F2
  | .int i, .int j, c, Φ => Φ (.int (i + j)) c
  | .str x, .str y, c, Φ => x.length + y.length ≤ sizeLine ∧ Φ (.str (x ++ y)) c
  | .lst xs, .lst ys, c, Φ => xs.length + ys.length ≤ sizeLine ∧ Φ (.lst (xs ++ ys)) c
  | .tup xs, .tup ys, c, Φ => xs.length + ys.length ≤ sizeLine ∧ Φ (.tup (xs ++ ys)) c
  | _, _, _, _ => False
def fSub : F2
  | .int i, .int j, c, Φ => Φ (.int (i - j)) c
  | _, _, _, _ => False
def fMul : F2
  | .int i, .int j, c, Φ => ((-(2 ^ 64) < i ∧ i < 2 ^ 64) ∨ (-(2 ^ 64) < j ∧ j < 2 ^ 64)) ∧ Φ (.int (i * j)) c
  | _, _, _, _ => False
def fDiv : F2
  | .int i, .int j, c, Φ => (0 < j ∧ j < 1073741824) ∧ Φ (.int (i / j)) c
  | _, _, _, _ => False
def fMod : F2
  | .int i, .int j, c, Φ => 0 < j ∧ Φ (.int (i % j)) c
  | _, _, _, _ => False
def fPow : F2
  | .int i, .int j, c, Φ => (0 ≤ j ∧ j ≤ 1000000 ∧ i.natAbs < 2 ^ 64) ∧ Φ (.int (i ^ j.toNat)) c
  | _, _, _, _ => False
section
variable {X : Cx} {a b : Expr} {ta tb : TD} {pos : Pos}
/-- a rule over two ints -/
theorem int2 {K : PySem.W.Frag} {C : Int → Int → Prop} {g : Int → Int → Int} {f : F2} (h1 : ∀ i j c Φ, f (.int i) (.int j) c Φ → C i j ∧ Φ (.int (g i j)) c) (h2 : ∀ x y c Φ, f x y c Φ → ∃ i j, x = .int i ∧ y = .int j) : L2f K f (rI C fun i j => .int (g i j)) := by
  intro x y c Φ h H m u v Cc r1 r2 Q k
  obtain ⟨i, j, rfl, rfl⟩ := h2 x y c Φ h
  cases (show _ = V.int i from r1); cases (show _ = V.int j from r2)
  obtain ⟨hc, hq⟩ := h1 i j c Φ h
  exact ⟨i, j, rfl, rfl, hc, k.pure Cc hq rfl⟩
theorem pd_sub (ha : PD X a ta) (hb : PD X b tb) : PD X (.BinOp a .Sub b pos) (dBin fSub ta tb) := PE.imp (pe_op op_sub ha hb) fun σ H Q h => lift_bin (by
  intro x y c Φ h H m u v Cc r1 r2 Q k
  cases x <;> cases y <;> first | exact h.elim | skip
  cases r1; cases r2
  exact ⟨_, _, rfl, rfl, k.pure Cc h rfl⟩) h
theorem pd_mul (ha : PD X a ta) (hb : PD X b tb) : PD X (.BinOp a .Mult b pos) (dBin fMul ta tb) := PE.imp (pe_op op_mul ha hb) fun σ H Q h => lift_bin (by
  intro x y c Φ h H m u v Cc r1 r2 Q k
  cases x <;> cases y <;> first | exact h.elim | skip
  cases r1; cases r2
  exact ⟨_, _, rfl, rfl, h.1, k.pure Cc h.2 rfl⟩) h
theorem pd_div (ha : PD X a ta) (hb : PD X b tb) : PD X (.BinOp a .FloorDiv b pos) (dBin fDiv ta tb) := PE.imp (pe_op op_fdiv ha hb) fun σ H Q h => lift_bin (by
  intro x y c Φ h H m u v Cc r1 r2 Q k
  cases x <;> cases y <;> first | exact h.elim | skip
  cases r1; cases r2
  exact ⟨_, _, rfl, rfl, h.1, k.pure Cc h.2 rfl⟩) h
theorem pd_mod (ha : PD X a ta) (hb : PD X b tb) : PD X (.BinOp a .Mod b pos) (dBin fMod ta tb) := PE.imp (pe_op op_mod ha hb) fun σ H Q h => lift_bin (by
  intro x y c Φ h H m u v Cc r1 r2 Q k
  cases x <;> cases y <;> first | exact h.elim | skip
  cases r1; cases r2
  exact ⟨_, _, rfl, rfl, h.1, k.pure Cc h.2 rfl⟩) h
theorem pd_pow (ha : PD X a ta) (hb : PD X b tb) : PD X (.BinOp a .Pow b pos) (dBin fPow ta tb) := PE.imp (pe_op op_pow ha hb) fun σ H Q h => lift_bin (by
  intro x y c Φ h H m u v Cc r1 r2 Q k
  cases x <;> cases y <;> first | exact h.elim | skip
  cases r1; cases r2
  exact ⟨_, _, rfl, rfl, h.1, k.pure Cc h.2 rfl⟩) h
theorem rlen {K : PySem.W.Frag} {m : List Addr} {H : Hp} {ds : List D} {xs : List V} (h : RL K m H ds xs) : xs.length = ds.length := (RL.length h).symm
theorem pd_add (ha : PD X a ta) (hb : PD X b tb) : PD X (.BinOp a .Add b pos) (dBin fAdd ta tb) :=
  PE.imp (pe_op (op_add.or (op_add_str.or (op_cat.or op_catA))) ha hb) fun σ H Q h => lift_bin (by
  intro x y c Φ h H m u v Cc r1 r2 Q k
  cases x <;> cases y <;> first | exact h.elim | skip
  · cases r1; cases r2
    exact .inl ⟨_, _, rfl, rfl, k.pure Cc h rfl⟩
  · cases r1; cases r2
    exact .inr (.inl ⟨_, _, rfl, rfl, h.1, k.pure Cc h.2 rfl⟩)
  · rename_i xs ys
    obtain ⟨p, us, rfl, hp, ru⟩ := r1
    obtain ⟨q, ws, rfl, hq, rw'⟩ := r2
    refine .inr (.inr (.inr ⟨p, q, us, ws, rfl, rfl, ex_t (ex_hid m H) hp, ex_t (ex_hid m H) hq, by rw [rlen ru, rlen rw']; exact h.1, fun e => ?_, fun _ e => ?_, fun _ _ t ht => ?_⟩))
    · subst e
      have : xs = [] := by cases xs with | nil => rfl | cons d ds => obtain ⟨_, _, z, _⟩ := ru; cases z
      subst this
      exact k.pure Cc h.2 ⟨q, ws, rfl, hq, rw'⟩
    · subst e
      have : ys = [] := by cases ys with | nil => rfl | cons d ds => obtain ⟨_, _, z, _⟩ := rw'; cases z
      subst this
      have h3 := h.2
      rw [List.append_nil] at h3
      exact k.pure Cc h3 ⟨p, us, rfl, hp, ru⟩
    · exact KQ.newT (X := X) k Cc h.2 (RL.append ru rw') ht
  · obtain ⟨p, us, rfl, hp, ru⟩ := r1
    obtain ⟨q, ws, rfl, hq, rw'⟩ := r2
    exact .inr (.inr (.inl ⟨p, q, us, ws, rfl, rfl, hp, hq, by rw [rlen ru, rlen rw']; exact h.1, fun t ht => KQ.newL (X := X) k Cc h.2 (RL.append ru rw') ht⟩))) h
end
end Cw

namespace Cw
open PySem PySem.Spec PyProof.Rows L2

/-! ### == != < <= > >= in is -/
def fEq (neg : Bool) : F2
  | .int i, .int j, c, Φ => Φ (.bl (if neg then !decide (i = j) else decide (i = j))) c
  | .str x, .str y, c, Φ => Φ (.bl (if neg then !decide (x = y) else decide (x = y))) c
  | .bl x, .bl y, c, Φ => Φ (.bl (if neg then !decide (x = y) else decide (x = y))) c
  | x, y, c, Φ => ∃ p q, D.py x = some p ∧ D.py y = some q ∧ SeqAt.shaped p = true ∧ SeqAt.shaped q = true ∧ Φ (.bl (if neg then !PyData.eqv p q else PyData.eqv p q)) c
def fCmp (g : Int → Int → Bool) : F2
  | .int i, .int j, c, Φ => Φ (.bl (g i j)) c
  | _, _, _, _ => False
/-- one text in another -/
def inS (x y : Str) : Bool := match x.cps.toList with
  | [k] => decide (k ∈ y.cps.toList)
  | _ => !(Builtin.Str.occurrences y x 0 y.length 1).isEmpty
theorem inS_eq (x y : Str) : inS x y = !(Builtin.Str.occurrences y x 0 y.length 1).isEmpty := by
  unfold inS
  split
  · rename_i k e
    have hx : x = ⟨#[k]⟩ := by
      cases x with | mk cps => cases cps with | mk l => cases (show l = [k] from e); rfl
    subst hx
    exact (PySem.StrLaws.found_one y k).symm
  · rfl
def seqOf : D → Option (List D)
  | .lst ds => some ds
  | .fl ds => some ds
  | .tup ds => some ds
  | _ => none
def flatD : D → Bool
  | .non => true
  | .bl _ => true
  | .int _ => true
  | .str _ => true
  | _ => false
def flatV' : D → V
  | .bl b => .bl b
  | .int i => .int i
  | .str x => .str x
  | _ => .non
def inF (x : D) (ds : List D) : Bool := inV (flatV' x) (ds.map flatV')
def fIn (neg : Bool) : F2
  | .str x, .str y, c, Φ => Φ (.bl (if neg then !inS x y else inS x y)) c
  | x, y, c, Φ => (∃ ds, seqOf y = some ds ∧ flatD x = true ∧ ds.all flatD = true ∧ Φ (.bl (if neg then !inF x ds else inF x ds)) c) ∨ ∃ p ds ps, D.py x = some p ∧ seqOf y = some ds ∧ D.pys ds = some ps ∧ SeqAt.shaped p = true ∧ SeqAt.shaped (.list ps) = true ∧ Φ (.bl (if neg then !ps.any fun z => PyData.eqv z p else ps.any fun z => PyData.eqv z p)) c
def fIsN (neg : Bool) : F2
  | .non, .non, c, Φ => Φ (.bl (!neg)) c
  | .cell _, .non, c, Φ => Φ (.bl neg) c
  | .raw _, _, _, _ => False
  | _, .non, c, Φ => Φ (.bl neg) c
  | _, _, _, _ => False
def rInT (K : PySem.W.Frag) : R2 := fun x y H Q => ∃ d ds, Dp K H x d ∧ Dp K H y (.tuple ds) ∧ SeqAt.shaped d = true ∧ SeqAt.shaped (.list ds) = true ∧ Q (.bl (ds.any fun z => PyData.eqv z d)) H
def rNinT (K : PySem.W.Frag) : R2 := fun x y H Q => ∃ d ds, Dp K H x d ∧ Dp K H y (.tuple ds) ∧ SeqAt.shaped d = true ∧ SeqAt.shaped (.list ds) = true ∧ Q (.bl (!ds.any fun z => PyData.eqv z d)) H
theorem op_inT {X : Cx} (hu : X.A.units + 65 < cLine) : OpR X (compareOp .In) (rInT X.K) := by
  intro pins s σ H x y v u Q I rx ry ⟨d, ds, hd, he, sd, se, q⟩
  obtain ⟨as, w1⟩ := Dp.reads I d x v hd rx
  obtain ⟨bs, w2⟩ := Dp.reads I (.tuple ds) y u he ry
  exact SeqAt.in_tuple_reads w2 w1 (SeqAt.canLay_of_shaped se) (SeqAt.canLay_of_shaped sd) (room_in_shaped sd hu) ⟨.bl _, H, I, rfl, q⟩
theorem op_ninT {X : Cx} (hu : X.A.units + 65 < cLine) : OpR X (compareOp .NotIn) (rNinT X.K) := by
  intro pins s σ H x y v u Q I rx ry ⟨d, ds, hd, he, sd, se, q⟩
  obtain ⟨as, w1⟩ := Dp.reads I d x v hd rx
  obtain ⟨bs, w2⟩ := Dp.reads I (.tuple ds) y u he ry
  exact SeqAt.notIn_tuple_reads w2 w1 (SeqAt.canLay_of_shaped se) (SeqAt.canLay_of_shaped sd) (room_in_shaped sd hu) ⟨.bl _, H, I, rfl, q⟩

section
variable {X : Cx} {a b e : Expr} {ta tb tc : TD} {pos : Pos} {k : Nat}
theorem pyeq_lift {K : PySem.W.Frag} {neg : Bool} {x y : D} {c : List Cell} {Φ : D → List Cell → Prop} {H : Hp} {m : Ad} {u v : V} {Q : VK} (Cc : CR K H m c) (r1 : W K H m x u) (r2 : W K H m y v) (q : KQ K H m Φ Q)
    (h : ∃ p q, D.py x = some p ∧ D.py y = some q ∧ SeqAt.shaped p = true ∧ SeqAt.shaped q = true ∧ Φ (.bl (if neg then !PyData.eqv p q else PyData.eqv p q)) c) :
    ∃ d e, Dp K H u d ∧ Dp K H v e ∧ SeqAt.shaped d = true ∧ SeqAt.shaped e = true ∧ Q (.bl (if neg then !PyData.eqv d e else PyData.eqv d e)) H := by
  obtain ⟨p, q', e1, e2, s1, s2, h⟩ := h
  exact ⟨p, q', W.dp r1 e1, W.dp r2 e2, s1, s2, q.pure Cc h rfl⟩
theorem l2_eq {K : PySem.W.Frag} : L2f K (fEq false) (fun x y H Q => rEq x y H Q ∨ rEqD K x y H Q) := by
  intro x y c Φ h H m u v Cc r1 r2 Q q
  cases x <;> cases y <;> first
    | (cases r1; cases r2; exact .inl ⟨rfl, by simpa using q.pure Cc h rfl⟩)
    | exact .inr (pyeq_lift (neg := false) Cc r1 r2 q h)
theorem l2_ne {K : PySem.W.Frag} : L2f K (fEq true) (fun x y H Q => rNe x y H Q ∨ rNeD K x y H Q) := by
  intro x y c Φ h H m u v Cc r1 r2 Q q
  cases x <;> cases y <;> first
    | (cases r1; cases r2; exact .inl ⟨rfl, by simpa using q.pure Cc h rfl⟩)
    | exact .inr (pyeq_lift (neg := true) Cc r1 r2 q h)
theorem pd_eq (hr : Room k X.A) (ha : PD X a ta) (hb : PD X b tb) : PD X (.Compare a [.Eq] [b] pos) (dBin (fEq false) ta tb) := PE.imp (pe_cmpR (op_eq.or (op_eqD hr.units)) ha hb (nomark _)) fun σ H Q h => lift_bin l2_eq h
theorem pd_ne (hr : Room k X.A) (ha : PD X a ta) (hb : PD X b tb) : PD X (.Compare a [.NotEq] [b] pos) (dBin (fEq true) ta tb) := PE.imp (pe_cmpR (op_ne.or (op_neD hr.units)) ha hb (nomark _)) fun σ H Q h => lift_bin l2_ne h
theorem l2_cmp {K : PySem.W.Frag} {g : Int → Int → Bool} : L2f K (fCmp g) (rI0 fun i j => .bl (g i j)) := by
  intro x y c Φ h H m u v Cc r1 r2 Q q
  cases x <;> cases y <;> first | exact h.elim | skip
  cases r1; cases r2
  exact ⟨_, _, rfl, rfl, q.pure Cc h rfl⟩
abbrev fLt := fCmp fun i j => decide (i < j)
abbrev fLe := fCmp fun i j => decide (i ≤ j)
abbrev fGt := fCmp fun i j => decide (j < i)
abbrev fGe := fCmp fun i j => decide (j ≤ i)
theorem pd_lt (ha : PD X a ta) (hb : PD X b tb) : PD X (.Compare a [.Lt] [b] pos) (dBin fLt ta tb) := PE.imp (pe_cmpR op_lt ha hb (nomark _)) fun σ H Q h => lift_bin l2_cmp h
theorem pd_le (ha : PD X a ta) (hb : PD X b tb) : PD X (.Compare a [.LtE] [b] pos) (dBin fLe ta tb) := PE.imp (pe_cmpR op_le ha hb (nomark _)) fun σ H Q h => lift_bin l2_cmp h
theorem pd_gt (ha : PD X a ta) (hb : PD X b tb) : PD X (.Compare a [.Gt] [b] pos) (dBin fGt ta tb) := PE.imp (pe_cmpR op_gt ha hb (nomark _)) fun σ H Q h => lift_bin l2_cmp h
theorem pd_ge (ha : PD X a ta) (hb : PD X b tb) : PD X (.Compare a [.GtE] [b] pos) (dBin fGe ta tb) := PE.imp (pe_cmpR op_ge ha hb (nomark _)) fun σ H Q h => lift_bin l2_cmp h
theorem seq_dp {K : PySem.W.Frag} {H : Hp} {m : Ad} {y : D} {v : V} {ds : List D} {ps : List PyData} (r : W K H m y v) (e1 : seqOf y = some ds) (e2 : D.pys ds = some ps) : Dp K H v (.list ps) ∨ Dp K H v (.tuple ps) := by
  cases y <;> first | (cases e1; done) | skip
  · cases e1; exact .inr (W.dp r (by rw [D.py, e2]; rfl))
  · cases e1; exact .inl (W.dp r (by rw [D.py, e2]; rfl))
  · cases e1; exact .inl (W.dp r (by rw [D.py, e2]; rfl))
theorem seq_in {K : PySem.W.Frag} {m : Ad} {H : Hp} {x : D} {u : V} {ds : List D} (r : W K H m x u) (e : seqOf x = some ds) : ∃ p xs, u = .ref p ∧ (SqL K H p xs ∨ SqT K H p xs) ∧ RRL K H m ds xs := by
  cases x <;> first | (cases e; done) | skip
  · cases e; obtain ⟨p, xs, e1, h1, h2⟩ := r; exact ⟨p, xs, e1, .inr (ex_t (ex_hid m H) h1), h2⟩
  · cases e; obtain ⟨p, xs, e1, h1, h2⟩ := r; exact ⟨p, xs, e1, .inl (SqL.of h1), h2⟩
  · cases e; obtain ⟨p, xs, e1, h1, h2⟩ := r; exact ⟨p, xs, e1, .inl (ex_l (ex_hid m H) h1), h2⟩
theorem flat_v {K : PySem.W.Frag} {m : Ad} {H : Hp} {x : D} {u : V} (r : W K H m x u) (f : flatD x = true) : u = flatV' x ∧ flatV u = true := by
  cases x <;> first | (cases f; done) | (cases (show u = _ from r); exact ⟨rfl, rfl⟩)
theorem flat_vs {K : PySem.W.Frag} {m : List Addr} {H : Hp} : ∀ {ds : List D} {xs : List V}, RL K m H ds xs → ds.all flatD = true → xs = ds.map flatV' ∧ xs.all flatV = true
  | [], _, h, _ => by cases (show _ = [] from h); exact ⟨rfl, rfl⟩
  | d :: ds, _, ⟨x, r, e1, h1, h2⟩, f => by
    subst e1
    rw [List.all_cons, Bool.and_eq_true] at f
    obtain ⟨e2, f2⟩ := flat_vs h2 f.2
    have e3 : x = flatV' d ∧ flatV x = true := by
      cases d <;> first | (cases f.1; done) | (cases (show x = _ from h1); exact ⟨rfl, rfl⟩)
    exact ⟨by rw [e2, e3.1]; rfl, by rw [List.all_cons, e3.2, f2]; rfl⟩
def rInA (K : PySem.W.Frag) : R2 := fun x y H Q => (∃ i j, x = .str i ∧ y = .str j ∧ Q (.bl (!(Builtin.Str.occurrences j i 0 j.length 1).isEmpty)) H) ∨ (rIn K false x y H Q ∨ (rInD K x y H Q ∨ rInT K x y H Q))
def rNinA (K : PySem.W.Frag) : R2 := fun x y H Q => (∃ i j, x = .str i ∧ y = .str j ∧ Q (.bl (!(!(Builtin.Str.occurrences j i 0 j.length 1).isEmpty))) H) ∨ (rIn K true x y H Q ∨ (rNotInD K x y H Q ∨ rNinT K x y H Q))
theorem l2_in {K : PySem.W.Frag} : L2f K (fIn false) (rInA K) := by
  intro x y c Φ h H m u v Cc r1 r2 Q q
  have gen : (∃ ds, seqOf y = some ds ∧ flatD x = true ∧ ds.all flatD = true ∧ Φ (.bl (if false then !inF x ds else inF x ds)) c) ∨ (∃ p ds ps, D.py x = some p ∧ seqOf y = some ds ∧ D.pys ds = some ps ∧ SeqAt.shaped p = true ∧ SeqAt.shaped (.list ps) = true ∧ Φ (.bl (if false then !ps.any fun z => PyData.eqv z p else ps.any fun z => PyData.eqv z p)) c) → rInA K u v H Q := by
    rintro (⟨ds, e2, f1, f2, h⟩ | ⟨p, ds, ps, e1, e2, e3, s1, s2, h⟩)
    · obtain ⟨a, xs, rfl, sq, rl⟩ := seq_in r2 e2
      obtain ⟨ex, fx⟩ := flat_v r1 f1
      obtain ⟨exs, fxs⟩ := flat_vs rl f2
      refine .inr (.inl ⟨a, xs, rfl, sq, fx, fxs, ?_⟩)
      rw [ex, exs]
      exact q.pure Cc h rfl
    rcases seq_dp r2 e2 e3 with d | d
    · exact .inr (.inr (.inl ⟨p, ps, W.dp r1 e1, d, s1, s2, q.pure Cc h rfl⟩))
    · exact .inr (.inr (.inr ⟨p, ps, W.dp r1 e1, d, s1, s2, q.pure Cc h rfl⟩))
  cases x <;> cases y <;> first
    | exact gen h
    | (cases r1; cases r2; exact .inl ⟨_, _, rfl, rfl, by rw [← inS_eq]; exact q.pure Cc h rfl⟩)
theorem l2_nin {K : PySem.W.Frag} : L2f K (fIn true) (rNinA K) := by
  intro x y c Φ h H m u v Cc r1 r2 Q q
  have gen : (∃ ds, seqOf y = some ds ∧ flatD x = true ∧ ds.all flatD = true ∧ Φ (.bl (if true then !inF x ds else inF x ds)) c) ∨ (∃ p ds ps, D.py x = some p ∧ seqOf y = some ds ∧ D.pys ds = some ps ∧ SeqAt.shaped p = true ∧ SeqAt.shaped (.list ps) = true ∧ Φ (.bl (if true then !ps.any fun z => PyData.eqv z p else ps.any fun z => PyData.eqv z p)) c) → rNinA K u v H Q := by
    rintro (⟨ds, e2, f1, f2, h⟩ | ⟨p, ds, ps, e1, e2, e3, s1, s2, h⟩)
    · obtain ⟨a, xs, rfl, sq, rl⟩ := seq_in r2 e2
      obtain ⟨ex, fx⟩ := flat_v r1 f1
      obtain ⟨exs, fxs⟩ := flat_vs rl f2
      refine .inr (.inl ⟨a, xs, rfl, sq, fx, fxs, ?_⟩)
      rw [ex, exs]
      exact q.pure Cc h rfl
    rcases seq_dp r2 e2 e3 with d | d
    · exact .inr (.inr (.inl ⟨p, ps, W.dp r1 e1, d, s1, s2, q.pure Cc h rfl⟩))
    · exact .inr (.inr (.inr ⟨p, ps, W.dp r1 e1, d, s1, s2, q.pure Cc h rfl⟩))
  cases x <;> cases y <;> first
    | exact gen h
    | (cases r1; cases r2; exact .inl ⟨_, _, rfl, rfl, by rw [← inS_eq]; exact q.pure Cc h rfl⟩)
theorem pd_in (hr : Room k X.A) (ha : PD X a ta) (hb : PD X b tb) (hm : behindInMarks .In b = false := by rfl) : PD X (.Compare a [.In] [b] pos) (dBin (fIn false) ta tb) :=
  PE.imp (pe_cmpR (op_in_str.or (op_in_seq.or ((op_inD (by have := hr.un; omega)).or (op_inT (by have := hr.un; omega))))) ha hb hm) fun σ H Q h => lift_bin l2_in h
theorem pd_nin (hr : Room k X.A) (ha : PD X a ta) (hb : PD X b tb) (hm : behindInMarks .NotIn b = false := by rfl) : PD X (.Compare a [.NotIn] [b] pos) (dBin (fIn true) ta tb) :=
  PE.imp (pe_cmpR (op_notin_str.or (op_notIn_seq.or ((op_notInD (by have := hr.un; omega)).or (op_ninT (by have := hr.un; omega))))) ha hb hm) fun σ H Q h => lift_bin l2_nin h
theorem l2_isn {K : PySem.W.Frag} : L2f K (fIsN false) (fun x y H Q => y = .non ∧ Q (.bl (decide (x = .non))) H) := by
  intro x y c Φ h H m u v Cc r1 r2 Q q
  have key : y = .non → ∀ b, decide (u = V.non) = b → Φ (.bl b) c → v = .non ∧ Q (.bl (decide (u = .non))) H := fun e b e2 h' => by
    subst e
    exact ⟨r2, by rw [e2]; exact q.pure Cc h' rfl⟩
  cases y <;> first | (cases x <;> exact h.elim) | skip
  refine key rfl _ ?_ (show Φ (.bl (match x with | .non => true | _ => false)) c by cases x <;> first | exact h | exact h.elim)
  cases x <;> first
    | (cases (show u = _ from r1); rfl)
    | (obtain ⟨_, _, rfl, _⟩ := r1; rfl)
    | (obtain ⟨_, _, rfl⟩ := r1; rfl)
    | (obtain ⟨_, _, _, rfl, _⟩ := r1; rfl)
    | exact h.elim
theorem l2_isnn {K : PySem.W.Frag} : L2f K (fIsN true) (fun x y H Q => y = .non ∧ Q (.bl (!decide (x = .non))) H) := by
  intro x y c Φ h H m u v Cc r1 r2 Q q
  have key : y = .non → ∀ b, (!decide (u = V.non)) = b → Φ (.bl b) c → v = .non ∧ Q (.bl (!decide (u = .non))) H := fun e b e2 h' => by
    subst e
    exact ⟨r2, by rw [e2]; exact q.pure Cc h' rfl⟩
  cases y <;> first | (cases x <;> exact h.elim) | skip
  refine key rfl _ ?_ (show Φ (.bl (match x with | .non => false | _ => true)) c by cases x <;> first | exact h | exact h.elim)
  cases x <;> first
    | (cases (show u = _ from r1); rfl)
    | (obtain ⟨_, _, rfl, _⟩ := r1; rfl)
    | (obtain ⟨_, _, rfl⟩ := r1; rfl)
    | (obtain ⟨_, _, _, rfl, _⟩ := r1; rfl)
    | exact h.elim
theorem pd_isn (ha : PD X a ta) (hb : PD X b tb) : PD X (.Compare a [.Is] [b] pos) (dBin (fIsN false) ta tb) := PE.imp (pe_cmpR op_isN ha hb (nomark _)) fun σ H Q h => lift_bin l2_isn h
theorem pd_isnn (ha : PD X a ta) (hb : PD X b tb) : PD X (.Compare a [.IsNot] [b] pos) (dBin (fIsN true) ta tb) := PE.imp (pe_cmpR op_notN ha hb (nomark _)) fun σ H Q h => lift_bin l2_isnn h
/-- a <= b <= c and its like -/
def dChain (f g : F2) (ta tb tc : TD) : TD := fun ρ c Φ => ta ρ c fun x c1 => tb ρ c1 fun y c2 => f (vw c2 x) (vw c2 y) c2 fun z c3 => match z with
  | .bl true => tc ρ c3 fun w c4 => g (vw c4 y) (vw c4 w) c4 Φ
  | .bl false => Φ (.bl false) c3
  | _ => False
theorem lift_chain {K : PySem.W.Frag} {f g : F2} {r r' : R2} {σ : L2.St} {H : Hp} {Q : VK} (lf : L2f K f r) (lg : L2f K g r') (h : lift K (dChain f g ta tb tc) σ H Q) : tChain r r' (lift K ta) (lift K tb) (lift K tc) σ H Q := by
  obtain ⟨m, ρ, c, Φ, S, h, q⟩ := h
  refine ⟨m, ρ, c, _, S, h, fun x c1 u H1 m1 hx C1 R1 L1 => ⟨m1, ρ, c1, _, S.step L1 C1, hx, fun y c2 v H2 m2 hy C2 R2 L2 => ?_⟩⟩
  refine lf _ _ c2 _ hy H2 m2 u v C2 (W.vw C2 (L2.r R1)) (W.vw C2 R2) _ fun d c3 w H3 m3 hd C3 R3 L3 => ?_
  cases d with
  | bl bo =>
    cases bo with
    | true =>
      refine ⟨true, R3, ?_⟩
      rw [if_pos rfl]
      exact ⟨m3, ρ, c3, _, S.step (L1.trans (L2.trans L3)) C3, hd, fun z c4 w4 H4 m4 hz C4 R4 L4 =>
        lg _ _ c4 Φ hz H4 m4 v w4 C4 (W.vw C4 ((L3.trans L4).r R2)) (W.vw C4 R4) Q fun d' c' w' H' m' h' C' R' L' => q d' c' w' H' m' h' C' R' (L1.trans (L2.trans (L3.trans (L4.trans L'))))⟩
    | false =>
      refine ⟨false, R3, ?_⟩
      rw [if_neg (by decide)]
      exact q (.bl false) c3 (.bl false) H3 m3 hd C3 rfl (L1.trans (L2.trans L3))
  | _ => exact hd.elim
variable {cE : Expr}
theorem pd_lele (ha : PD X a ta) (hb : PD X b tb) (hc : PD X cE tc) (hm : lastMarks [.LtE, .LtE] [b, cE] = false := by with_unfolding_all rfl) : PD X (.Compare a [.LtE, .LtE] [b, cE] pos) (dChain fLe fLe ta tb tc) :=
  PE.imp (pe_chain op_le op_le ha hb hc hm) fun σ H Q h => lift_chain l2_cmp l2_cmp h

/-! ### tests -/
def asB (Φ : Bool → List Cell → Prop) : D → List Cell → Prop
  | .bl b, c => Φ b c
  | _, _ => False
def dT (t : TD) : TDt := fun ρ c Φ => t ρ c (asB Φ)
theorem lift_T {K : PySem.W.Frag} {t : TD} {σ : L2.St} {H : Hp} {Q : Bool → Hp → Prop} (h : liftT K (dT t) σ H Q) : lift K t σ H fun x H' => ∃ k, x = .bl k ∧ Q k H' := by
  obtain ⟨m, ρ, c, Φ, S, h, q⟩ := h
  refine ⟨m, ρ, c, asB Φ, S, h, fun d c' v H' m' hd C R L => ?_⟩
  cases d with
  | bl b => cases (show v = .bl b from R); exact ⟨b, rfl, q b c' H' m' hd C L⟩
  | _ => exact hd.elim
/-- an expression that gives a truth value, as a test -/
theorem pdt_val (h : PD X e ta) (he : ∀ whole, isTrue e X.env whole = (do let v ← whole; standAt e.pos; holding [v] (truthy v)) := by intro _; rfl) : PDt X e (dT ta) :=
  PT.imp (pt_val h he) fun σ H Q h => lift_T h
theorem pdt_cmp {op : CmpOp} {f : F2} {r : R2} (ho : OpR X (compareOp op) r) (l : L2f X.K f r) (ha : PD X a ta) (hb : PD X b tb) (hm : behindInMarks op b = false) : PDt X (.Compare a [op] [b] pos) (dT (dBin f ta tb)) :=
  PT.imp (pt_cmpR ho ha hb hm) fun σ H Q h => lift_bin l (lift_T h)
theorem pdt_eq (hr : Room k X.A) (ha : PD X a ta) (hb : PD X b tb) : PDt X (.Compare a [.Eq] [b] pos) (dT (dBin (fEq false) ta tb)) := pdt_cmp (op_eq.or (op_eqD hr.units)) l2_eq ha hb (nomark _)
theorem pdt_ne (hr : Room k X.A) (ha : PD X a ta) (hb : PD X b tb) : PDt X (.Compare a [.NotEq] [b] pos) (dT (dBin (fEq true) ta tb)) := pdt_cmp (op_ne.or (op_neD hr.units)) l2_ne ha hb (nomark _)
theorem pdt_lt (ha : PD X a ta) (hb : PD X b tb) : PDt X (.Compare a [.Lt] [b] pos) (dT (dBin fLt ta tb)) := pdt_cmp op_lt l2_cmp ha hb (nomark _)
theorem pdt_le (ha : PD X a ta) (hb : PD X b tb) : PDt X (.Compare a [.LtE] [b] pos) (dT (dBin fLe ta tb)) := pdt_cmp op_le l2_cmp ha hb (nomark _)
theorem pdt_gt (ha : PD X a ta) (hb : PD X b tb) : PDt X (.Compare a [.Gt] [b] pos) (dT (dBin fGt ta tb)) := pdt_cmp op_gt l2_cmp ha hb (nomark _)
theorem pdt_ge (ha : PD X a ta) (hb : PD X b tb) : PDt X (.Compare a [.GtE] [b] pos) (dT (dBin fGe ta tb)) := pdt_cmp op_ge l2_cmp ha hb (nomark _)
theorem pdt_isn (ha : PD X a ta) (hb : PD X b tb) : PDt X (.Compare a [.Is] [b] pos) (dT (dBin (fIsN false) ta tb)) := pdt_cmp op_isN l2_isn ha hb (nomark _)
theorem pdt_isnn (ha : PD X a ta) (hb : PD X b tb) : PDt X (.Compare a [.IsNot] [b] pos) (dT (dBin (fIsN true) ta tb)) := pdt_cmp op_notN l2_isnn ha hb (nomark _)
theorem pdt_in (hr : Room k X.A) (ha : PD X a ta) (hb : PD X b tb) (hm : behindInMarks .In b = false := by rfl) : PDt X (.Compare a [.In] [b] pos) (dT (dBin (fIn false) ta tb)) :=
  pdt_cmp (op_in_str.or (op_in_seq.or ((op_inD (by have := hr.un; omega)).or (op_inT (by have := hr.un; omega))))) l2_in ha hb hm
theorem pdt_nin (hr : Room k X.A) (ha : PD X a ta) (hb : PD X b tb) (hm : behindInMarks .NotIn b = false := by rfl) : PDt X (.Compare a [.NotIn] [b] pos) (dT (dBin (fIn true) ta tb)) :=
  pdt_cmp (op_notin_str.or (op_notIn_seq.or ((op_notInD (by have := hr.un; omega)).or (op_ninT (by have := hr.un; omega))))) l2_nin ha hb hm
theorem pdt_lele (ha : PD X a ta) (hb : PD X b tb) (hc : PD X cE tc) (hm : lastMarks [.LtE, .LtE] [b, cE] = false := by with_unfolding_all rfl) : PDt X (.Compare a [.LtE, .LtE] [b, cE] pos) (dT (dChain fLe fLe ta tb tc)) :=
  PT.imp (pt_chain op_le op_le ha hb hc hm) fun σ H Q h => lift_chain l2_cmp l2_cmp (lift_T h)
/- and, or, not, as tests -/
variable {tA tB : TDt} {rest : List Expr}
def dOr (t u : TDt) : TDt := fun ρ c Φ => t ρ c fun b c1 => match b with | true => Φ true c1 | false => u ρ c1 Φ
def dAnd (t u : TDt) : TDt := fun ρ c Φ => t ρ c fun b c1 => match b with | true => u ρ c1 Φ | false => Φ false c1
def dNot (t : TDt) : TDt := fun ρ c Φ => t ρ c fun b c1 => Φ (!b) c1
abbrev PDw (X : Cx) (e : Expr) (t : TDt) : Prop := PW X e (liftT X.K t)
theorem PDw.pt (h : PDw X e tA) : PDt X e tA := PW.pt h
theorem pdw_or1 (ha : PDt X a tA) : PDw X (.BoolOp .Or [a] pos) tA := pw_or1 ha
theorem pdw_and1 (ha : PDt X a tA) : PDw X (.BoolOp .And [a] pos) tA := pw_and1 ha
theorem pdw_or (ha : PDt X a tA) (hb : PDw X (.BoolOp .Or (b :: rest) pos) tB) : PDw X (.BoolOp .Or (a :: b :: rest) pos) (dOr tA tB) := PW.imp (pw_or ha hb) fun σ H Q ⟨m, ρ, c, Φ, S, h, q⟩ =>
  ⟨m, ρ, c, _, S, h, fun b c1 H1 m1 hx C1 L1 => by
    cases b with
    | true => exact q true c1 H1 m1 hx C1 L1
    | false => exact ⟨m1, ρ, c1, Φ, S.step L1 C1, hx, fun b' c' H' m' h' C' L' => q b' c' H' m' h' C' (L1.trans L')⟩⟩
theorem pdw_and (ha : PDt X a tA) (hb : PDw X (.BoolOp .And (b :: rest) pos) tB) : PDw X (.BoolOp .And (a :: b :: rest) pos) (dAnd tA tB) := PW.imp (pw_and ha hb) fun σ H Q ⟨m, ρ, c, Φ, S, h, q⟩ =>
  ⟨m, ρ, c, _, S, h, fun b c1 H1 m1 hx C1 L1 => by
    cases b with
    | false => exact q false c1 H1 m1 hx C1 L1
    | true => exact ⟨m1, ρ, c1, Φ, S.step L1 C1, hx, fun b' c' H' m' h' C' L' => q b' c' H' m' h' C' (L1.trans L')⟩⟩
theorem pdt_not (ha : PDt X a tA) : PDt X (.UnaryOp .Not a pos) (dNot tA) := PT.imp (pt_not ha) fun σ H Q ⟨m, ρ, c, Φ, S, h, q⟩ =>
  ⟨m, ρ, c, _, S, h, fun b c1 H1 m1 hx C1 L1 => q (!b) c1 H1 m1 hx C1 L1⟩
/-- .. as values -/
def dAndV (t u : TD) : TD := fun ρ c Φ => t ρ c fun d c1 => match d with | .bl true => u ρ c1 Φ | .bl false => Φ (.bl false) c1 | _ => False
def dOrV (t u : TD) : TD := fun ρ c Φ => t ρ c fun d c1 => match d with | .bl true => Φ (.bl true) c1 | .bl false => u ρ c1 Φ | _ => False
def dNotV (t : TD) : TD := fun ρ c Φ => t ρ c fun d c1 => match d with | .bl b => Φ (.bl (!b)) c1 | _ => False
theorem pd_one {op} (h : PD X a ta) : PD X (.BoolOp op [a] pos) ta := pe_one h
theorem pd_and (ha : PD X a ta) (hb : PD X (.BoolOp .And (b :: rest) pos) tb) : PD X (.BoolOp .And (a :: b :: rest) pos) (dAndV ta tb) := PE.imp (pe_and ha hb) fun σ H Q ⟨m, ρ, c, Φ, S, h, q⟩ =>
  ⟨m, ρ, c, _, S, h, fun d c1 v H1 m1 hx C1 R1 L1 => by
    cases d with
    | bl bo =>
      refine ⟨bo, R1, ?_⟩
      cases bo with
      | true => rw [if_pos rfl]; exact ⟨m1, ρ, c1, Φ, S.step L1 C1, hx, fun d' c' v' H' m' h' C' R' L' => q d' c' v' H' m' h' C' R' (L1.trans L')⟩
      | false => rw [if_neg (by decide)]; exact q _ c1 _ H1 m1 hx C1 rfl L1
    | _ => exact hx.elim⟩
theorem pd_or (ha : PD X a ta) (hb : PD X (.BoolOp .Or (b :: rest) pos) tb) : PD X (.BoolOp .Or (a :: b :: rest) pos) (dOrV ta tb) := PE.imp (pe_or ha hb) fun σ H Q ⟨m, ρ, c, Φ, S, h, q⟩ =>
  ⟨m, ρ, c, _, S, h, fun d c1 v H1 m1 hx C1 R1 L1 => by
    cases d with
    | bl bo =>
      refine ⟨bo, R1, ?_⟩
      cases bo with
      | true => rw [if_pos rfl]; exact q _ c1 _ H1 m1 hx C1 rfl L1
      | false => rw [if_neg (by decide)]; exact ⟨m1, ρ, c1, Φ, S.step L1 C1, hx, fun d' c' v' H' m' h' C' R' L' => q d' c' v' H' m' h' C' R' (L1.trans L')⟩
    | _ => exact hx.elim⟩
theorem pd_not (ha : PD X a ta) : PD X (.UnaryOp .Not a pos) (dNotV ta) := PE.imp (pe_not ha) fun σ H Q ⟨m, ρ, c, Φ, S, h, q⟩ =>
  ⟨m, ρ, c, _, S, h, fun d c1 v H1 m1 hx C1 R1 L1 => by
    cases d with
    | bl bo => exact ⟨bo, R1, q _ c1 _ H1 m1 hx C1 rfl L1⟩
    | _ => exact hx.elim⟩
def dNeg (t : TD) : TD := fun ρ c Φ => t ρ c fun d c1 => match d with | .int i => Φ (.int (-i)) c1 | _ => False
theorem pd_neg (ha : PD X a ta) : PD X (.UnaryOp .USub a pos) (dNeg ta) := PE.imp (pe_un un_neg ha) fun σ H Q ⟨m, ρ, c, Φ, S, h, q⟩ =>
  ⟨m, ρ, c, _, S, h, fun d c1 v H1 m1 hx C1 R1 L1 => by
    cases d with
    | int i => exact ⟨i, R1, q _ c1 _ H1 m1 hx C1 rfl L1⟩
    | _ => exact hx.elim⟩
/-- a if t else b -/
def dIf (t : TDt) (ta tb : TD) : TD := fun ρ c Φ => t ρ c fun b c1 => match b with | true => ta ρ c1 Φ | false => tb ρ c1 Φ
theorem pd_if {cE : Expr} (hc : PDt X cE tA) (ha : PD X a ta) (hb : PD X b tb) : PD X (.IfExp cE a b pos) (dIf tA ta tb) := PE.imp (pe_ifExp hc ha hb) fun σ H Q ⟨m, ρ, c, Φ, S, h, q⟩ =>
  ⟨m, ρ, c, _, S, h, fun b c1 H1 m1 hx C1 L1 => by
    cases b with
    | true => rw [if_pos rfl]; exact ⟨m1, ρ, c1, Φ, S.step L1 C1, hx, fun d' c' v' H' m' h' C' R' L' => q d' c' v' H' m' h' C' R' (L1.trans L')⟩
    | false => rw [if_neg (by decide)]; exact ⟨m1, ρ, c1, Φ, S.step L1 C1, hx, fun d' c' v' H' m' h' C' R' L' => q d' c' v' H' m' h' C' R' (L1.trans L')⟩⟩
end
end Cw

namespace Cw
open PySem PySem.Spec PyProof.Rows L2

/-! ### a[i], a[i:j] -/
def fIx : F2
  | .str z, .int i, c, Φ => z.length ≤ sizeLine ∧ match atI z.cps.toList i with
    | some k => Φ (.str ⟨#[k]⟩) c
    | none => False
  | x, .int i, c, Φ => match seqOf x with
    | some ds => (match atI ds i with
      | some d => Φ d c
      | none => False)
    | none => False
  | _, _, _, _ => False
def cutD {α : Type} (xs : List α) (lo hi : Option Int) : List α := (xs.drop (HT.sIx xs.length 0 lo)).take (HT.sIx xs.length xs.length hi - HT.sIx xs.length 0 lo)
def fSl (x : D) (lo hi : Option Int) (c : List Cell) (Φ : D → List Cell → Prop) : Prop := match x with
  | .str z => z.length ≤ sizeLine ∧ Φ (.str (cutS z lo hi)) c
  | .tup ds => Φ (.tup (cutD ds lo hi)) c
  | .lst ds => Φ (.lst (cutD ds lo hi)) c
  | .fl ds => Φ (.lst (cutD ds lo hi)) c
  | _ => False
abbrev TDo := Env → List Cell → (Option Int → List Cell → Prop) → Prop
def liftO (K : PySem.W.Frag) (t : TDo) : TO := fun σ H Q => ∃ (m : Ad) (ρ : Env) (c : List Cell) (Φ : Option Int → List Cell → Prop), SR K σ H m ρ c ∧ t ρ c Φ ∧
  ∀ b c' H' m', Φ b c' → CR K H' m' c' → Le m H m' H' → Q b H'
def dNoPart : TDo := fun _ c Φ => Φ none c
def dPart (t : TD) : TDo := fun ρ c Φ => t ρ c fun d c1 => match d with | .int i => Φ (some i) c1 | _ => False
def dSl (ta : TD) (tl th : TDo) : TD := fun ρ c Φ => ta ρ c fun x c1 => tl ρ c1 fun l c2 => th ρ c2 fun u c3 => fSl (vw c3 x) l u c3 Φ
section
variable {X : Cx} {a b e : Expr} {es : List Expr} {ta tb : TD} {tas : TDs} {pos p2 : Pos} {k : Nat} {lo hi : Option Expr} {tl th : TDo}
theorem RL.atI {K : PySem.W.Frag} {m : List Addr} {H : Hp} {ds : List D} {xs : List V} {i : Int} {d : D} (h : RL K m H ds xs) (e : L2.atI ds i = some d) : ∃ x, L2.atI xs i = some x ∧ R K m H d x := by
  unfold L2.atI at e ⊢
  rw [rlen h]
  cases hi : ixN ds.length i with
  | none => rw [hi] at e; cases e
  | some j =>
    rw [hi] at e
    obtain ⟨x, h1, h2⟩ := RL.get (i := j) h e
    exact ⟨x, h1, h2⟩
theorem seq_view {K : PySem.W.Frag} {m : Ad} {H : Hp} {x : D} {u : V} {ds : List D} (r : W K H m x u) (e : seqOf x = some ds) : ∃ p xs, u = .ref p ∧ (SqL K H p xs ∨ SqT K H p xs) ∧ RRL K H m ds xs := by
  cases x <;> first | (cases e; done) | skip
  · cases e; obtain ⟨p, xs, e1, h1, h2⟩ := r; exact ⟨p, xs, e1, .inr (ex_t (ex_hid m H) h1), h2⟩
  · cases e; obtain ⟨p, xs, e1, h1, h2⟩ := r; exact ⟨p, xs, e1, .inl (SqL.of h1), h2⟩
  · cases e; obtain ⟨p, xs, e1, h1, h2⟩ := r; exact ⟨p, xs, e1, .inl (ex_l (ex_hid m H) h1), h2⟩
theorem l2_ix {K : PySem.W.Frag} : L2f K fIx (rIx K) := by
  intro x y c Φ h H m u v Cc r1 r2 Q q
  have gen : ∀ i : Int, y = .int i → (match seqOf x with
    | some ds => (match atI ds i with
      | some d => Φ d c
      | none => False)
    | none => False) → rIx K u v H Q := by
    rintro i rfl h
    cases e1 : seqOf x with
    | none => rw [e1] at h; exact h.elim
    | some ds =>
      rw [e1] at h
      cases e2 : atI ds i with
      | none => simp only [e2] at h
      | some d =>
        simp only [e2] at h
        obtain ⟨p, xs, rfl, sq, rl⟩ := seq_view r1 e1
        obtain ⟨w, h3, h4⟩ := RL.atI rl e2
        rcases sq with sq | sq
        · exact .inl ⟨p, xs, i, w, rfl, r2, sq, h3, q.pure Cc h h4⟩
        · exact .inr (.inl ⟨p, xs, i, w, rfl, r2, sq, h3, q.pure Cc h h4⟩)
  cases y <;> first | (cases x <;> exact h.elim) | skip
  rename_i i
  cases x <;> first
    | exact gen i rfl h
    | (rename_i z
       cases (show u = V.str z from r1)
       obtain ⟨hz, h⟩ := h
       cases e : atI z.cps.toList i with
       | none => simp only [e] at h
       | some kk => simp only [e] at h; exact .inr (.inr ⟨z, i, kk, rfl, r2, hz, e, q.pure Cc h rfl⟩))
theorem pd_ix (ha : PD X a ta) (hb : PD X b tb) (hs : PlainIx b := by exact fun _ _ => rfl) : PD X (.Subscript a b pos) (dBin fIx ta tb) := PE.imp (pe_ix ix_seq ha hb hs) fun σ H Q h => lift_bin l2_ix h
theorem po_no : PO X none (liftO X.K dNoPart) := ⟨fun pins s σ H Q I h => po_none.run pins s σ H Q I (by obtain ⟨m, ρ, c, Φ, S, h, q⟩ := h; exact q none c H m h S.cr (Le.refl _ _))⟩
theorem po_so (h : PD X e ta) : PO X (some e) (liftO X.K (dPart ta)) := ⟨fun pins s σ H Q I h' => (po_some h).run pins s σ H Q I (by
  obtain ⟨m, ρ, c, Φ, S, h, q⟩ := h'
  exact ⟨m, ρ, c, _, S, h, fun d c1 v H1 m1 hx C1 R1 L1 => by
    cases d with
    | int i => exact ⟨i, R1, q _ c1 H1 m1 hx C1 L1⟩
    | _ => exact hx.elim⟩)⟩
theorem RL.cut {K : PySem.W.Frag} {m : List Addr} {H : Hp} {ds : List D} {xs : List V} {lo hi : Option Int} (h : RL K m H ds xs) : RL K m H (cutD ds lo hi) (cutV xs lo hi) := by
  unfold cutD cutV
  rw [rlen h]
  exact RL.take _ (RL.drop _ h)
theorem pd_sl (ha : PD X a ta) (hl : PO X lo (liftO X.K tl)) (hh : PO X hi (liftO X.K th)) : PD X (.Subscript a (.Slice lo hi none p2) pos) (dSl ta tl th) :=
  PE.imp (pe_slice (sl_list.or (sl_str.or sl_tupA)) ha hl hh) fun σ H Q ⟨m, ρ, c, Φ, S, h, q⟩ =>
  ⟨m, ρ, c, _, S, h, fun x c1 u H1 m1 hx C1 R1 L1 => ⟨m1, ρ, c1, _, S.step L1 C1, hx, fun l c2 H2 m2 hl C2 L2 => ⟨m2, ρ, c2, _, S.step (L1.trans L2) C2, hl, fun r c3 H3 m3 hr C3 L3 => by
    have w := W.vw C3 ((L2.trans L3).r R1)
    have L := L1.trans (L2.trans L3)
    have q' : KQ X.K H3 m3 Φ Q := fun d c' w H' m' hd C' R' L' => q d c' w H' m' hd C' R' (L.trans L')
    revert hr w
    generalize vw c3 x = x'
    intro hr w
    cases x' <;> first | exact hr.elim | skip
    · cases (show u = _ from w); exact .inr (.inl ⟨_, rfl, hr.1, q'.pure C3 hr.2 rfl⟩)
    · obtain ⟨p, xs, rfl, h1, h2⟩ := w
      refine .inr (.inr ⟨p, xs, rfl, ex_t (ex_hid m3 H3) h1, fun e => ?_, fun _ t ht => KQ.newT (X := X) q' C3 hr (RL.cut h2) ht⟩)
      have z : cutV xs l r = xs := by
        unfold cutV
        rw [e.1, e.2]
        simp
      have z2 := RL.cut (lo := l) (hi := r) h2
      rw [z] at z2
      exact q'.pure C3 hr ⟨p, xs, rfl, h1, z2⟩
    · obtain ⟨p, xs, rfl, h1, h2⟩ := w
      exact .inl ⟨p, xs, rfl, SqL.of h1, fun t ht => KQ.newL (X := X) q' C3 hr (RL.cut h2) ht⟩
    · obtain ⟨p, xs, rfl, h1, h2⟩ := w
      exact .inl ⟨p, xs, rfl, ex_l (ex_hid m3 H3) h1, fun t ht => KQ.newL (X := X) q' C3 hr (RL.cut h2) ht⟩⟩⟩⟩

end
end Cw

namespace Cw
open PySem PySem.Spec PyProof.Rows L2

/-! ### built-in functions -/
def un1 (f : F1) : Fs
  | [x], c, Φ => f x c Φ
  | _, _, _ => False
def un2 (f : F2) : Fs
  | [x, y], c, Φ => f x y c Φ
  | _, _, _ => False
theorem p1 {α β : Type} {F : α → β → Prop} {x : α} {us : List β} (h : Paired F [x] us) : ∃ u, us = [u] ∧ F x u := by
  cases h with | cons r t => cases t; exact ⟨_, rfl, r⟩
theorem p2' {α β : Type} {F : α → β → Prop} {x y : α} {us : List β} (h : Paired F [x, y] us) : ∃ u v, us = [u, v] ∧ F x u ∧ F y v := by
  cases h with | cons r t => cases t with | cons r2 t2 => cases t2; exact ⟨_, _, rfl, r, r2⟩
theorem lsf1 {K : PySem.W.Frag} {f : F1} {r : List V → Hp → VK → Prop} (h : L1f K f (fun u H Q => r [u] H Q)) : Lsf K (un1 f) r := by
  intro xs c Φ hx H m us C p Q q
  cases xs with
  | nil => exact hx.elim
  | cons x t =>
    cases t with
    | cons _ _ => exact hx.elim
    | nil => obtain ⟨u, rfl, r1⟩ := p1 p; exact h x c Φ hx H m u C r1 Q q
theorem lsf2 {K : PySem.W.Frag} {f : F2} {r : List V → Hp → VK → Prop} (h : L2f K f (fun u v H Q => r [u, v] H Q)) : Lsf K (un2 f) r := by
  intro xs c Φ hx H m us C p Q q
  cases xs with
  | nil => exact hx.elim
  | cons x t =>
    cases t with
    | nil => exact hx.elim
    | cons y t =>
      cases t with
      | cons _ _ => exact hx.elim
      | nil => obtain ⟨u, v, rfl, r1, r2⟩ := p2' p; exact h x y c Φ hx H m u v C r1 r2 Q q
theorem CallR.or {X : Cx} {f : Value} {r r' : List V → Hp → VK → Prop} (h : CallR X f r) (h' : CallR X f r') : CallR X f (fun xs H Q => r xs H Q ∨ r' xs H Q) := by
  intro pins s σ H xs us Q I rs q
  rcases q with q | q
  · exact h pins s σ H xs us Q I rs q
  · exact h' pins s σ H xs us Q I rs q
def fLen : F1
  | .str x, c, Φ => x.length ≤ sizeLine ∧ Φ (.int x.length) c
  | .tup ds, c, Φ => Φ (.int ds.length) c
  | .lst ds, c, Φ => Φ (.int ds.length) c
  | .fl ds, c, Φ => Φ (.int ds.length) c
  | _, _, _ => False
def fInt : F1
  | .int i, c, Φ => Φ (.int i) c
  | .str x, c, Φ => x.length ≤ 640 ∧ ∃ n, PySem.intText? x = some n ∧ Φ (.int n) c
  | _, _, _ => False
def fStr : F1
  | .int i, c, Φ => i.natAbs.log2 < 1920 ∧ Φ (.str (toString i)) c
  | .str x, c, Φ => Φ (.str x) c
  | _, _, _ => False
def fAbs : F1
  | .int i, c, Φ => Φ (.int (if i < 0 then -i else i)) c
  | _, _, _ => False
def fTuple : F1
  | .tup ds, c, Φ => Φ (.tup ds) c
  | .lst ds, c, Φ => Φ (.tup ds) c
  | .fl ds, c, Φ => Φ (.tup ds) c
  | _, _, _ => False
def fList : F1
  | .tup ds, c, Φ => Φ (.lst ds) c
  | .lst ds, c, Φ => Φ (.lst ds) c
  | .fl ds, c, Φ => Φ (.lst ds) c
  | _, _, _ => False
def fMax : F2
  | .int i, .int j, c, Φ => Φ (.int (if j > i then j else i)) c
  | _, _, _, _ => False
def fMin : F2
  | .int i, .int j, c, Φ => Φ (.int (if j < i then j else i)) c
  | _, _, _, _ => False
def fDivmod : F2
  | .int i, .int j, c, Φ => (0 < j ∧ j < 1073741824) ∧ Φ (.tup [.int (i / j), .int (i % j)]) c
  | _, _, _, _ => False
def bls : List D → Option (List Bool)
  | [] => some []
  | .bl b :: r => (bls r).map (b :: ·)
  | _ => none
def fAll : F1
  | .lst ds, c, Φ => ∃ bs, bls ds = some bs ∧ Φ (.bl (bs.all id)) c
  | _, _, _ => False
def fAny : F1
  | .lst ds, c, Φ => ∃ bs, bls ds = some bs ∧ Φ (.bl (bs.any id)) c
  | _, _, _ => False
theorem bls_map {K : PySem.W.Frag} {m : List Addr} {H : Hp} : ∀ (ds : List D) (xs : List V) (bs : List Bool), RL K m H ds xs → bls ds = some bs → xs = bs.map V.bl
  | [], _, _, h, e => by cases e; exact h
  | d :: ds, _, bs, ⟨x, r, e1, h1, h2⟩, e => by
    subst e1
    cases d with
    | bl b =>
      change (bls ds).map (b :: ·) = some bs at e
      cases e2 : bls ds with
      | none => rw [e2] at e; cases e
      | some cs => rw [e2] at e; cases e; cases (show x = V.bl b from h1); rw [bls_map ds r cs h2 e2]; rfl
    | _ => cases e
section
variable {X : Cx} {e e2 : Expr} {ta tb : TD} {pos pp : Pos}
theorem l1_len {K : PySem.W.Frag} : L1f K fLen (fun u H Q => ∃ x n, [u] = [x] ∧ LenV K x H n ∧ Q (.int n) H) := by
  intro x c Φ h H m u C r Q q
  cases x <;> first | exact h.elim | skip
  · cases (show u = _ from r); exact ⟨_, _, rfl, ⟨h.1, rfl⟩, q.pure C h.2 rfl⟩
  · obtain ⟨p, xs, rfl, h1, h2⟩ := r
    exact ⟨.ref p, xs.length, rfl, .inr ⟨xs, ex_t (ex_hid m H) h1, rfl⟩, by rw [rlen h2]; exact q.pure C h rfl⟩
  · obtain ⟨p, xs, rfl, h1, h2⟩ := r
    exact ⟨.ref p, xs.length, rfl, .inl ⟨xs, SqL.of h1, rfl⟩, by rw [rlen h2]; exact q.pure C h rfl⟩
  · obtain ⟨p, xs, rfl, h1, h2⟩ := r
    exact ⟨.ref p, xs.length, rfl, .inl ⟨xs, ex_l (ex_hid m H) h1, rfl⟩, by rw [rlen h2]; exact q.pure C h rfl⟩
theorem pd_B1 {name id : String} {f : F1} {r : List V → Hp → VK → Prop} (cr : CallR X (.builtin id) r) (l : L1f X.K f (fun u H Q => r [u] H Q)) (hv : bootBuiltins (Str.ofString name) = some (.builtin id)) (hn : Str.ofString name ≠ "__name__") (hd : (Str.ofString name == ("__debug__" : Str)) = false)
    (ha : PD X e ta) (hg : Gl X (Str.ofString name)) (hm : X.mg (Str.ofString name) = none) (he : starEach [e] X.env = (false, eval e X.env) :: starEach [] X.env) (hpl : (backTo pos (starEach [] X.env)).any (·.1) = false) :
    PD X (.Call (.Name (Str.ofString name) pp) [e] [] pos) (dCB (un1 f) (dCons ta dNil)) := PE.imp (pe_callB cr hg hm hv (pds_cons ha pds_nil he) hn hd he hpl) fun σ H Q h => lift_cb (lsf1 l) h
theorem pd_T1 {name id : String} {f : F1} {r : List V → Hp → VK → Prop} (cr : CallR X (.type id) r) (l : L1f X.K f (fun u H Q => r [u] H Q)) (hv : bootBuiltins (Str.ofString name) = some (.type id)) (hn : Str.ofString name ≠ "__name__") (hd : (Str.ofString name == ("__debug__" : Str)) = false)
    (ha : PD X e ta) (hg : Gl X (Str.ofString name)) (hm : X.mg (Str.ofString name) = none) (he : starEach [e] X.env = (false, eval e X.env) :: starEach [] X.env) (hpl : (backTo pos (starEach [] X.env)).any (·.1) = false) :
    PD X (.Call (.Name (Str.ofString name) pp) [e] [] pos) (dCB (un1 f) (dCons ta dNil)) := PE.imp (pe_callTy cr hg hm hv (pds_cons ha pds_nil he) hn hd he hpl) fun σ H Q h => lift_cb (lsf1 l) h
theorem pd_B2 {name id : String} {f : F2} {r : List V → Hp → VK → Prop} (cr : CallR X (.builtin id) r) (l : L2f X.K f (fun u v H Q => r [u, v] H Q)) (hv : bootBuiltins (Str.ofString name) = some (.builtin id)) (hn : Str.ofString name ≠ "__name__") (hd : (Str.ofString name == ("__debug__" : Str)) = false)
    (ha : PD X e ta) (hb : PD X e2 tb) (hg : Gl X (Str.ofString name)) (hm : X.mg (Str.ofString name) = none) (he : starEach [e, e2] X.env = (false, eval e X.env) :: starEach [e2] X.env) (he2 : starEach [e2] X.env = (false, eval e2 X.env) :: starEach [] X.env) (hpl : (backTo pos (starEach [e2] X.env)).any (·.1) = false) :
    PD X (.Call (.Name (Str.ofString name) pp) [e, e2] [] pos) (dCB (un2 f) (dCons ta (dCons tb dNil))) := PE.imp (pe_callB cr hg hm hv (pds_cons ha (pds_cons hb pds_nil he2) he) hn hd he hpl) fun σ H Q h => lift_cb (lsf2 l) h
theorem l1_int {K : PySem.W.Frag} : L1f K fInt (fun u H Q => ((∃ i, [u] = [.int i] ∧ Q (.int i) H) ∨ ∃ k, [u] = [.bl k] ∧ Q (.int (if k then 1 else 0)) H) ∨ (∃ a n, [u] = [.str a] ∧ PySem.intText? a = some n ∧ a.length ≤ 640 ∧ Q (.int n) H)) := by
  intro x c Φ h H m u C r Q q
  cases x <;> first | exact h.elim | skip
  · cases (show u = _ from r); exact .inl (.inl ⟨_, rfl, q.pure C h rfl⟩)
  · cases (show u = _ from r)
    obtain ⟨hz, n, e, h⟩ := h
    exact .inr ⟨_, n, rfl, e, hz, q.pure C h rfl⟩
theorem l1_str {K : PySem.W.Frag} : L1f K fStr (fun u H Q => (∃ i, [u] = [.int i] ∧ i.natAbs.log2 < 1920 ∧ Q (.str (toString i)) H) ∨ (∃ a, [u] = [.str a] ∧ Q (.str a) H)) := by
  intro x c Φ h H m u C r Q q
  cases x <;> first | exact h.elim | skip
  · cases (show u = _ from r); exact .inl ⟨_, rfl, h.1, q.pure C h.2 rfl⟩
  · cases (show u = _ from r); exact .inr ⟨_, rfl, q.pure C h rfl⟩
theorem l1_abs {K : PySem.W.Frag} : L1f K fAbs (fun u H Q => ∃ i, [u] = [.int i] ∧ Q (.int (if i < 0 then -i else i)) H) := by
  intro x c Φ h H m u C r Q q
  cases x <;> first | exact h.elim | skip
  cases (show u = _ from r); exact ⟨_, rfl, q.pure C h rfl⟩
theorem l2_max {K : PySem.W.Frag} : L2f K fMax (fun u v H Q => ∃ i j, [u, v] = [.int i, .int j] ∧ Q (.int (if j > i then j else i)) H) := by
  intro x y c Φ h H m u v C r1 r2 Q q
  cases x <;> cases y <;> first | exact h.elim | skip
  cases (show u = _ from r1); cases (show v = _ from r2); exact ⟨_, _, rfl, q.pure C h rfl⟩
theorem l2_min {K : PySem.W.Frag} : L2f K fMin (fun u v H Q => ∃ i j, [u, v] = [.int i, .int j] ∧ Q (.int (if j < i then j else i)) H) := by
  intro x y c Φ h H m u v C r1 r2 Q q
  cases x <;> cases y <;> first | exact h.elim | skip
  cases (show u = _ from r1); cases (show v = _ from r2); exact ⟨_, _, rfl, q.pure C h rfl⟩
theorem l2_divmod {X : Cx} : L2f X.K fDivmod (fun u v H Q => ∃ i j, [u, v] = [.int i, .int j] ∧ CDiv i j ∧ ∀ p, H p = none → Q (.ref p) (upd H p (.tup [.int (i / j), .int (i % j)]))) := by
  intro x y c Φ h H m u v C r1 r2 Q q
  cases x <;> cases y <;> first | exact h.elim | skip
  cases (show u = _ from r1); cases (show v = _ from r2)
  exact ⟨_, _, rfl, h.1, fun t ht => KQ.newT (X := X) q C h.2 ⟨_, _, rfl, rfl, _, _, rfl, rfl, rfl⟩ ht⟩
theorem l1_tuple {X : Cx} : L1f X.K fTuple (fun u H Q => ∃ p ys, [u] = [.ref p] ∧ ((SqL X.K H p ys ∧ ∀ l, H l = none → Q (.ref l) (upd H l (.tup ys))) ∨ (SqT X.K H p ys ∧ Q (.ref p) H))) := by
  intro x c Φ h H m u C r Q q
  cases x <;> first | exact h.elim | skip
  · obtain ⟨p, xs, rfl, h1, h2⟩ := r
    exact ⟨p, xs, rfl, .inr ⟨ex_t (ex_hid m H) h1, q.pure C h ⟨p, xs, rfl, h1, h2⟩⟩⟩
  · obtain ⟨p, xs, rfl, h1, h2⟩ := r
    exact ⟨p, xs, rfl, .inl ⟨SqL.of h1, fun t ht => KQ.newT (X := X) q C h h2 ht⟩⟩
  · obtain ⟨p, xs, rfl, h1, h2⟩ := r
    exact ⟨p, xs, rfl, .inl ⟨ex_l (ex_hid m H) h1, fun t ht => KQ.newT (X := X) q C h h2 ht⟩⟩
theorem l1_list {X : Cx} : L1f X.K fList (fun u H Q => ∃ p ys, [u] = [.ref p] ∧ (SqL X.K H p ys ∨ SqT X.K H p ys) ∧ ∀ l, H l = none → Q (.ref l) (upd H l (.lst ys))) := by
  intro x c Φ h H m u C r Q q
  cases x <;> first | exact h.elim | skip
  · obtain ⟨p, xs, rfl, h1, h2⟩ := r
    exact ⟨p, xs, rfl, .inr (ex_t (ex_hid m H) h1), fun t ht => KQ.newL (X := X) q C h h2 ht⟩
  · obtain ⟨p, xs, rfl, h1, h2⟩ := r
    exact ⟨p, xs, rfl, .inl (SqL.of h1), fun t ht => KQ.newL (X := X) q C h h2 ht⟩
  · obtain ⟨p, xs, rfl, h1, h2⟩ := r
    exact ⟨p, xs, rfl, .inl (ex_l (ex_hid m H) h1), fun t ht => KQ.newL (X := X) q C h h2 ht⟩
theorem l1_all {K : PySem.W.Frag} : L1f K fAll (fun u H Q => rAll K [u] H Q) := by
  intro x c Φ h H m u C r Q q
  cases x <;> first | exact h.elim | skip
  obtain ⟨p, xs, rfl, h1, h2⟩ := r
  obtain ⟨bs, e, h⟩ := h
  exact ⟨p, bs, rfl, SqL.of (by rw [h1, bls_map _ _ _ h2 e]), q.pure C h rfl⟩
theorem l1_any {K : PySem.W.Frag} : L1f K fAny (fun u H Q => rAny K [u] H Q) := by
  intro x c Φ h H m u C r Q q
  cases x <;> first | exact h.elim | skip
  obtain ⟨p, xs, rfl, h1, h2⟩ := r
  obtain ⟨bs, e, h⟩ := h
  exact ⟨p, bs, rfl, SqL.of (by rw [h1, bls_map _ _ _ h2 e]), q.pure C h rfl⟩
end
end Cw

namespace Cw
open PySem PySem.Spec PyProof.Rows L2
section
variable {X : Cx} {e e2 o : Expr} {ta tb : TD} {pos pp apos : Pos}
theorem pd_len (ha : PD X e ta) (hm : X.mg "len" = none) (hg : Gl X "len" := by rfl) (he : starEach [e] X.env = (false, eval e X.env) :: starEach [] X.env := by rfl) (hpl : (backTo pos (starEach [] X.env)).any (·.1) = false := by rfl) :
    PD X (.Call (.Name "len" pp) [e] [] pos) (dCB (un1 fLen) (dCons ta dNil)) := pd_B1 call_len l1_len boot_len (by decide) (by decide) ha hg hm he hpl
theorem pd_intc (ha : PD X e ta) (hm : X.mg "int" = none) (hg : Gl X "int" := by rfl) (he : starEach [e] X.env = (false, eval e X.env) :: starEach [] X.env := by rfl) (hpl : (backTo pos (starEach [] X.env)).any (·.1) = false := by rfl) :
    PD X (.Call (.Name "int" pp) [e] [] pos) (dCB (un1 fInt) (dCons ta dNil)) := pd_T1 (CallR.or call_int1 call_int_str) l1_int boot_int (by decide) (by decide) ha hg hm he hpl
theorem pd_strc (ha : PD X e ta) (hm : X.mg "str" = none) (hg : Gl X "str" := by rfl) (he : starEach [e] X.env = (false, eval e X.env) :: starEach [] X.env := by rfl) (hpl : (backTo pos (starEach [] X.env)).any (·.1) = false := by rfl) :
    PD X (.Call (.Name "str" pp) [e] [] pos) (dCB (un1 fStr) (dCons ta dNil)) := pd_T1 (CallR.or call_str_int SkE.call_str_str) l1_str boot_str (by decide) (by decide) ha hg hm he hpl
theorem pd_abs (ha : PD X e ta) (hm : X.mg "abs" = none) (hg : Gl X "abs" := by rfl) (he : starEach [e] X.env = (false, eval e X.env) :: starEach [] X.env := by rfl) (hpl : (backTo pos (starEach [] X.env)).any (·.1) = false := by rfl) :
    PD X (.Call (.Name "abs" pp) [e] [] pos) (dCB (un1 fAbs) (dCons ta dNil)) := pd_B1 call_abs l1_abs boot_abs (by decide) (by decide) ha hg hm he hpl
theorem pd_max (hc : X.calm = true) (ha : PD X e ta) (hb : PD X e2 tb) (hm : X.mg "max" = none) (hg : Gl X "max" := by rfl) (he : starEach [e, e2] X.env = (false, eval e X.env) :: starEach [e2] X.env := by rfl) (he2 : starEach [e2] X.env = (false, eval e2 X.env) :: starEach [] X.env := by rfl) (hpl : (backTo pos (starEach [e2] X.env)).any (·.1) = false := by rfl) :
    PD X (.Call (.Name "max" pp) [e, e2] [] pos) (dCB (un2 fMax) (dCons ta (dCons tb dNil))) := pd_B2 (call_max2 hc) l2_max boot_max (by decide) (by decide) ha hb hg hm he he2 hpl
theorem pd_min (hc : X.calm = true) (ha : PD X e ta) (hb : PD X e2 tb) (hm : X.mg "min" = none) (hg : Gl X "min" := by rfl) (he : starEach [e, e2] X.env = (false, eval e X.env) :: starEach [e2] X.env := by rfl) (he2 : starEach [e2] X.env = (false, eval e2 X.env) :: starEach [] X.env := by rfl) (hpl : (backTo pos (starEach [e2] X.env)).any (·.1) = false := by rfl) :
    PD X (.Call (.Name "min" pp) [e, e2] [] pos) (dCB (un2 fMin) (dCons ta (dCons tb dNil))) := pd_B2 (call_min2 hc) l2_min boot_min (by decide) (by decide) ha hb hg hm he he2 hpl
theorem pd_divmod (ha : PD X e ta) (hb : PD X e2 tb) (hm : X.mg "divmod" = none) (hg : Gl X "divmod" := by rfl) (he : starEach [e, e2] X.env = (false, eval e X.env) :: starEach [e2] X.env := by rfl) (he2 : starEach [e2] X.env = (false, eval e2 X.env) :: starEach [] X.env := by rfl) (hpl : (backTo pos (starEach [e2] X.env)).any (·.1) = false := by rfl) :
    PD X (.Call (.Name "divmod" pp) [e, e2] [] pos) (dCB (un2 fDivmod) (dCons ta (dCons tb dNil))) := pd_B2 call_divmod l2_divmod boot_divmod (by decide) (by decide) ha hb hg hm he he2 hpl
theorem pd_tuplec (ha : PD X e ta) (hm : X.mg "tuple" = none) (hg : Gl X "tuple" := by rfl) (he : starEach [e] X.env = (false, eval e X.env) :: starEach [] X.env := by rfl) (hpl : (backTo pos (starEach [] X.env)).any (·.1) = false := by rfl) :
    PD X (.Call (.Name "tuple" pp) [e] [] pos) (dCB (un1 fTuple) (dCons ta dNil)) := pd_T1 call_tuple_of l1_tuple boot_tuple (by decide) (by decide) ha hg hm he hpl
theorem pd_listc (ha : PD X e ta) (hm : X.mg "list" = none) (hg : Gl X "list" := by rfl) (he : starEach [e] X.env = (false, eval e X.env) :: starEach [] X.env := by rfl) (hpl : (backTo pos (starEach [] X.env)).any (·.1) = false := by rfl) :
    PD X (.Call (.Name "list" pp) [e] [] pos) (dCB (un1 fList) (dCons ta dNil)) := pd_T1 call_list_of l1_list boot_list (by decide) (by decide) ha hg hm he hpl
theorem pd_all (hc : X.calm = true) (ha : PD X e ta) (hm : X.mg "all" = none) (hg : Gl X "all" := by rfl) (he : starEach [e] X.env = (false, eval e X.env) :: starEach [] X.env := by rfl) (hpl : (backTo pos (starEach [] X.env)).any (·.1) = false := by rfl) :
    PD X (.Call (.Name "all" pp) [e] [] pos) (dCB (un1 fAll) (dCons ta dNil)) := pd_B1 (cr_all hc) l1_all boot_all (by decide) (by decide) ha hg hm he hpl

/-! ### methods of texts -/
def fSplit : F2
  | .str a, .str b, c, Φ => (b.length == 0) = false ∧ a.length + 2 ≤ sizeLine ∧ Φ (.lst ((Txt.split a b).map .str)) c
  | _, _, _, _ => False
def txts : List D → Option (List Str)
  | [] => some []
  | .str x :: r => (txts r).map (x :: ·)
  | _ => none
def fJoin : F2
  | .str a, .lst ds, c, Φ => ∃ ys, txts ds = some ys ∧ (ys.map (·.length)).sum + ys.length * a.length ≤ 16777216 ∧ Φ (.str (Txt.join a ys)) c
  | .str a, .tup ds, c, Φ => ∃ ys, txts ds = some ys ∧ (ys.map (·.length)).sum + ys.length * a.length ≤ 16777216 ∧ Φ (.str (Txt.join a ys)) c
  | _, _, _, _ => False
def fStarts : F2
  | .str a, .str b, c, Φ => Φ (.bl (Txt.startswith a b)) c
  | _, _, _, _ => False
theorem txts_map {K : PySem.W.Frag} {m : List Addr} {H : Hp} : ∀ (ds : List D) (xs : List V) (bs : List Str), RL K m H ds xs → txts ds = some bs → xs = bs.map V.str
  | [], _, _, h, e => by cases e; exact h
  | d :: ds, _, bs, ⟨x, r, e1, h1, h2⟩, e => by
    subst e1
    cases d with
    | str b =>
      change (txts ds).map (b :: ·) = some bs at e
      cases e2 : txts ds with
      | none => rw [e2] at e; cases e
      | some cs => rw [e2] at e; cases e; cases (show x = V.str b from h1); rw [txts_map ds r cs h2 e2]; rfl
    | _ => cases e
theorem rl_txts {K : PySem.W.Frag} {m : List Addr} {H : Hp} : ∀ (ys : List Str), RL K m H (ys.map D.str) (ys.map V.str)
  | [] => rfl
  | y :: ys => ⟨_, _, rfl, rfl, rl_txts ys⟩
theorem txts_of : ∀ (ys : List Str), txts (ys.map D.str) = some ys
  | [] => rfl
  | y :: ys => by show (txts (ys.map D.str)).map (y :: ·) = _; rw [txts_of ys]; rfl
def isS : D → Bool
  | .str _ => true
  | _ => false
/-- o.m(e), o a text -/
def dM1 (f : F2) (to te : TD) : TD := fun ρ c Φ => to ρ c fun x c1 => ∃ z, x = .str z ∧ te ρ c1 fun y c2 => f (.str z) (vw c2 y) c2 Φ
theorem lift_m1 {K : PySem.W.Frag} {f : F2} {r : V → List V → Hp → VK → Prop} {σ : L2.St} {H : Hp} {Q : VK} (l : L2f K f (fun u v H Q => r u [v] H Q)) (h : lift K (dM1 f ta tb) σ H Q) : tM1 r (lift K ta) (lift K tb) σ H Q := by
  obtain ⟨m, ρ, c, Φ, S, h, q⟩ := h
  refine ⟨m, ρ, c, _, S, h, fun x c1 u H1 m1 hx C1 R1 L1 => ?_⟩
  obtain ⟨z, rfl, hx⟩ := hx
  refine ⟨⟨z, R1⟩, m1, ρ, c1, _, S.step L1 C1, hx, fun y c2 v H2 m2 hy C2 R2 L2 => ?_⟩
  exact l _ _ c2 Φ hy H2 m2 u v C2 R1 (W.vw C2 R2) Q fun d c' w H' m' hd C' R' L' => q d c' w H' m' hd C' R' (L1.trans (L2.trans L'))
theorem pd_split (ho : PD X o ta) (he : PD X e tb) (hs : starEach [e] X.env = [(false, eval e X.env)] := by rfl) (hbase : attributeBase o "split" X.env (eval o X.env) = eval o X.env := by rfl) (hline : (apos.endLine == pos.line) = true := by rfl) :
    PD X (.Call (.Attribute o "split" apos) [e] [] pos) (dM1 fSplit ta tb) := PE.imp (pe_split ho he hs hbase hline) fun σ H Q h => lift_m1 (by
      intro x y c Φ h H m u v C r1 r2 Q q
      cases x <;> cases y <;> first | exact h.elim | skip
      cases (show u = _ from r1); cases (show v = _ from r2)
      exact ⟨_, _, rfl, rfl, h.1, h.2.1, fun p hp => KQ.newL (X := X) q C h.2.2 (rl_txts _) hp⟩) h
theorem pd_join (ho : PD X o ta) (he : PD X e tb) (hs : starEach [e] X.env = [(false, eval e X.env)] := by rfl) (hbase : attributeBase o "join" X.env (eval o X.env) = eval o X.env := by rfl) (hline : (apos.endLine == pos.line) = true := by rfl) :
    PD X (.Call (.Attribute o "join" apos) [e] [] pos) (dM1 fJoin ta tb) := PE.imp (pe_join ho he hs hbase hline) fun σ H Q h => lift_m1 (by
      intro x y c Φ h H m u v C r1 r2 Q q
      cases x <;> cases y <;> first | exact h.elim | skip
      · cases (show u = _ from r1)
        obtain ⟨p, xs, rfl, h1, h2⟩ := r2
        obtain ⟨ys, e1, e2, h⟩ := h
        exact ⟨_, p, ys, rfl, rfl, .inr (by rw [← txts_map _ _ _ h2 e1]; exact ex_t (ex_hid m H) h1), e2, q.pure C h rfl⟩
      · cases (show u = _ from r1)
        obtain ⟨p, xs, rfl, h1, h2⟩ := r2
        obtain ⟨ys, e1, e2, h⟩ := h
        exact ⟨_, p, ys, rfl, rfl, .inl (by rw [← txts_map _ _ _ h2 e1]; exact SqL.of h1), e2, q.pure C h rfl⟩) h
theorem pd_starts (ho : PD X o ta) (he : PD X e tb) (hs : starEach [e] X.env = [(false, eval e X.env)] := by rfl) (hbase : attributeBase o "startswith" X.env (eval o X.env) = eval o X.env := by rfl) (hline : (apos.endLine == pos.line) = true := by rfl) :
    PD X (.Call (.Attribute o "startswith" apos) [e] [] pos) (dM1 fStarts ta tb) := PE.imp (pe_m1 F.slot_str_startswith F.type_str_startswith mt_startswith ho he hs hbase hline) fun σ H Q h => lift_m1 (by
      intro x y c Φ h H m u v C r1 r2 Q q
      cases x <;> cases y <;> first | exact h.elim | skip
      cases (show u = _ from r1); cases (show v = _ from r2)
      exact ⟨_, _, rfl, rfl, q.pure C h rfl⟩) h

/-! ### xs.append(e), xs a cell -/
def dAppend (to te : TD) : TD := fun ρ c Φ => to ρ c fun x c1 => ∃ k, x = .cell k ∧ (∃ ds, c1[k]? = some (.lst ds)) ∧ te ρ c1 fun y c2 => ∃ ds, c2[k]? = some (.lst ds) ∧ ds.length < sizeLine ∧ Φ .non (c2.set k (.lst (ds ++ [y])))
theorem cell_put {K : PySem.W.Frag} {m : Ad} {H : Hp} {c : List Cell} {k : Nat} {a : Addr} {o : HO} {ce : Cell} (C : CR K H m c) (hk : m.ix[k]? = some a) (hc : CellAt K m (upd H a o) a ce) : CR K (upd H a o) m (c.set k ce) ∧ Le m H m (upd H a o) := by
  have ha : a ∈ m.ix := List.mem_of_getElem? hk
  have l : Le m H m (upd H a o) := ⟨fun _ _ e => e, by rw [hid_mut ha]; exact Ex.refl _, rfl, fun b hb => upd_ne fun e => C.dj a ha (by rw [← e]; exact hb), fun _ h => .inl h, fun _ h => upd_none h⟩
  refine ⟨⟨by rw [List.length_set]; exact C.len, C.nd, fun j ce' e => ?_, fun b hb => ?_, C.dj⟩, l⟩
  · by_cases hj : k = j
    · subst hj
      have hl : k < c.length := by rw [← C.len]; exact (List.getElem?_eq_some_iff.mp hk).1
      rw [List.getElem?_set_self hl] at e
      cases e
      exact ⟨a, hk, hc⟩
    · rw [List.getElem?_set_ne hj] at e
      obtain ⟨b, h1, h2⟩ := C.at_ j ce' e
      have ne : b ≠ a := fun z => by
        subst z
        have h3 := (List.getElem?_eq_some_iff.mp hk)
        have h4 := (List.getElem?_eq_some_iff.mp h1)
        exact hj ((List.getElem_inj C.nd).mp (h3.2.trans h4.2.symm))
      exact ⟨b, h1, h2.step l fun o' e' => by rw [upd_ne ne]; exact e'⟩
  · obtain ⟨o', h3⟩ := C.hs b hb
    exact ⟨o', by rw [upd_ne fun e => C.dj a ha (by rw [← e]; exact hb)]; exact h3⟩
theorem pd_append (ho : PD X o ta) (he : PD X e tb)
    (hbase : attributeBase o "append" X.env (eval o X.env) = eval o X.env := by rfl)
    (hfew : ((backTo pos (starEach [e] X.env)).all (fun x => !x.1) && (backToKw pos (keywordEach [] X.env)).all (fun x => x.1.isSome) && decide ([e].length + ([] : List Keyword).length + (if ([] : List Keyword).isEmpty then 0 else 1) < 30)) = true := by rfl)
    (hline : (apos.endLine == pos.line) = true := by rfl) (hs : starEach [e] X.env = (false, eval e X.env) :: starEach [] X.env := by rfl) (hplain : (backTo pos (starEach [] X.env)).any (·.1) = false := by rfl) :
    PD X (.Call (.Attribute o "append" apos) [e] [] pos) (dAppend ta tb) :=
  PE.imp (pe_bm PySem.F.plainAttrs_list PySem.F.slot_list_append PySem.F.type_list_append mt_append ho (pds_cons he pds_nil hs) hbase hfew hline hs hplain) fun σ H Q ⟨m, ρ, c, Φ, S, h, q⟩ =>
  ⟨m, ρ, c, _, S, h, fun x c1 u H1 m1 hx C1 R1 L1 => by
    obtain ⟨k, rfl, ⟨ds, hk⟩, hx⟩ := hx
    obtain ⟨a, ha, rfl⟩ := R1
    obtain ⟨b, hb, xs, h1, h2⟩ := C1.at_ k _ hk
    rw [ha] at hb; cases hb
    refine ⟨.inl ⟨rfl, xs, SqL.of h1⟩, m1, ρ, c1, _, S.step L1 C1, (show dCons tb dNil ρ c1 (fun ys c2 => ∃ y, ys = [y] ∧ ∃ ds, c2[k]? = some (.lst ds) ∧ ds.length < sizeLine ∧ Φ .non (c2.set k (.lst (ds ++ [y])))) from ?_), fun ys c2 vs H2 m2 hy C2 R2 L2 => ?_⟩
    · show tb ρ c1 _
      have e : (fun x c1 => dNil ρ c1 fun xs c2 => ∃ y, x :: xs = [y] ∧ ∃ ds, c2[k]? = some (.lst ds) ∧ ds.length < sizeLine ∧ Φ .non (c2.set k (.lst (ds ++ [y])))) = fun y c2 => ∃ ds, c2[k]? = some (.lst ds) ∧ ds.length < sizeLine ∧ Φ .non (c2.set k (.lst (ds ++ [y]))) := by
        funext y c2
        apply propext
        constructor
        · rintro ⟨z, hz, r⟩; cases hz; exact r
        · intro r; exact ⟨y, rfl, r⟩
      rw [e]; exact hx
    · obtain ⟨y, rfl, es, hk2, hl, hq⟩ := hy
      obtain ⟨v, r, rfl, rv, rr⟩ := R2
      cases (show r = [] from rr)
      obtain ⟨b, hb, xs2, h3, h4⟩ := C2.at_ k _ hk2
      rw [L2.pre k a ha] at hb; cases hb
      refine ⟨a, xs2, v, rfl, rfl, h3, by rw [rlen h4]; exact hl, ?_⟩
      have hm : a ∈ m2.ix := List.mem_of_getElem? (L2.pre k a ha)
      have z := cell_put (o := .lst (xs2 ++ [v])) (ce := .lst (es ++ [y])) C2 (L2.pre k a ha) ⟨_, upd_same, by show RL _ _ (hid m2 _) _ _; rw [hid_mut hm]; exact RL.append h4 ⟨v, [], rfl, rv, rfl⟩⟩
      exact q .non _ .non _ m2 hq z.1 rfl (L1.trans (L2.trans z.2))⟩
end
end Cw

namespace Cw
open PySem PySem.Spec PyProof.Rows L2

/-! ### statements -/
structure DEnds where
  nx : Env → List Cell → Prop
  rt : D → List Cell → Prop
  bk : Env → List Cell → Prop := fun _ _ => False
  ct : Env → List Cell → Prop := fun _ _ => False
abbrev TSD := DEnds → Env → List Cell → Prop
abbrev KN (K : PySem.W.Frag) (H : Hp) (m : Ad) (Φ : Env → List Cell → Prop) (Q : L2.St → Hp → Prop) : Prop := ∀ σ' H' m' ρ' c', Φ ρ' c' → SR K σ' H' m' ρ' c' → Le m H m' H' → Q σ' H'
def liftS (K : PySem.W.Frag) (t : TSD) : TS := fun Dn σ H => ∃ (m : Ad) (ρ : Env) (c : List Cell) (De : DEnds), SR K σ H m ρ c ∧ t De ρ c ∧
  KN K H m De.nx Dn.nx ∧ KQ K H m De.rt Dn.rt ∧ KN K H m De.bk Dn.bk ∧ KN K H m De.ct Dn.ct
abbrev PSD (X : Cx) (s : Stmt) (t : TSD) : Prop := PS X s (liftS X.K t)
abbrev PSDs (X : Cx) (s : List Stmt) (t : TSD) : Prop := PSs X s (liftS X.K t)
theorem KN.le {K : PySem.W.Frag} {H H1 : Hp} {m m1 : Ad} {Φ : Env → List Cell → Prop} {Q : L2.St → Hp → Prop} (k : KN K H m Φ Q) (l : Le m H m1 H1) : KN K H1 m1 Φ Q := fun σ' H' m' ρ' c' h s l' => k σ' H' m' ρ' c' h s (l.trans l')
theorem KQ.le {K : PySem.W.Frag} {H H1 : Hp} {m m1 : Ad} {Φ : D → List Cell → Prop} {Q : VK} (k : KQ K H m Φ Q) (l : Le m H m1 H1) : KQ K H1 m1 Φ Q := fun d c' w H' m' h C R l' => k d c' w H' m' h C R (l.trans l')
def dNext : TSD := fun D ρ c => D.nx ρ c
def dSeq (t u : TSD) : TSD := fun D ρ c => t { D with nx := u D } ρ c
section
variable {X : Cx} {st : Stmt} {rest : List Stmt} {t u : TSD} {e e2 o : Expr} {ta tb : TD} {pos pos' pp apos : Pos} {tA : TDt}
theorem psd_nil : PSDs X [] dNext := PSs.imp pss_nil fun Dn σ H ⟨m, ρ, c, De, S, h, n, r, b, k⟩ => n σ H m ρ c h S (Le.refl _ _)
theorem psd_cons (h1 : PSD X st t) (h2 : PSDs X rest u) : PSDs X (st :: rest) (dSeq t u) := PSs.imp (pss_cons h1 h2) fun Dn σ H ⟨m, ρ, c, De, S, h, n, r, b, k⟩ =>
  ⟨m, ρ, c, { De with nx := u De }, S, h, fun σ' H' m' ρ' c' h' S' l => ⟨m', ρ', c', De, S', h', n.le l, r.le l, b.le l, k.le l⟩, r, b, k⟩
theorem psd_one (h1 : PSD X st t) : PSDs X [st] t := pss_one h1
def dRet (ta : TD) : TSD := fun D ρ c => ta ρ c D.rt
theorem psd_ret (h : PD X e ta) : PSD X (.Return (some e) pos) (dRet ta) := PS.imp (ps_ret h) fun Dn σ H ⟨m, ρ, c, De, S, h, n, r, b, k⟩ => ⟨m, ρ, c, De.rt, S, h, r⟩
def dDrop (ta : TD) : TSD := fun D ρ c => ta ρ c fun _ c1 => D.nx ρ c1
theorem psd_expr (h : PD X e ta) (hs : swapsWith e none pos.line X.env = pure false := by rfl) : PSD X (.Expr e pos) (dDrop ta) := PS.imp (ps_expr h hs) fun Dn σ H ⟨m, ρ, c, De, S, h, n, r, b, k⟩ =>
  ⟨m, ρ, c, _, S, h, fun d c' w H' m' hd C R L => n σ H' m' ρ c' hd (S.step L C) L⟩
def dIfS (tc : TDt) (t u : TSD) : TSD := fun D ρ c => tc ρ c fun b c1 => match b with | true => t D ρ c1 | false => u D ρ c1
theorem psd_if {cE : Expr} {a b : List Stmt} (hc : PDt X cE tA) (ha : PSDs X a t) (hb : PSDs X b u) : PSD X (.If cE a b pos) (dIfS tA t u) := PS.imp (ps_if hc ha hb) fun Dn σ H ⟨m, ρ, c, De, S, h, n, r, b, k⟩ =>
  ⟨m, ρ, c, _, S, h, fun bo c1 H1 m1 hx C1 L1 => by
    cases bo with
    | true => rw [if_pos rfl]; exact ⟨m1, ρ, c1, De, S.step L1 C1, hx, n.le L1, r.le L1, b.le L1, k.le L1⟩
    | false => rw [if_neg (by decide)]; exact ⟨m1, ρ, c1, De, S.step L1 C1, hx, n.le L1, r.le L1, b.le L1, k.le L1⟩⟩
def dNever : TSD := fun _ _ _ => False
theorem psd_never : PSD X st dNever := PS.imp ps_never fun Dn σ H ⟨m, ρ, c, De, S, h, _⟩ => h
theorem psds_never : PSDs X rest dNever := PSs.imp pss_never fun Dn σ H ⟨m, ρ, c, De, S, h, _⟩ => h
theorem psd_pass : PSD X (.Pass pos) dNext := PS.imp ps_pass fun Dn σ H ⟨m, ρ, c, De, S, h, n, _⟩ => n σ H m ρ c h S (Le.refl _ _)
theorem psd_continue : PSD X (.Continue pos) (fun D ρ c => D.ct ρ c) := PS.imp ps_continue fun Dn σ H ⟨m, ρ, c, De, S, h, n, r, b, k⟩ => k σ H m ρ c h S (Le.refl _ _)
theorem psd_break : PSD X (.Break pos) (fun D ρ c => D.bk ρ c) := PS.imp ps_break fun Dn σ H ⟨m, ρ, c, De, S, h, n, r, b, k⟩ => b σ H m ρ c h S (Le.refl _ _)

/-! ### targets -/
theorem SR.set {K : PySem.W.Frag} {σ : L2.St} {H : Hp} {m : Ad} {ρ : Env} {c : List Cell} {i : Nat} {d : D} {v : V} (S : SR K σ H m ρ c) (r : RR K H m d v) : SR K (σ.set i (some v)) H m (ρ.set i (some d)) c := by
  refine ⟨S.cr, by rw [List.length_set, List.length_set]; exact S.len, fun j d' e => ?_⟩
  by_cases hj : i = j
  · subst hj
    have hl := (List.getElem?_eq_some_iff.mp e).1
    rw [List.length_set] at hl
    rw [List.getElem?_set_self hl] at e
    cases e
    exact ⟨v, by rw [List.getElem?_set_self (by rw [← S.len]; exact hl)], r⟩
  · rw [List.getElem?_set_ne hj] at e
    obtain ⟨w, h1, h2⟩ := S.sl j d' e
    exact ⟨w, by rw [List.getElem?_set_ne hj]; exact h1, h2⟩
def dSet (i : Nat) (ta : TD) : TSD := fun D ρ c => ta ρ c fun d c1 => D.nx (ρ.set i (some d)) c1
theorem psd_set {i : Nat} {x : Str} (hN : X.N.Nodup) (h : PD X e ta) (hi : X.N[i]? = some x := by rfl) (hx : Loc X.env.scope x := by first | exact Or.inl rfl | exact Or.inr rfl) (hs : swapsWith e (some (.Name x pos')) pos.line X.env = pure false := by rfl)
    (hf : X.fn x = true ∨ X.env.scope.names.lookup x = some .local := by first | exact .inl rfl | exact .inr rfl) : PSD X (.Assign [.Name x pos'] e pos) (dSet i ta) :=
  PS.imp (ps_set hN hi hx h hs hf) fun Dn σ H ⟨m, ρ, c, De, S, h, n, r, b, k⟩ => ⟨m, ρ, c, _, S, h, fun d c' w H' m' hd C R L => n _ H' m' _ c' hd ((S.step L C).set R) L⟩
abbrev TGD := D → Env → List Cell → (Env → List Cell → Prop) → Prop
abbrev TGDs := List D → Env → List Cell → (Env → List Cell → Prop) → Prop
def liftG (K : PySem.W.Frag) (t : TGD) : TG := fun v σ H Q => ∃ (m : Ad) (ρ : Env) (c : List Cell) (d : D) (Φ : Env → List Cell → Prop), SR K σ H m ρ c ∧ RR K H m d v ∧ t d ρ c Φ ∧ KN K H m Φ Q
def liftGs (K : PySem.W.Frag) (t : TGDs) : TGs := fun vs σ H Q => ∃ (m : Ad) (ρ : Env) (c : List Cell) (ds : List D) (Φ : Env → List Cell → Prop), SR K σ H m ρ c ∧ RRL K H m ds vs ∧ t ds ρ c Φ ∧ KN K H m Φ Q
abbrev PGD (X : Cx) (e : Expr) (t : TGD) : Prop := PG X e (liftG X.K t)
abbrev PGDs (X : Cx) (es : List Expr) (t : TGDs) : Prop := PGs X es (liftGs X.K t)
theorem PG.imp {t t' : TG} (h : PG X e t) (i : ∀ v σ H Q, t' v σ H Q → t v σ H Q) : PG X e t' := ⟨fun pins s σ H v u Q I r w => h.run pins s σ H v u Q I r (i v σ H Q w)⟩
theorem PGs.imp {es : List Expr} {t t' : TGs} (h : PGs X es t) (i : ∀ v σ H Q, t' v σ H Q → t v σ H Q) : PGs X es t' := ⟨fun pins s σ H v u Q I r w => h.run pins s σ H v u Q I r (i v σ H Q w)⟩
def gNm (i : Nat) : TGD := fun d ρ c Φ => Φ (ρ.set i (some d)) c
theorem pgd_name {i : Nat} {x : Str} (hN : X.N.Nodup) (hi : X.N[i]? = some x := by rfl) (hx : Loc X.env.scope x := by first | exact Or.inl rfl | exact Or.inr rfl) (hf : X.fn x = true ∨ X.env.scope.names.lookup x = some .local := by first | exact .inl rfl | exact .inr rfl) : PGD X (.Name x pos) (gNm i) :=
  PG.imp (pg_name hN hi hx hf) fun v σ H Q ⟨m, ρ, c, d, Φ, S, r, h, n⟩ => n _ H m _ c h (S.set r) (Le.refl _ _)
def gNl : TGDs := fun ds ρ c Φ => ds = [] ∧ Φ ρ c
def gCn (t : TGD) (u : TGDs) : TGDs := fun ds ρ c Φ => match ds with
  | d :: r => t d ρ c fun ρ1 c1 => u r ρ1 c1 Φ
  | [] => False
theorem pgds_nil : PGDs X [] gNl := PGs.imp pgs_nil fun vs σ H Q ⟨m, ρ, c, ds, Φ, S, r, h, n⟩ => by
  obtain ⟨rfl, h⟩ := h
  exact ⟨r, n σ H m ρ c h S (Le.refl _ _)⟩
theorem pgds_cons {es : List Expr} {t : TGD} {u : TGDs} (h1 : PGD X e t) (h2 : PGDs X es u) (hs : (assignEach (e :: es) X.env).map (·.2) = assign e X.env :: (assignEach es X.env).map (·.2) := by rfl) : PGDs X (e :: es) (gCn t u) :=
  PGs.imp (pgs_cons h1 h2 hs) fun vs σ H Q ⟨m, ρ, c, ds, Φ, S, r, h, n⟩ => by
    cases ds with
    | nil => exact h.elim
    | cons d ds =>
      obtain ⟨v, vr, rfl, r1, r2⟩ := r
      exact ⟨v, vr, rfl, m, ρ, c, d, _, S, r1, h, fun σ' H' m' ρ' c' h' S' l => ⟨m', ρ', c', ds, Φ, S', l.rl r2, h', n.le l⟩⟩
def gTp (k : Nat) (t : TGDs) : TGD := fun d ρ c Φ => match d with
  | .tup ds => ds.length = k ∧ t ds ρ c Φ
  | _ => False
theorem pgd_tup {es : List Expr} {k : Nat} {t : TGDs} {n : Nat} (hc : X.calm = true) (h : PGDs X es t) (hn : (assignEach es X.env).length = n := by rfl) (hst : (assignEach es X.env).findIdx? (·.1) = none := by rfl) : PGD X (.Tuple es k pos) (gTp n t) :=
  PG.imp (pg_tup hc h hn hst) fun v σ H Q ⟨m, ρ, c, d, Φ, S, r, h, nn⟩ => by
    cases d <;> first | exact h.elim | skip
    obtain ⟨a, xs, rfl, h1, h2⟩ := r
    exact ⟨a, xs, rfl, ex_t (ex_hid m H) h1, by rw [rlen h2]; exact h.1, m, ρ, c, _, Φ, S, h2, h.2, nn⟩
/-- xs[i] = .., xs a cell -/
def gSb (to ti : TD) : TGD := fun d ρ c Φ => to ρ c fun x c1 => ∃ k, x = .cell k ∧ ti ρ c1 fun y c2 => ∃ i ds j, y = .int i ∧ c2[k]? = some (.lst ds) ∧ ixN ds.length i = some j ∧ Φ ρ (c2.set k (.lst (ds.set j d)))
theorem pgd_sub {i : Expr} (ho : PD X o ta) (hi : PD X i tb)
    (ha : ∀ v, assign (.Subscript o i pos) X.env v = (do
      let ov ← holding [v] (eval o X.env)
      let iv ← holding [v, ov] (eval i X.env)
      standAt pos
      holding [v, ov, iv] (setItem ov iv v)
      release [v, ov, iv] []) := by intro _; rfl) : PGD X (.Subscript o i pos) (gSb ta tb) :=
  PG.imp (pg_sub ho hi set_list ha) fun v σ H Q ⟨m, ρ, c, d, Φ, S, r, h, n⟩ =>
  ⟨m, ρ, c, _, S, h, fun x c1 u H1 m1 hx C1 R1 L1 => by
    obtain ⟨k, rfl, hx⟩ := hx
    obtain ⟨a, ha, rfl⟩ := R1
    refine ⟨m1, ρ, c1, _, S.step L1 C1, hx, fun y c2 w H2 m2 hy C2 R2 L2 => ?_⟩
    obtain ⟨i', ds, j, rfl, hk, hj, hq⟩ := hy
    obtain ⟨b, hb, xs, h1, h2⟩ := C2.at_ k _ hk
    rw [L2.pre k a ha] at hb; cases hb
    refine ⟨a, xs, i', j, rfl, R2, h1, by rw [rlen h2]; exact hj, ?_⟩
    have hm : a ∈ m2.ix := List.mem_of_getElem? (L2.pre k a ha)
    have z := cell_put (o := .lst (xs.set j v)) (ce := .lst (ds.set j d)) C2 (L2.pre k a ha) ⟨_, upd_same, by show RL _ _ (hid m2 _) _ _; rw [hid_mut hm]; exact RL.set ((L1.trans L2).r r) j h2⟩
    exact n σ _ m2 ρ _ hq ((S.step (L1.trans L2) C2).step z.2 z.1) ((L1.trans L2).trans z.2)⟩
def dAsg (te : TD) (g : TGD) : TSD := fun D ρ c => te ρ c fun d c1 => g d ρ c1 D.nx
theorem psd_asg {tg : Expr} {g : TGD} (he : PD X e ta) (hg : PGD X tg g) (hs : swapsWithSole [tg] e pos.line X.env = pure false := by rfl) (hw : swappedStores [tg] e X.env = pure none := by rfl) (h1 : (assignEach [tg] X.env).map (·.2) = [assign tg X.env] := by rfl) :
    PSD X (.Assign [tg] e pos) (dAsg ta g) := PS.imp (ps_asg he hg hs hw h1) fun Dn σ H ⟨m, ρ, c, De, S, h, n, r, b, k⟩ =>
  ⟨m, ρ, c, _, S, h, fun d c' w H' m' hd C R L => ⟨m', ρ, c', d, _, S.step L C, R, hd, n.le L⟩⟩
/-- a, b = x, y -/
def dPar (i j : Nat) (ta tb : TD) : TSD := fun D ρ c => ta ρ c fun x c1 => tb ρ c1 fun y c2 => D.nx ((ρ.set i (some x)).set j (some y)) c2
theorem psd_par {i j : Nat} {x y : Str} {a b : Expr} {px py pt : Pos} {kt k2 pt2} (hc : X.calm = true) (hN : X.N.Nodup) (ha : PD X a ta) (hb : PD X b tb) (hi : X.N[i]? = some x := by rfl) (hj : X.N[j]? = some y := by rfl) (hij : i ≠ j := by decide)
    (hx : X.env.scope.names.lookup x = some .local := by rfl) (hy : X.env.scope.names.lookup y = some .local := by rfl)
    (hs2 : starEach (a :: [b]) X.env = (false, eval a X.env) :: starEach [b] X.env := by rfl) (hs1 : starEach (b :: []) X.env = (false, eval b X.env) :: starEach [] X.env := by rfl)
    (hw : swappedStores [.Tuple [.Name x px, .Name y py] kt pt] (.Tuple [a, b] k2 pt2) X.env = pure (some [x, y]) := by rfl)
    (hs : swapsWithSole [.Tuple [.Name x px, .Name y py] kt pt] (.Tuple [a, b] k2 pt2) pos.line X.env = pure false := by rfl) :
    PSD X (.Assign [.Tuple [.Name x px, .Name y py] kt pt] (.Tuple [a, b] k2 pt2) pos) (dPar i j ta tb) :=
  PS.imp (ps_par hc hN hi hj hij hx hy (pds_cons ha (pds_cons hb pds_nil hs1) hs2) hw hs) fun Dn σ H ⟨m, ρ, c, De, S, h, n, r, b, k⟩ =>
  ⟨m, ρ, c, (fun ds c2 => ∃ x y, ds = [x, y] ∧ De.nx ((ρ.set i (some x)).set j (some y)) c2), S, (show ta ρ c fun x c1 => tb ρ c1 fun y c2 => ∃ x' y', [x, y] = [x', y'] ∧ De.nx ((ρ.set i (some x')).set j (some y')) c2 by
    have e : (fun x c1 => tb ρ c1 fun y c2 => ∃ x' y', [x, y] = [x', y'] ∧ De.nx ((ρ.set i (some x')).set j (some y')) c2) = fun x c1 => tb ρ c1 fun y c2 => De.nx ((ρ.set i (some x)).set j (some y)) c2 := by
      funext x c1
      congr 1
      funext y c2
      apply propext
      constructor
      · rintro ⟨x', y', e, h⟩; cases e; exact h
      · intro h; exact ⟨x, y, rfl, h⟩
    rw [e]; exact h), fun ds c' vs H' m' hd C R L => by
      obtain ⟨x, y, rfl, hd⟩ := hd
      obtain ⟨v, r', rfl, rv, w, r'', rfl, rw', rr⟩ := R
      cases (show r'' = [] from rr)
      exact ⟨v, w, rfl, n _ H' m' _ c' hd (((S.step L C).set rv).set rw') L⟩⟩
end
end Cw

namespace Cw
open PySem PySem.Spec PyProof.Rows L2

/-! ### what is walked -/
structure Walks (K : PySem.W.Frag) (J : It) (m : Ad) (H : Hp) (ds : List D) : Prop where
  go : ∀ (i : Nat) m' H' c', Le m H m' H' → CR K H' m' c' → i < ds.length → J.go i H'
  stop : ∀ (i : Nat) m' H' c', Le m H m' H' → CR K H' m' c' → ds.length ≤ i → J.stop i H'
  yld : ∀ (i : Nat) m' H' c' x H2, Le m H m' H' → CR K H' m' c' → i < ds.length → J.yld i H' x H2 → ∃ d, ds[i]? = some d ∧ CR K H2 m' c' ∧ Le m' H' m' H2 ∧ RR K H2 m' d x
def liftI (K : PySem.W.Frag) (t : TDs) : TI := fun σ H R => ∃ (m : Ad) (ρ : Env) (c : List Cell) (Φ : List D → List Cell → Prop), SR K σ H m ρ c ∧ t ρ c Φ ∧
  ∀ ds c' J H' m', Φ ds c' → CR K H' m' c' → Walks K J m' H' ds → Le m H m' H' → R J H'
abbrev PID (X : Cx) (tg iter : Expr) (t : TDs) : Prop := PI X tg iter (liftI X.K t)
theorem PI.imp {X : Cx} {tg iter : Expr} {t t' : TI} (h : PI X tg iter t) (i : ∀ σ H R, t' σ H R → t σ H R) : PI X tg iter t' := ⟨fun pins s σ H R I w => h.run pins s σ H R I (i σ H R w)⟩
theorem PI.or {X : Cx} {tg iter : Expr} {t t' : TI} (h : PI X tg iter t) (h' : PI X tg iter t') : PI X tg iter (fun σ H R => t σ H R ∨ t' σ H R) := ⟨fun pins s σ H R I w => w.elim (h.run pins s σ H R I) (h'.run pins s σ H R I)⟩
theorem RL.at {K : PySem.W.Frag} {m : List Addr} {H : Hp} {ds : List D} {xs : List V} {i : Nat} (h : RL K m H ds xs) (hi : i < ds.length) : ∃ d x, ds[i]? = some d ∧ xs[i]? = some x ∧ R K m H d x := by
  obtain ⟨x, h1, h2⟩ := RL.get (i := i) (d := ds[i]) h (List.getElem?_eq_getElem hi)
  exact ⟨_, x, List.getElem?_eq_getElem hi, h1, h2⟩
theorem sq_inj {K : PySem.W.Frag} {H : Hp} {a : Addr} {xs ys : List V} : True := trivial
/-- the items of a list, of a tuple -/
theorem walks_list {K : PySem.W.Frag} {m : Ad} {H : Hp} {a : Addr} {ds : List D} {xs : List V} (h : SqL K (hid m H) a xs) (r : RRL K H m ds xs) : Walks K (Itl K a) m H ds where
  go := fun i m' H' c' l C hi => by
    obtain ⟨d, x, _, h2, _⟩ := RL.at r hi
    exact ⟨xs, x, ex_l (l.ex.trans (ex_hid m' H')) h, h2⟩
  stop := fun i m' H' c' l C hi => ⟨xs, ex_l (l.ex.trans (ex_hid m' H')) h, by rw [rlen r]; exact hi⟩
  yld := fun i m' H' c' x H2 l C hi ⟨e, y⟩ => by
    subst e
    obtain ⟨d, z, h1, h2, h3⟩ := RL.at r hi
    have := y xs (ex_l (l.ex.trans (ex_hid m' _)) h)
    rw [h2] at this; cases this
    exact ⟨d, h1, C, Le.refl _ _, l.r h3⟩
theorem walks_tup {K : PySem.W.Frag} {m : Ad} {H : Hp} {a : Addr} {ds : List D} {xs : List V} (h : SqT K (hid m H) a xs) (r : RRL K H m ds xs) : Walks K (Itt K a) m H ds where
  go := fun i m' H' c' l C hi => by
    obtain ⟨d, x, _, h2, _⟩ := RL.at r hi
    exact ⟨xs, x, ex_t (l.ex.trans (ex_hid m' H')) h, h2⟩
  stop := fun i m' H' c' l C hi => ⟨xs, ex_t (l.ex.trans (ex_hid m' H')) h, by rw [rlen r]; exact hi⟩
  yld := fun i m' H' c' x H2 l C hi ⟨e, y⟩ => by
    subst e
    obtain ⟨d, z, h1, h2, h3⟩ := RL.at r hi
    have := y xs (ex_t (l.ex.trans (ex_hid m' _)) h)
    rw [h2] at this; cases this
    exact ⟨d, h1, C, Le.refl _ _, l.r h3⟩
def chars (z : Str) : List D := z.cps.toList.map fun k => .str ⟨#[k]⟩
theorem walks_str {K : PySem.W.Frag} {m : Ad} {H : Hp} {z : Str} : Walks K (Its z) m H (chars z) where
  go := fun i m' H' c' l C hi => by
    show i < z.cps.size
    simpa [chars] using hi
  stop := fun i m' H' c' l C hi => by
    show z.cps.size ≤ i
    simpa [chars] using hi
  yld := fun i m' H' c' x H2 l C hi ⟨e, k, hk, hx⟩ => by
    subst e; subst hx
    refine ⟨.str ⟨#[k]⟩, ?_, C, Le.refl _ _, rfl⟩
    unfold chars
    rw [List.getElem?_map, Array.getElem?_toList, hk]
    rfl
def rng (lo : Int) (n : Nat) : List D := (List.range n).map fun i => .int (lo + (i : Nat))
theorem rng_len (lo : Int) (n : Nat) : (rng lo n).length = n := by simp [rng]
theorem walks_rng {K : PySem.W.Frag} {m : Ad} {H : Hp} {lo : Int} {n : Nat} : Walks K (Itr lo n) m H (rng lo n) where
  go := fun i m' H' c' l C hi => by rw [rng_len] at hi; exact hi
  stop := fun i m' H' c' l C hi => by rw [rng_len] at hi; exact hi
  yld := fun i m' H' c' x H2 l C hi ⟨e, hx⟩ => by
    subst e; subst hx
    rw [rng_len] at hi
    exact ⟨.int (lo + i), by unfold rng; rw [List.getElem?_map, List.getElem?_range hi]; rfl, C, Le.refl _ _, rfl⟩
section
variable {X : Cx} {tg iter e e2 o a b : Expr} {ta tb : TD} {tA : TDt} {pos pp : Pos} {ti : TDs}
def dIterL (ta : TD) : TDs := fun ρ c Φ => ta ρ c fun x c1 => match x with
  | .lst ds => Φ ds c1
  | .fl ds => Φ ds c1
  | _ => False
def dIterT (ta : TD) : TDs := fun ρ c Φ => ta ρ c fun x c1 => match x with
  | .tup ds => Φ ds c1
  | _ => False
def dIterS (ta : TD) : TDs := fun ρ c Φ => ta ρ c fun x c1 => match x with
  | .str z => Φ (chars z) c1
  | _ => False
theorem pid_list (h : PD X iter ta) : PID X tg iter (dIterL ta) := PI.imp (pi_list h) fun σ H R ⟨m, ρ, c, Φ, S, h, q⟩ =>
  ⟨m, ρ, c, _, S, h, fun d c1 v H1 m1 hx C1 R1 L1 => by
    cases d <;> first | exact hx.elim | skip
    · obtain ⟨a, xs, rfl, h1, h2⟩ := R1
      exact ⟨a, rfl, ⟨xs, SqL.of (ex_hid m1 H1 a _ h1)⟩, q _ c1 _ H1 m1 hx C1 (walks_list (SqL.of h1) h2) L1⟩
    · obtain ⟨a, xs, rfl, h1, h2⟩ := R1
      exact ⟨a, rfl, ⟨xs, ex_l (ex_hid m1 H1) h1⟩, q _ c1 _ H1 m1 hx C1 (walks_list h1 h2) L1⟩⟩
theorem pid_tup (h : PD X iter ta) : PID X tg iter (dIterT ta) := PI.imp (pi_tup h) fun σ H R ⟨m, ρ, c, Φ, S, h, q⟩ =>
  ⟨m, ρ, c, _, S, h, fun d c1 v H1 m1 hx C1 R1 L1 => by
    cases d <;> first | exact hx.elim | skip
    obtain ⟨a, xs, rfl, h1, h2⟩ := R1
    exact ⟨a, rfl, ⟨xs, ex_t (ex_hid m1 H1) h1⟩, q _ c1 _ H1 m1 hx C1 (walks_tup h1 h2) L1⟩⟩
theorem pid_str (h : PD X iter ta) : PID X tg iter (dIterS ta) := PI.imp (pi_str h) fun σ H R ⟨m, ρ, c, Φ, S, h, q⟩ =>
  ⟨m, ρ, c, _, S, h, fun d c1 v H1 m1 hx C1 R1 L1 => by
    cases d <;> first | exact hx.elim | skip
    exact ⟨_, R1, q _ c1 _ H1 m1 hx C1 walks_str L1⟩⟩
def dRng1 (ta : TD) : TDs := fun ρ c Φ => ta ρ c fun x c1 => match x with
  | .int j => (-(2 ^ 62) ≤ j ∧ j < 2 ^ 62) ∧ Φ (rng 0 j.toNat) c1
  | _ => False
theorem pid_range1 (h : PD X e ta) (hm : X.mg "range" = none) (hg : Gl X "range" := by rfl) (hs : starEach [e] X.env = [(false, eval e X.env)] := by rfl) : PID X tg (.Call (.Name "range" pp) [e] [] pos) (dRng1 ta) :=
  PI.imp (pi_range1 hg hm (pds_cons h pds_nil hs) hs) fun σ H R ⟨m, ρ, c, Φ, S, h, q⟩ =>
  ⟨m, ρ, c, (fun ds c1 => ∃ j, ds = [.int j] ∧ (-(2 ^ 62) ≤ j ∧ j < 2 ^ 62) ∧ Φ (rng 0 j.toNat) c1), S, (show ta ρ c fun x c1 => ∃ j, [x] = [.int j] ∧ (-(2 ^ 62) ≤ j ∧ j < 2 ^ 62) ∧ Φ (rng 0 j.toNat) c1 by
    have e : (fun x c1 => ∃ j, [x] = [D.int j] ∧ (-(2 ^ 62) ≤ j ∧ j < 2 ^ 62) ∧ Φ (rng 0 j.toNat) c1) = fun x c1 => match x with
      | .int j => (-(2 ^ 62) ≤ j ∧ j < 2 ^ 62) ∧ Φ (rng 0 j.toNat) c1
      | _ => False := by
      funext x c1
      apply propext
      constructor
      · rintro ⟨j, e, h⟩; cases e; exact h
      · intro h; cases x <;> first | exact h.elim | exact ⟨_, rfl, h⟩
    rw [e]; exact h), fun ds c' vs H' m' hd C R' L => by
      obtain ⟨j, rfl, ⟨h1, h2⟩, hd⟩ := hd
      obtain ⟨v, r', rfl, rv, rr⟩ := R'
      cases (show r' = [] from rr)
      cases (show v = V.int j from rv)
      exact ⟨j, rfl, h1, h2, q _ c' _ H' m' hd C walks_rng L⟩⟩
def dRng2 (ta tb : TD) : TDs := fun ρ c Φ => ta ρ c fun x c1 => tb ρ c1 fun y c2 => match x, y with
  | .int i, .int j => (-(2 ^ 62) ≤ i ∧ i < 2 ^ 62 ∧ -(2 ^ 62) ≤ j ∧ j < 2 ^ 62) ∧ Φ (rng i (j - i).toNat) c2
  | _, _ => False
theorem pid_range2 (h : PD X e ta) (h' : PD X e2 tb) (hm : X.mg "range" = none) (hg : Gl X "range" := by rfl) (hs : starEach [e, e2] X.env = [(false, eval e X.env), (false, eval e2 X.env)] := by rfl) (hs2 : starEach [e2] X.env = [(false, eval e2 X.env)] := by rfl) : PID X tg (.Call (.Name "range" pp) [e, e2] [] pos) (dRng2 ta tb) :=
  PI.imp (pi_range2 hg hm (pds_cons h (pds_cons h' pds_nil hs2) (by rw [hs, hs2])) hs hs2) fun σ H R ⟨m, ρ, c, Φ, S, h, q⟩ =>
  ⟨m, ρ, c, (fun ds c1 => ∃ i j, ds = [.int i, .int j] ∧ (-(2 ^ 62) ≤ i ∧ i < 2 ^ 62 ∧ -(2 ^ 62) ≤ j ∧ j < 2 ^ 62) ∧ Φ (rng i (j - i).toNat) c1), S, (show ta ρ c fun x c1 => tb ρ c1 fun y c2 => ∃ i j, [x, y] = [.int i, .int j] ∧ (-(2 ^ 62) ≤ i ∧ i < 2 ^ 62 ∧ -(2 ^ 62) ≤ j ∧ j < 2 ^ 62) ∧ Φ (rng i (j - i).toNat) c2 by
    have e : (fun x c1 => tb ρ c1 fun y c2 => ∃ i j, [x, y] = [D.int i, D.int j] ∧ (-(2 ^ 62) ≤ i ∧ i < 2 ^ 62 ∧ -(2 ^ 62) ≤ j ∧ j < 2 ^ 62) ∧ Φ (rng i (j - i).toNat) c2) = fun x c1 => tb ρ c1 fun y c2 => match x, y with
      | .int i, .int j => (-(2 ^ 62) ≤ i ∧ i < 2 ^ 62 ∧ -(2 ^ 62) ≤ j ∧ j < 2 ^ 62) ∧ Φ (rng i (j - i).toNat) c2
      | _, _ => False := by
      funext x c1
      congr 1
      funext y c2
      apply propext
      constructor
      · rintro ⟨i, j, e, h⟩; cases e; exact h
      · intro h; cases x <;> cases y <;> first | exact h.elim | exact ⟨_, _, rfl, h⟩
    rw [e]; exact h), fun ds c' vs H' m' hd C R' L => by
      obtain ⟨i, j, rfl, hb, hd⟩ := hd
      obtain ⟨v, r', rfl, rv, w, r'', rfl, rw', rr⟩ := R'
      cases (show r'' = [] from rr)
      cases (show v = V.int i from rv)
      cases (show w = V.int j from rw')
      exact ⟨i, j, rfl, hb, q _ c' _ H' m' hd C walks_rng L⟩⟩

/-! ### for -/
def forD (g : TGD) (tb : TSD) (De : DEnds) : List D → Env → List Cell → Prop
  | [], ρ, c => De.nx ρ c
  | d :: ds, ρ, c => g d ρ c fun ρ1 c1 => tb ⟨forD g tb De ds, De.rt, De.nx, forD g tb De ds⟩ ρ1 c1
def dFor (ti : TDs) (g : TGD) (tb : TSD) : TSD := fun De ρ c => ti ρ c fun ds c1 => forD g tb De ds ρ c1
theorem psd_for {body : List Stmt} {g : TGD} {tb : TSD} (hp : PassesOwn (model X.prog X.w) X.A X.env X.xe) (hc : X.calm = true) (hi : PID X tg iter ti) (hg : PGD X tg g) (hb : PSDs X body tb) (hs : ∀ x, foldedSetIterable iter X.env x = pure x := by intro _; rfl) :
    PSD X (.For tg iter body [] pos) (dFor ti g tb) := PS.imp (ps_for hp hc hi hg hb hs) fun Dn σ H ⟨m, ρ, c, De, S, h, n, r, b, k⟩ =>
  ⟨m, ρ, c, _, S, h, fun ds c1 J H1 m1 hx C1 wk L1 =>
    ⟨fun i mm σ' H' => mm = ds.length - i ∧ i ≤ ds.length ∧ ∃ m' ρ' c', Le m1 H1 m' H' ∧ SR X.K σ' H' m' ρ' c' ∧ forD g tb De (ds.drop i) ρ' c',
     ⟨ds.length, by simp, Nat.zero_le _, m1, ρ, c1, Le.refl _ _, S.step L1 C1, by simpa using hx⟩, by
      rintro i mm σ' H' ⟨rfl, hi, m', ρ', c', l, S', hf⟩
      by_cases hlt : i < ds.length
      · refine .inr ⟨wk.go i m' H' c' l S'.cr hlt, fun σ2 H2 => ∃ m2 ρ2 c2, Le m1 H1 m2 H2 ∧ SR X.K σ2 H2 m2 ρ2 c2 ∧ forD g tb De (ds.drop (i + 1)) ρ2 c2, fun σ2 H2 ⟨m2, ρ2, c2, l2, S2, h2⟩ => ⟨ds.length - (i + 1), by omega, rfl, hlt, m2, ρ2, c2, l2, S2, h2⟩, fun x H2 y => ?_⟩
        obtain ⟨d, hd, C2, l2, rx⟩ := wk.yld i m' H' c' x H2 l S'.cr hlt y
        have e : ds.drop i = d :: ds.drop (i + 1) := by
          rw [List.drop_eq_getElem_cons hlt]
          congr 1
          have := List.getElem?_eq_getElem hlt
          rw [hd] at this
          exact (Option.some.inj this).symm
        rw [e] at hf
        have L2 := L1.trans (l.trans l2)
        refine ⟨m', ρ', c', d, _, S'.step l2 C2, rx, hf, fun σ3 H3 m3 ρ3 c3 h3 S3 l3 => ?_⟩
        have L3 := L2.trans l3
        refine ⟨m3, ρ3, c3, _, S3, h3, fun σ4 H4 m4 ρ4 c4 h4 S4 l4 => ?_, r.le L3, fun σ4 H4 m4 ρ4 c4 h4 S4 l4 => n σ4 H4 m4 ρ4 c4 h4 S4 (L3.trans l4), fun σ4 H4 m4 ρ4 c4 h4 S4 l4 => ?_⟩
        · exact ⟨m4, ρ4, c4, (l.trans l2).trans (l3.trans l4), S4, h4⟩
        · exact ⟨m4, ρ4, c4, (l.trans l2).trans (l3.trans l4), S4, h4⟩
      · have ei : i = ds.length := by omega
        subst ei
        refine .inl ⟨wk.stop _ m' H' c' l S'.cr (Nat.le_refl _), ?_⟩
        rw [List.drop_length] at hf
        exact n σ' H' m' ρ' c' hf S' (L1.trans l)⟩⟩
end
end Cw

namespace Cw
open PySem PySem.Spec PyProof.Rows L2

/-! ### data that names cells below n alone -/
mutual
def okD (n : Nat) : D → Bool
  | .cell k => Nat.blt k n
  | .tup ds => okDs n ds
  | .lst ds => okDs n ds
  | .fl ds => okDs n ds
  | .ins _ _ ds => okDs n ds
  | _ => true
def okDs (n : Nat) : List D → Bool
  | [] => true
  | d :: ds => okD n d && okDs n ds
end
def okC (n : Nat) : Cell → Bool
  | .lst ds => okDs n ds
  | .obj _ _ ds => okDs n ds
def okCs (n : Nat) : List Cell → Bool
  | [] => true
  | c :: cs => okC n c && okCs n cs
section
variable {K : PySem.W.Frag} {ix ix' : List Addr} {H H' : Hp} {n : Nat}
mutual
theorem R.low (e : Ex H H') (p : ∀ (k : Nat) a, k < n → ix[k]? = some a → ix'[k]? = some a) : ∀ (d : D) (v : V), okD n d = true → R K ix H d v → R K ix' H' d v
  | .non, _, _, h => h
  | .bl _, _, _, h => h
  | .int _, _, _, h => h
  | .str _, _, _, h => h
  | .tup ds, _, k, ⟨a, xs, e1, h1, h2⟩ => ⟨a, xs, e1, ex_t e h1, RL.low e p ds xs (by simpa [okD] using k) h2⟩
  | .lst ds, _, k, ⟨a, xs, e1, h1, h2⟩ => ⟨a, xs, e1, e a _ h1, RL.low e p ds xs (by simpa [okD] using k) h2⟩
  | .fl ds, _, k, ⟨a, xs, e1, h1, h2⟩ => ⟨a, xs, e1, ex_l e h1, RL.low e p ds xs (by simpa [okD] using k) h2⟩
  | .cell j, _, k, ⟨a, h1, h2⟩ => ⟨a, p j a (by simpa [okD] using k) h1, h2⟩
  | .ins _ _ ds, _, k, ⟨a, dx, fs, e1, h1, h2, h3⟩ => ⟨a, dx, fs, e1, e a _ h1, h2, RL.low e p ds _ (by simpa [okD] using k) h3⟩
  | .raw _, _, _, h => h
theorem RL.low (e : Ex H H') (p : ∀ (k : Nat) a, k < n → ix[k]? = some a → ix'[k]? = some a) : ∀ (ds : List D) (xs : List V), okDs n ds = true → RL K ix H ds xs → RL K ix' H' ds xs
  | [], _, _, h => h
  | d :: ds, _, k, ⟨x, r, e1, h1, h2⟩ => by
    have k' : okD n d = true ∧ okDs n ds = true := by simpa [okDs] using k
    exact ⟨x, r, e1, R.low e p d x k'.1 h1, RL.low e p ds r k'.2 h2⟩
end
theorem okCs_at : ∀ {c : List Cell} {k : Nat} {ce : Cell}, okCs n c = true → c[k]? = some ce → okC n ce = true
  | [], _, _, _, e => by simp at e
  | x :: c, 0, _, h, e => by
    have h' : okC n x = true ∧ okCs n c = true := by simpa [okCs] using h
    simp at e; subst e; exact h'.1
  | x :: c, k + 1, _, h, e => by
    have h' : okC n x = true ∧ okCs n c = true := by simpa [okCs] using h
    exact okCs_at h'.2 (by simpa using e)
theorem okDs_append {n : Nat} : ∀ {as bs : List D}, okDs n (as ++ bs) = (okDs n as && okDs n bs)
  | [], _ => by simp [okDs]
  | a :: as, bs => by simp [okDs, okDs_append (as := as), Bool.and_assoc]
theorem okDs_map {α : Type} {n : Nat} {f : α → D} (h : ∀ x, okD n (f x) = true) : ∀ xs : List α, okDs n (xs.map f) = true
  | [] => rfl
  | x :: xs => by simp [okDs, h x, okDs_map h xs]
theorem okDs_of {n : Nat} : ∀ {ds : List D}, (∀ d ∈ ds, okD n d = true) → okDs n ds = true
  | [], _ => rfl
  | d :: ds, h => by
    show (okD n d && okDs n ds) = true
    rw [h d List.mem_cons_self, okDs_of fun x hx => h x (List.mem_cons_of_mem _ hx)]; rfl
end
/-- the last cell is no longer mutable -/
theorem CR.pop {K : PySem.W.Frag} {H : Hp} {m : Ad} {p : Addr} {c : List Cell} {ce : Cell} (C : CR K H (m.push p) (c ++ [ce])) (hk : okCs c.length c = true) : CR K H m c ∧ H p ≠ none ∧ CellAt K (m.push p) H p ce ∧ p ∉ m.ix ∧ p ∉ m.hd := by
  have hl : m.ix.length = c.length := by have := C.len; simp [Ad.push] at this; exact this
  have nd : (m.ix ++ [p]).Nodup := C.nd
  have hp : p ∉ m.ix := fun z => by
    rw [List.nodup_append] at nd
    exact nd.2.2 p z p (by simp) rfl
  have last : (m.push p).ix[c.length]? = some p := by
    show (m.ix ++ [p])[c.length]? = some p
    rw [← hl]; simp
  obtain ⟨a, h1, h2⟩ := C.at_ c.length ce (by simp)
  rw [last] at h1; cases h1
  have hex : Ex (hid (m.push p) H) (hid m H) := fun b o e => by
    obtain ⟨⟨h3, h4⟩, h5⟩ := hid_some e
    rw [hid_of ⟨fun z => h3 (List.mem_append_left _ z), h4⟩]; exact h5
  refine ⟨⟨hl, (List.nodup_append.mp nd).1, fun k ce' e => ?_, fun b hb => C.hs b hb, fun a ha => C.dj a (List.mem_append_left _ ha)⟩, fun z => ?_, h2, hp, fun z => C.dj p (List.mem_append_right _ (by simp)) z⟩
  · have hk' := (List.getElem?_eq_some_iff.mp e).1
    obtain ⟨a, h3, h4⟩ := C.at_ k ce' (by rw [List.getElem?_append_left hk']; exact e)
    have h5 : m.ix[k]? = some a := by
      have z : (m.ix ++ [p])[k]? = some a := h3
      rw [List.getElem?_append_left (by rw [hl]; exact hk')] at z; exact z
    refine ⟨a, h5, ?_⟩
    have low : ∀ (j : Nat) a, j < c.length → (m.push p).ix[j]? = some a → m.ix[j]? = some a := fun j a hj z => by
      have z : (m.ix ++ [p])[j]? = some a := z
      rw [List.getElem?_append_left (by rw [hl]; exact hj)] at z; exact z
    have ok := okCs_at hk e
    cases ce' with
    | lst ds => obtain ⟨xs, h6, h7⟩ := h4; exact ⟨xs, h6, RL.low hex low ds xs ok h7⟩
    | obj C' ns ds => obtain ⟨dx, fs, h6, h7, h8⟩ := h4; exact ⟨dx, fs, h6, h7, RL.low hex low ds _ ok h8⟩
  · obtain ⟨o, h6⟩ := h2.obj
    rw [z] at h6; cases h6
theorem low_push {m : Ad} {p : Addr} {c : List Cell} (hl : m.ix.length = c.length) (j : Nat) (a : Addr) (hj : j < c.length) (z : (m.push p).ix[j]? = some a) : m.ix[j]? = some a := by
  have z : (m.ix ++ [p])[j]? = some a := z
  rw [List.getElem?_append_left (by rw [hl]; exact hj)] at z; exact z
theorem ex_pop {m : Ad} {p : Addr} {H : Hp} : Ex (hid (m.push p) H) (hid m H) := fun b o e => by
  obtain ⟨⟨h3, h4⟩, h5⟩ := hid_some e
  rw [hid_of ⟨fun z => h3 (List.mem_append_left _ z), h4⟩]; exact h5

theorem Ad.ext' {m m' : Ad} (h1 : m.ix = m'.ix) (h2 : m.hd = m'.hd) : m = m' := by cases m; cases m'; simp only at h1 h2; subst h1; subst h2; rfl
theorem ix_same {m m' : Ad} (p : ∀ (k : Nat) a, m.ix[k]? = some a → m'.ix[k]? = some a) (h : m'.ix.length = m.ix.length) : m'.ix = m.ix := by
  apply List.ext_getElem?
  intro k
  by_cases hk : k < m.ix.length
  · have := List.getElem?_eq_getElem hk
    rw [this, p k _ this]
  · rw [List.getElem?_eq_none (by omega), List.getElem?_eq_none (by omega)]
theorem ex_cut {m m' : Ad} {H : Hp} (p : ∀ (k : Nat) a, m.ix[k]? = some a → m'.ix[k]? = some a) (h : m'.hd = m.hd) : Ex (hid m' H) (hid m H) := fun b o e => by
  obtain ⟨⟨h1, h2⟩, h3⟩ := hid_some e
  rw [hid_of ⟨fun z => ?_, by rw [← h]; exact h2⟩]
  · exact h3
  · obtain ⟨k, hk⟩ := List.mem_iff_getElem?.mp z
    exact h1 (List.mem_of_getElem? (p k b hk))
theorem low_cut {m m' : Ad} {n : Nat} (p : ∀ (k : Nat) a, m.ix[k]? = some a → m'.ix[k]? = some a) (hn : m.ix.length = n) (j : Nat) (a : Addr) (hj : j < n) (z : m'.ix[j]? = some a) : m.ix[j]? = some a := by
  have := List.getElem?_eq_getElem (l := m.ix) (i := j) (by omega)
  rw [this]
  rw [p j _ this] at z
  exact z
theorem CR.cut {K : PySem.W.Frag} {H : Hp} {m m' : Ad} {c : List Cell} {n : Nat} (C : CR K H m' c) (p : ∀ (k : Nat) a, m.ix[k]? = some a → m'.ix[k]? = some a) (hd : m'.hd = m.hd) (hn : m.ix.length = n) (hk : okCs n (c.take n) = true) : CR K H m (c.take n) := by
  have hlen : n ≤ m'.ix.length := by
    by_cases h0 : n = 0
    · omega
    · have h1 := List.getElem?_eq_getElem (l := m.ix) (i := n - 1) (by omega)
      have := (List.getElem?_eq_some_iff.mp (p _ _ h1)).1
      omega
  have hlc : n ≤ c.length := by rw [← C.len]; exact hlen
  have pre : m.ix = m'.ix.take n := by
    apply List.ext_getElem?
    intro k
    by_cases hk : k < n
    · have := List.getElem?_eq_getElem (l := m.ix) (i := k) (by omega)
      rw [List.getElem?_take_of_lt hk, this, p k _ this]
    · rw [List.getElem?_eq_none (by omega), List.getElem?_eq_none (by rw [List.length_take]; omega)]
  refine ⟨by rw [List.length_take]; omega, by rw [pre]; exact C.nd.sublist (List.take_sublist _ _), fun k ce e => ?_, fun b hb => C.hs b (by rw [hd]; exact hb), fun a ha hb => C.dj a (by rw [pre] at ha; exact List.mem_of_mem_take ha) (by rw [hd]; exact hb)⟩
  have hkn : k < n := by
    have := (List.getElem?_eq_some_iff.mp e).1
    rw [List.length_take] at this; omega
  have ok := okCs_at hk e
  rw [List.getElem?_take_of_lt hkn] at e
  obtain ⟨a, h1, h2⟩ := C.at_ k ce e
  refine ⟨a, low_cut p hn k a hkn h1, ?_⟩
  cases ce with
  | lst ds => obtain ⟨xs, h3, h4⟩ := h2; exact ⟨xs, h3, RL.low (ex_cut p hd) (low_cut p hn) ds xs ok h4⟩
  | obj C' ns ds => obtain ⟨dx, fs, h3, h4, h5⟩ := h2; exact ⟨dx, fs, h3, h4, RL.low (ex_cut p hd) (low_cut p hn) ds _ ok h5⟩
theorem beq_t {a b : Nat} (h : Nat.beq a b = true) : a = b := Nat.eq_of_beq_eq_true h
theorem CR.same {K : PySem.W.Frag} {H H4 : Hp} {m m4 : Ad} {c3 : List Cell} (h : c3.length = m.ix.length) (C4 : CR K H4 m4 c3) (l4 : Le m H m4 H4) : m4 = m :=
  Ad.ext' (ix_same l4.pre (by rw [C4.len, h])) l4.hd
/-- cells beyond the n-th are let go -/
theorem CR.letgo {K : PySem.W.Frag} {H H4 : Hp} {m m4 : Ad} {c3 : List Cell} {n : Nat} {y : D} {v : V} (hn : m.ix.length = n) (C4 : CR K H4 m4 c3) (r : RR K H4 m4 y v) (l4 : Le m H m4 H4) (hk : okCs n (c3.take n) = true) (hy : okD n y = true) :
    CR K H4 m (c3.take n) ∧ RR K H4 m y v ∧ Le m H m H4 :=
  ⟨C4.cut l4.pre l4.hd hn hk, R.low (ex_cut l4.pre l4.hd) (low_cut l4.pre hn) y v hy r, ⟨fun _ _ e => e, l4.ex.trans (ex_cut l4.pre l4.hd), rfl, l4.hk, fun _ h => .inl h, l4.al⟩⟩
/-- the cells behind a turn's part: as many as ahead, the new list the last -/
def inner (n : Nat) (acc : List D) (y : D) (c : List Cell) (Q : List Cell → Prop) : Prop := c[n]? = some (.lst acc) ∧ match Nat.beq c.length (n + 1) with
  | true => Q (c.take n)
  | false => okCs (n + 1) (c.take (n + 1)) = true ∧ okD (n + 1) y = true ∧ Q (c.take n)
/-- what inner says, over the heap -/
theorem inner_ok {K : PySem.W.Frag} {H H4 : Hp} {m m4 : Ad} {c3 : List Cell} {n : Nat} {acc : List D} {y : D} {v : V} {Q : List Cell → Prop} (hn : m.ix.length = n + 1) (h : inner n acc y c3 Q) (C4 : CR K H4 m4 c3) (r : RR K H4 m4 y v) (l4 : Le m H m4 H4) :
    CR K H4 m (c3.take n ++ [.lst acc]) ∧ RR K H4 m y v ∧ Le m H m H4 ∧ Q (c3.take n) ∧ (c3.take n).length = n := by
  obtain ⟨h1, h2⟩ := h
  have hlt := (List.getElem?_eq_some_iff.mp h1).1
  have ht : c3.take (n + 1) = c3.take n ++ [.lst acc] := by
    rw [List.take_add_one, h1]; rfl
  cases e : Nat.beq c3.length (n + 1) with
  | true =>
    rw [e] at h2
    have e1 := beq_t e
    have em := CR.same (by rw [hn]; exact e1) C4 l4
    subst em
    have : c3 = c3.take n ++ [.lst acc] := by rw [← ht, List.take_of_length_le (by omega)]
    rw [← this]
    exact ⟨C4, r, l4, h2, by rw [List.length_take]; omega⟩
  | false =>
    rw [e] at h2
    obtain ⟨a, b, c⟩ := CR.letgo hn C4 r l4 h2.1 h2.2.1
    rw [ht] at a
    exact ⟨a, b, c, h2.2.2, by rw [List.length_take]; omega⟩

/-! ### [e for x in ..] -/
def lcD (i : Nat) (tt : TDt) (te : TD) : List D → List D → Env → List Cell → (List D → List Cell → Prop) → Prop
  | [], acc, _, c, Φ => okCs c.length c = true ∧ okDs c.length acc = true ∧ Φ acc c
  | d :: ds, acc, ρ, c, Φ => tt (ρ.set i (some d)) (c ++ [.lst acc]) fun b c2 => match b with
    | true => te (ρ.set i (some d)) c2 fun y c3 => acc.length < sizeLine ∧ inner c.length acc y c3 fun c4 => lcD i tt te ds (acc ++ [y]) ρ c4 Φ
    | false => inner c.length acc .non c2 fun c4 => lcD i tt te ds acc ρ c4 Φ
def dLc (ti : TDs) (i : Nat) (tt : TDt) (te : TD) : TD := fun ρ c Φ => ti ρ c fun ds c1 => lcD i tt te ds [] ρ c1 fun xs c2 => Φ (.lst xs) c2
theorem wipe1 {σ : L2.St} {i : Nat} : wipe σ [i] = σ.set i none := rfl
theorem SR.blk {K : PySem.W.Frag} {σ : L2.St} {H : Hp} {m : Ad} {ρ : Env} {c : List Cell} {i : Nat} {d : D} {v : V} (S : SR K σ H m ρ c) (r : RR K H m d v) : SR K ((wipe σ [i]).set i (some v)) H m (ρ.set i (some d)) c := by
  have e : (wipe σ [i]).set i (some v) = σ.set i (some v) := by rw [wipe1, List.set_set]
  rw [e]; exact S.set r
/-- the loop of a comprehension -/
theorem lc_walk {K : PySem.W.Frag} {J : It} {m : Ad} {H1 : Hp} {ds : List D} {σ : L2.St} {ρ : Env} {c : List Cell} {i : Nat} {tt : TDt} {te : TD} {Φ : List D → List Cell → Prop} {Qd : Addr → Hp → Prop} (wk : Walks K J m H1 ds) (S : SR K σ H1 m ρ c) (h : lcD i tt te ds [] ρ c Φ)
    (q : ∀ p xs c' H', Φ xs c' → CR K H' m c' → RR K H' m (.lst xs) (.ref p) → Le m H1 m H' → Qd p H') : ∀ p, H1 p = none → ∃ W : Nat → Nat → Hp → Prop, (∃ mm, W 0 mm (upd H1 p (.lst []))) ∧ ∀ j mm H, W j mm H →
      (J.stop j H ∧ Qd p H) ∨ (J.go j H ∧ ∃ Nx : Hp → Prop, (∀ H', Nx H' → ∃ m', m' < mm ∧ W (j + 1) m' H') ∧ ∀ x H', J.yld j H x H' → gName i x (wipe σ [i]) H' fun σ2 H2 => wipe σ2 [i] = wipe σ [i] ∧ liftT K tt σ2 H2 fun b H3 =>
        if b = true then lift K te σ2 H3 fun y H4 => ∃ acc, H4 p = some (.lst acc) ∧ acc.length < sizeLine ∧ Nx (upd H4 p (.lst (acc ++ [y]))) else Nx H3) := by
  intro p hp
  have z0 := cell_new (ce := .lst []) (o := .lst []) S.cr hp ⟨[], upd_same, rfl⟩
  -- the state behind a number of turns
  refine ⟨fun j mm H => mm = ds.length - j ∧ j ≤ ds.length ∧ ∃ c' acc, c'.length = c.length ∧ CR K H (m.push p) (c' ++ [.lst acc]) ∧ Le m H1 (m.push p) H ∧ lcD i tt te (ds.drop j) acc ρ c' Φ,
    ⟨ds.length, by simp, Nat.zero_le _, c, [], rfl, z0.1, z0.2.1, by simpa using h⟩, ?_⟩
  rintro j mm H ⟨rfl, hj, c', acc, hl, C, l, hf⟩
  by_cases hlt : j < ds.length
  · have wk' := wk
    refine .inr ⟨wk.go j (m.push p) H _ l C hlt, fun H' => ∃ c' acc, c'.length = c.length ∧ CR K H' (m.push p) (c' ++ [.lst acc]) ∧ Le m H1 (m.push p) H' ∧ lcD i tt te (ds.drop (j + 1)) acc ρ c' Φ, fun H' w => ⟨ds.length - (j + 1), by omega, rfl, hlt, w⟩, fun x H2 y => ?_⟩
    obtain ⟨d, hd, C2, l2, rx⟩ := wk.yld j (m.push p) H _ x H2 l C hlt y
    have e : ds.drop j = d :: ds.drop (j + 1) := by
      rw [List.drop_eq_getElem_cons hlt]
      congr 1
      have := List.getElem?_eq_getElem hlt
      rw [hd] at this
      exact (Option.some.inj this).symm
    rw [e] at hf
    have L2 := l.trans l2
    have S2 : SR K ((wipe σ [i]).set i (some x)) H2 (m.push p) (ρ.set i (some d)) (c' ++ [.lst acc]) := (S.step L2 C2).blk rx
    refine ⟨by rw [wipe1, wipe1, List.set_set, List.set_set], m.push p, _, _, _, S2, hf, fun b c2 H3 m3 hb C3 l3 => ?_⟩
    have hmn : (m.push p).ix.length = c'.length + 1 := by
      have := C2.len
      simp at this
      exact this
    cases b with
    | false =>
      dsimp only
      rw [if_neg (by decide)]
      obtain ⟨z1, _, z2, z3, z4⟩ := inner_ok (v := .non) hmn hb C3 rfl l3
      exact ⟨c2.take c'.length, acc, by rw [z4, hl], z1, L2.trans z2, z3⟩
    | true =>
      dsimp only
      rw [if_pos rfl]
      refine ⟨m3, _, c2, _, S2.step l3 C3, hb, fun y c3 v H4 m4 hy C4 R4 l4 => ?_⟩
      obtain ⟨hsz, hin⟩ := hy
      obtain ⟨z1, z5, z2, z3, z4⟩ := inner_ok hmn hin C4 R4 (l3.trans l4)
      obtain ⟨a, h5, xs, h6, h7⟩ := z1.at_ c'.length (.lst acc) (by rw [List.getElem?_append_right (by omega), z4]; simp)
      have last : (m.push p).ix[c'.length]? = some p := by
        show (m.ix ++ [p])[c'.length]? = some p
        rw [hl, ← S.cr.len]; simp
      rw [last] at h5; cases h5
      refine ⟨xs, h6, by rw [rlen h7]; exact hsz, ?_⟩
      have hm : p ∈ (m.push p).ix := List.mem_of_getElem? last
      have z := cell_put (o := .lst (xs ++ [v])) (ce := .lst (acc ++ [y])) z1 last ⟨_, upd_same, by show RL _ _ (hid (m.push p) _) _ _; rw [hid_mut hm]; exact RL.append h7 ⟨v, [], rfl, z5, rfl⟩⟩
      have ec : (c3.take c'.length ++ [Cell.lst acc]).set c'.length (.lst (acc ++ [y])) = c3.take c'.length ++ [.lst (acc ++ [y])] := by
        rw [List.set_append_right _ _ (by omega), z4]; simp
      rw [ec] at z
      exact ⟨c3.take c'.length, acc ++ [y], by rw [z4, hl], z.1, (L2.trans z2).trans z.2, z3⟩
  · have ej : j = ds.length := by omega
    subst ej
    rw [List.drop_length] at hf
    obtain ⟨h1, h2, h3⟩ := hf
    obtain ⟨C', _, ⟨xs, h4, h5⟩, hp1, hp2⟩ := C.pop h1
    refine .inl ⟨wk.stop _ (m.push p) H _ l C (Nat.le_refl _), q p acc c' H h3 C' ⟨p, xs, rfl, by rw [hid_of ⟨hp1, hp2⟩]; exact h4, RL.low ex_pop (low_push C'.len) acc xs h2 h5⟩ ⟨fun _ _ e => e, l.ex.trans ex_pop, rfl, l.hk, fun _ h => .inl h, l.al⟩⟩
section
variable {X : Cx} {tg iter e elt : Expr} {ta te : TD} {tt : TDt} {pos pp tp : Pos} {ti : TDs} {ifs : List Expr} {scope : Scope} {x y : Str} {i j : Nat}
abbrev PTD (X : Cx) (ifs : List Expr) (t : TDt) : Prop := PTs X ifs (liftT X.K t)
def dYes : TDt := fun _ c Φ => Φ true c
theorem ptd_nil : PTD X [] dYes := ⟨fun pins s σ H Q I ⟨m, ρ, c, Φ, S, h, q⟩ => pts_nil.run pins s σ H Q I (q true c H m h S.cr (Le.refl _ _))⟩
theorem ptd_one (h : PDt X e tt) : PTD X [e] tt := pts_one h
theorem pd_lc (hc : X.calm = true) (hN : X.N.Nodup) (hi : PID X (.Name x tp) iter ti) (ok : blkC X.N X.env.scope scope [(x, i)] = true)
    (hg : ∀ (s : Shared) (H : Hp) (C : Addr) (cl : List (Str × Addr)) (fp : List Addr), PG (X.blk s H scope (compEnvC scope cl C X.env) fp) (.Name x tp) (gName i))
    (ht : ∀ (s : Shared) (H : Hp) (C : Addr) (cl : List (Str × Addr)) (fp : List Addr), PTD (X.blk s H scope (compEnvC scope cl C X.env) fp) ifs tt)
    (he : ∀ (s : Shared) (H : Hp) (C : Addr) (cl : List (Str × Addr)) (fp : List Addr), PD (X.blk s H scope (compEnvC scope cl C X.env) fp) elt te) (hs : ∀ x, foldedSetIterable iter X.env x = pure x := by intro _; rfl) :
    PD X (.ListComp elt [⟨.Name x tp, iter, ifs, 0⟩] scope pos) (dLc ti i tt te) :=
  PE.imp (pe_lc (own := [(x, i)]) hc hN hi (blkOk_by ok) hg ht he hs) fun σ H Q ⟨m, ρ, c, Φ, S, h, q⟩ =>
    ⟨m, ρ, c, _, S, h, fun ds c1 J H1 m1 hx C1 wk L1 => lc_walk wk (S.step L1 C1) hx fun p xs c' H' h' C' R' l' => q _ c' _ H' m1 h' C' R' (L1.trans l')⟩
/-- y = [e for x in ..] -/
theorem psd_setLc {spos py : Pos} (hc : X.calm = true) (hN : X.N.Nodup) (hy : X.N[j]? = some y) (hyl : X.env.scope.names.lookup y = some .local)
    (hsw : swapsWith (.ListComp elt [⟨.Name x tp, iter, ifs, 0⟩] scope pos) (some (.Name y py)) spos.line X.env = pure true)
    (hi : PID X (.Name x tp) iter ti) (ok : blkC X.N X.env.scope scope [(x, i)] = true)
    (hg : ∀ (s : Shared) (H : Hp) (C : Addr) (cl : List (Str × Addr)) (fp : List Addr), PG (X.blk s H scope (compEnvC scope cl C X.env) fp) (.Name x tp) (gName i))
    (ht : ∀ (s : Shared) (H : Hp) (C : Addr) (cl : List (Str × Addr)) (fp : List Addr), PTD (X.blk s H scope (compEnvC scope cl C X.env) fp) ifs tt)
    (he : ∀ (s : Shared) (H : Hp) (C : Addr) (cl : List (Str × Addr)) (fp : List Addr), PD (X.blk s H scope (compEnvC scope cl C X.env) fp) elt te) (hs : ∀ x, foldedSetIterable iter X.env x = pure x := by intro _; rfl) :
    PSD X (.Assign [.Name y py] (.ListComp elt [⟨.Name x tp, iter, ifs, 0⟩] scope pos) spos) (dSet j (dLc ti i tt te)) :=
  PS.imp (ps_setLc (i := j) (own := [(x, i)]) hc hN hy hyl hsw hi (blkOk_by ok) hg ht he hs) fun Dn σ H ⟨m, ρ, c, De, S, h, n, r, b, k⟩ =>
    ⟨m, ρ, c, _, S, h, fun ds c1 J H1 m1 hx C1 wk L1 => lc_walk wk (S.step L1 C1) hx fun p xs c' H' h' C' R' l' => n _ H' m1 _ c' h' ((S.step (L1.trans l') C').set R') (L1.trans l')⟩
end
end Cw

namespace Cw
open PySem PySem.Spec PyProof.Rows L2

/-! ### what a def promises, over data -/
abbrev Pm := List Cell → List D → (D → List Cell → Prop) → Prop
def spD (K : PySem.W.Frag) (n0 np : Nat) (S : Pm) : Sp := fun vs H Q _ => ∃ (m : Ad) (c : List Cell) (ds : List D) (Φ : D → List Cell → Prop), c.length = n0 ∧ ds.length = np ∧ CR K H m c ∧ RRL K H m ds vs ∧ S c ds Φ ∧
  ∀ d c' w H', Φ d c' → CR K H' m c' → RR K H' m d w → Le m H m H' → Q w H'
def retD (n0 : Nat) (Φ : D → List Cell → Prop) (d : D) (c : List Cell) : Prop := match Nat.beq c.length n0 with
  | true => Φ d c
  | false => okCs n0 (c.take n0) = true ∧ match d with
    | .cell k => ∃ ds, c[k]? = some (.lst ds) ∧ Nat.ble n0 k = true ∧ okDs n0 ds = true ∧ Φ (.lst ds) (c.take n0)
    | d => okD n0 d = true ∧ Φ d (c.take n0)
def startD (N : List Str) (ds : List D) : Env := ds.map some ++ List.replicate (N.length - ds.length) none
theorem ret_ok {K : PySem.W.Frag} {H H' : Hp} {m m' : Ad} {c' : List Cell} {Φ : D → List Cell → Prop} {d : D} {v : V} {Q : VK} {n0 : Nat} (hn : m.ix.length = n0) (q : ∀ d c' w H', Φ d c' → CR K H' m c' → RR K H' m d w → Le m H m H' → Q w H')
    (h : retD n0 Φ d c') (C : CR K H' m' c') (r : RR K H' m' d v) (l : Le m H m' H') : Q v H' := by
  unfold retD at h
  cases e : Nat.beq c'.length n0 with
  | true =>
    rw [e] at h
    have e1 := ix_same l.pre (by rw [C.len, beq_t e, hn])
    have em : m' = m := Ad.ext' e1 l.hd
    subst em
    exact q d c' v H' h C r l
  | false =>
    rw [e] at h
    obtain ⟨hk, h⟩ := h
    have C' := C.cut l.pre l.hd hn hk
    have ex : Ex (hid m' H') (hid m H') := ex_cut l.pre l.hd
    have l' : Le m H m H' := ⟨fun _ _ e => e, l.ex.trans ex, rfl, l.hk, fun _ h => .inl h, l.al⟩
    have gen : ∀ d', okD n0 d' = true ∧ Φ d' (c'.take n0) → RR K H' m' d' v → Q v H' := fun d' ⟨h1, h2⟩ r => q d' _ v H' h2 C' (R.low ex (low_cut l.pre hn) d' v h1 r) l'
    cases d with
    | cell k =>
      obtain ⟨ds, h1, h2, h3, h4⟩ := h
      obtain ⟨a, h5, rfl⟩ := r
      obtain ⟨b, h6, xs, h7, h8⟩ := C.at_ k _ h1
      rw [h5] at h6; cases h6
      refine q (.lst ds) _ (.ref a) H' h4 C' ⟨a, xs, rfl, ?_, RL.low ex (low_cut l.pre hn) ds xs h3 h8⟩ l'
      rw [hid_of ⟨fun z => ?_, fun z => C.dj a (List.mem_of_getElem? h5) (by rw [l.hd]; exact z)⟩]
      · exact h7
      · obtain ⟨j, hj⟩ := List.mem_iff_getElem?.mp z
        have hj2 := l.pre j a hj
        have e1 := (List.getElem?_eq_some_iff.mp h5)
        have e2 := (List.getElem?_eq_some_iff.mp hj2)
        have : k = j := (List.getElem_inj C.nd).mp (e1.2.trans e2.2.symm)
        subst this
        have := (List.getElem?_eq_some_iff.mp hj).1
        have := Nat.le_of_ble_eq_true h2
        omega
    | non => exact gen _ h r
    | bl b => exact gen _ h r
    | int i => exact gen _ h r
    | str x => exact gen _ h r
    | tup ds => exact gen _ h r
    | lst ds => exact gen _ h r
    | fl ds => exact gen _ h r
    | ins C' ns ds => exact gen _ h r
    | raw w => exact gen _ h r
theorem start_slots {K : PySem.W.Frag} {H : Hp} {m : Ad} {c : List Cell} {N : List Str} {ds : List D} {vs : List V} (C : CR K H m c) (r : RRL K H m ds vs) : SR K (L2.start N vs) H m (startD N ds) c := by
  have hl := RL.length r
  refine ⟨C, by unfold startD L2.start; rw [List.length_append, List.length_append, List.length_map, List.length_map, List.length_replicate, List.length_replicate, hl], fun i d e => ?_⟩
  unfold startD at e
  by_cases hi : i < ds.length
  · rw [List.getElem?_append_left (by simpa using hi), List.getElem?_map] at e
    cases e1 : ds[i]? with
    | none => rw [e1] at e; cases e
    | some d' =>
      rw [e1] at e; cases e
      obtain ⟨x, h1, h2⟩ := RL.get r e1
      refine ⟨x, ?_, h2⟩
      unfold L2.start
      rw [List.getElem?_append_left (by simp; omega), List.getElem?_map, h1]; rfl
  · rw [List.getElem?_append_right (by simpa using hi)] at e
    rw [List.getElem?_replicate] at e
    split at e <;> cases e
section
variable {P : Program} {w : World} {K : PySem.W.Frag} {mg : Str → Option Value} {base : Heap}
/-- THE RULE for a def, over data -/
theorem fnD {x qual : Str} {st : Stmt} {f : Addr} {fd : FuncData} {N ps : List Str} {k n0 : Nat} {S : Pm} (F : Fun K x qual st f fd) (Sc : FnScope N ps (defScope st))
    (hbody : ∀ (cdv : Value) (A : Around) (outer : List PySem.Env) (s : Shared) (H : Hp) (E : XK), Room k (A.deeper (envOfC qual (defScope st) s.heap.objs.size f cdv)) →
      ∃ ts, PSDs (cxOf CX0 P w K mg base N qual (defScope st) f cdv A outer s H E).nox (defBody st) ts ∧
        ∀ c ds Φ, c.length = n0 → ds.length = ps.length → S c ds Φ → ts ⟨fun _ c' => retD n0 Φ .non c', retD n0 Φ, fun _ _ => False, fun _ _ => False⟩ (startD N ds) c) :
    FnOk P w K mg base CX0 (k + 1) f fd ps (spD K n0 ps.length S) := by
  refine F.ok Sc (fun vs H Q E h => ?_) (fun cdv A outer s H vs Q E hr h => ?_)
  · obtain ⟨m, c, ds, Φ, h1, h2, C, r, _⟩ := h
    rw [← RL.length r]; exact h2
  · obtain ⟨m, c, ds, Φ, h1, h2, C, r, hS, q⟩ := h
    obtain ⟨ts, hp, ht⟩ := hbody cdv A outer s H E hr
    have hn : m.ix.length = n0 := by rw [C.len]; exact h1
    exact ⟨_, hp, m, startD N ds, c, _, start_slots C r, ht c ds Φ h1 h2 hS, fun σ' H' m' ρ' c' h' S' l => ret_ok hn q h' S'.cr rfl l, fun d c' v H' m' h' C' r' l => ret_ok hn q h' C' r' l, fun _ _ _ _ _ z => z.elim, fun _ _ _ _ _ z => z.elim⟩
end

/-! ### calls -/
/-- nothing that may change is handed in -/
def callP (S : Pm) (ds : List D) (c : List Cell) (Φ : D → List Cell → Prop) : Prop := okDs 0 ds = true ∧ S [] ds fun d _ => Φ d c
/-- the first argument is a mutable object -/
def callM (S : Pm) (ds : List D) (c : List Cell) (Φ : D → List Cell → Prop) : Prop := match ds with
  | .cell k :: r => ∃ ce, c[k]? = some ce ∧ okC 0 ce = true ∧ okDs 0 r = true ∧ S [ce] (.cell 0 :: r) fun d c' => match c' with
    | [ce'] => okC 0 ce' = true ∧ okD 0 d = true ∧ Φ d (c.set k ce')
    | _ => False
  | _ => False
section
variable {K : PySem.W.Frag} {m : Ad} {H : Hp} {c : List Cell}
def Ad.none (m : Ad) : Ad := ⟨[], m.hd ++ m.ix⟩
theorem hid_none (m : Ad) (H : Hp) : hid m.none H = hid m H := by
  funext b
  unfold hid Ad.none
  by_cases h : b ∈ m.ix
  · simp [h]
  · by_cases h2 : b ∈ m.hd <;> simp [h, h2]
theorem sp_pure {S : Pm} {np : Nat} {ds : List D} {vs : List V} {Φ : D → List Cell → Prop} {Q : VK} {E : XK} (C : CR K H m c) (r : RRL K H m ds vs) (hl : ds.length = np) (h : callP S ds c Φ) (q : KQ K H m Φ Q) : spD K 0 np S vs H Q E := by
  obtain ⟨ok, hS⟩ := h
  have hall : ∀ b ∈ m.hd ++ m.ix, ∃ o, H b = some o := fun b hb => by
    rcases List.mem_append.mp hb with z | z
    · exact C.hs b z
    · obtain ⟨k, hk⟩ := List.mem_iff_getElem?.mp z
      obtain ⟨ce, _, h2⟩ := C.some_at hk
      exact h2.obj
  have C0 : CR K H m.none [] := ⟨rfl, List.nodup_nil, fun k ce e => by simp at e, hall, fun a ha => by cases ha⟩
  refine ⟨m.none, [], ds, _, rfl, hl, C0, ?_, hS, fun d c' w H' hd C' r' l => ?_⟩
  · show RL K [] (hid m.none H) ds vs
    rw [hid_none]
    exact RL.low (n := 0) (Ex.refl _) (fun k a hk => absurd hk (Nat.not_lt_zero _)) ds vs ok r
  · have hex : Ex (hid m H) (hid m H') := by
      have := l.ex
      rw [hid_none, hid_none] at this
      exact this
    have keep : ∀ b, b ∈ m.hd ∨ b ∈ m.ix → H' b = H b := fun b hb => l.hk b (List.mem_append.mpr hb)
    have l' : Le m H m H' := ⟨fun _ _ e => e, hex, rfl, fun b hb => keep b (.inl hb), fun _ h => .inl h, l.al⟩
    refine q d c w H' m hd ⟨C.len, C.nd, fun k ce e => ?_, fun b hb => ?_, C.dj⟩ ?_ l'
    · obtain ⟨a, h1, h2⟩ := C.at_ k ce e
      exact ⟨a, h1, h2.step l' fun o e' => by rw [keep a (.inr (List.mem_of_getElem? h1))]; exact e'⟩
    · obtain ⟨o, e⟩ := C.hs b hb
      exact ⟨o, by rw [keep b (.inl hb)]; exact e⟩
    · have r2 : R K [] (hid m.none H') d w := r'
      rw [hid_none] at r2
      exact R.mono (Ex.refl _) (fun k a e => by simp at e) d w r2
def Ad.one (m : Ad) (k : Nat) (a : Addr) : Ad := ⟨[a], m.hd ++ m.ix.eraseIdx k⟩
theorem hid_one {k : Nat} {a : Addr} (hk : m.ix[k]? = some a) (H : Hp) : hid (m.one k a) H = hid m H := by
  funext b
  unfold hid Ad.one
  have e : b ∈ m.ix ↔ b = a ∨ b ∈ m.ix.eraseIdx k := by
    obtain ⟨hlt, he⟩ := List.getElem?_eq_some_iff.mp hk
    constructor
    · intro h
      by_cases hb : b = a
      · exact .inl hb
      · refine .inr ?_
        rw [List.mem_eraseIdx_iff_getElem?]
        obtain ⟨j, hj⟩ := List.mem_iff_getElem?.mp h
        exact ⟨j, fun z => by subst z; rw [hk] at hj; exact hb (Option.some.inj hj).symm, hj⟩
    · rintro (rfl | h)
      · exact List.mem_of_getElem? hk
      · exact List.mem_of_mem_eraseIdx h
  have e2 : (b ∈ [a] ∨ b ∈ m.hd ++ m.ix.eraseIdx k) ↔ (b ∈ m.ix ∨ b ∈ m.hd) := by
    rw [List.mem_singleton, List.mem_append, e]
    constructor
    · rintro (h | h | h)
      · exact .inl (.inl h)
      · exact .inr h
      · exact .inl (.inr h)
    · rintro ((h | h) | h)
      · exact .inl h
      · exact .inr (.inr h)
      · exact .inr (.inl h)
  by_cases h : b ∈ m.ix ∨ b ∈ m.hd
  · rw [if_pos (e2.mpr h), if_pos h]
  · rw [if_neg (fun z => h (e2.mp z)), if_neg h]
theorem sp_one {S : Pm} {np : Nat} {ds : List D} {vs : List V} {Φ : D → List Cell → Prop} {Q : VK} {E : XK} (C : CR K H m c) (r : RRL K H m ds vs) (hl : ds.length = np) (h : callM S ds c Φ) (q : KQ K H m Φ Q) : spD K 1 np S vs H Q E := by
  unfold callM at h
  cases ds with
  | nil => exact h.elim
  | cons d0 rest =>
    cases d0 <;> first | exact h.elim | skip
    rename_i k
    obtain ⟨v, vr, e1, ⟨a, hk, e2⟩, rr⟩ := r
    obtain ⟨ce, hce, ok1, ok2, hS⟩ := h
    subst e1; subst e2
    have hnd : a ∉ m.ix.eraseIdx k := fun z => by
      rw [List.mem_eraseIdx_iff_getElem?] at z
      obtain ⟨j, hj, hja⟩ := z
      have e1 := List.getElem?_eq_some_iff.mp hk
      have e2 := List.getElem?_eq_some_iff.mp hja
      exact hj ((List.getElem_inj C.nd).mp (e2.2.trans e1.2.symm))
    have hall : ∀ b ∈ m.hd ++ m.ix.eraseIdx k, ∃ o, H b = some o := fun b hb => by
      rcases List.mem_append.mp hb with z | z
      · exact C.hs b z
      · obtain ⟨j, hj⟩ := List.mem_iff_getElem?.mp (List.mem_of_mem_eraseIdx z)
        obtain ⟨ce, _, h2⟩ := C.some_at hj
        exact h2.obj
    obtain ⟨b, hb, hat⟩ := C.at_ k ce hce
    rw [hk] at hb; cases hb
    have low : ∀ (j : Nat) (x : Addr), j < 0 → m.ix[j]? = some x → (m.one k a).ix[j]? = some x := fun j x hj => absurd hj (Nat.not_lt_zero _)
    have hat1 : CellAt K (m.one k a) H a ce := by
      cases ce with
      | lst es => obtain ⟨xs, h3, h4⟩ := hat; exact ⟨xs, h3, by show RL K _ (hid (m.one k a) H) es xs; rw [hid_one hk]; exact RL.low (Ex.refl _) low es xs ok1 h4⟩
      | obj C' ns es => obtain ⟨dx, fs, h3, h4, h5⟩ := hat; exact ⟨dx, fs, h3, h4, by show RL K _ (hid (m.one k a) H) es _; rw [hid_one hk]; exact RL.low (Ex.refl _) low es _ ok1 h5⟩
    have C0 : CR K H (m.one k a) [ce] := ⟨rfl, by simp [Ad.one], fun j ce' e => by
      have hj : j = 0 := by
        have := (List.getElem?_eq_some_iff.mp e).1
        simp at this; exact this
      subst hj
      simp at e; subst e
      exact ⟨a, rfl, hat1⟩, hall, fun x hx => by
        have : x = a := by simpa [Ad.one] using hx
        subst this
        intro z
        rcases List.mem_append.mp z with z | z
        · exact C.dj x (List.mem_of_getElem? hk) z
        · exact hnd z⟩
    refine ⟨m.one k a, [ce], .cell 0 :: rest, _, rfl, hl, C0, ⟨.ref a, vr, rfl, ⟨a, rfl, rfl⟩, ?_⟩, hS, fun d c' w H' hd C' r' l => ?_⟩
    · show RL K [a] (hid (m.one k a) H) rest vr
      rw [hid_one hk]
      exact RL.low (n := 0) (Ex.refl _) (fun k a hk => absurd hk (Nat.not_lt_zero _)) rest vr ok2 rr
    · cases c' with
      | nil => exact hd.elim
      | cons ce' t =>
        cases t with
        | cons _ _ => exact hd.elim
        | nil =>
          obtain ⟨ok3, ok4, hΦ⟩ := hd
          have hex : Ex (hid m H) (hid m H') := by
            have := l.ex
            rw [hid_one hk, hid_one hk] at this
            exact this
          have keep : ∀ b, b ∈ m.hd ∨ b ∈ m.ix.eraseIdx k → H' b = H b := fun b hb => l.hk b (List.mem_append.mpr hb)
          have l' : Le m H m H' := ⟨fun _ _ e => e, hex, rfl, fun b hb => keep b (.inl hb), fun _ h => .inl h, l.al⟩
          obtain ⟨b, hb, hat'⟩ := C'.at_ 0 ce' rfl
          cases hb
          have hat2 : CellAt K m H' a ce' := by
            cases ce' with
            | lst es => obtain ⟨xs, h3, h4⟩ := hat'; exact ⟨xs, h3, by have h4 : RL K _ (hid (m.one k a) H') es xs := h4; rw [hid_one hk] at h4; exact RL.low (n := 0) (Ex.refl _) (fun k a hk => absurd hk (Nat.not_lt_zero _)) es xs ok3 h4⟩
            | obj C' ns es => obtain ⟨dx, fs, h3, h5, h4⟩ := hat'; exact ⟨dx, fs, h3, h5, by have h4 : RL K _ (hid (m.one k a) H') es _ := h4; rw [hid_one hk] at h4; exact RL.low (n := 0) (Ex.refl _) (fun k a hk => absurd hk (Nat.not_lt_zero _)) es _ ok3 h4⟩
          refine q d _ w H' m hΦ ⟨by rw [List.length_set]; exact C.len, C.nd, fun j ce2 e => ?_, fun b hb => ?_, C.dj⟩ ?_ l'
          · by_cases hj : k = j
            · subst hj
              rw [List.getElem?_set_self (by rw [← C.len]; exact (List.getElem?_eq_some_iff.mp hk).1)] at e
              cases e
              exact ⟨a, hk, hat2⟩
            · rw [List.getElem?_set_ne hj] at e
              obtain ⟨b, h1, h2⟩ := C.at_ j ce2 e
              refine ⟨b, h1, h2.step l' fun o e' => ?_⟩
              rw [keep b (.inr (by rw [List.mem_eraseIdx_iff_getElem?]; exact ⟨j, fun z => hj z.symm, h1⟩))]; exact e'
          · obtain ⟨o, e⟩ := C.hs b hb
            exact ⟨o, by rw [keep b (.inl hb)]; exact e⟩
          · have r2 : R K [a] (hid (m.one k a) H') d w := r'
            rw [hid_one hk] at r2
            exact R.low (n := 0) (Ex.refl _) (fun k a hk => absurd hk (Nat.not_lt_zero _)) d w ok4 r2
end
section
variable {X : Cx} {CX : CXT} {k np : Nat} {f C : Addr} {fd : FuncData} {ps : List Str} {S : Pm} {E : XK} {x : Str} {p pos apos : Pos} {e o : Expr} {es : List Expr} {ta : TD} {tas : TDs}
def dCallP (S : Pm) (np : Nat) (t : TDs) : TD := fun ρ c Φ => t ρ c fun ds c1 => ds.length = np ∧ callP S ds c1 Φ
def dCallM (S : Pm) (np : Nat) (t : TDs) : TD := fun ρ c Φ => t ρ c fun ds c1 => ds.length = np ∧ callM S ds c1 Φ
theorem pd_callP (F : FnOk X.prog X.w X.K X.mg X.base CX k f fd ps (spD X.K 0 np S)) (hr : Room k X.A) (hm : X.mg x = some (.ref f)) (hk : PySem.W.keepIn X.K (.ref f) = true) (hb : Binds X.K fd ps []) (hx : Passes CX X E)
    (ha : PDs X (e :: es) tas) (hg : Gl X x := by rfl) (hdb : (x == ("__debug__" : Str)) = false := by decide) (he : starEach (e :: es) X.env = (false, eval e X.env) :: starEach es X.env := by rfl) (hpl : (backTo pos (starEach es X.env)).any (·.1) = false := by rfl) :
    PD X (.Call (.Name x p) (e :: es) [] pos) (dCallP S np tas) := PE.imp (pe_call F hr hg hm hk hb .nil hx ha hdb he hpl) fun σ H Q ⟨m, ρ, c, Φ, S', h, q⟩ =>
    ⟨m, ρ, c, _, S', h, fun ds c1 vs H1 m1 ⟨hl, hc⟩ C1 R1 L1 => by show spD _ _ _ _ (_ ++ []) _ _ _; rw [List.append_nil]; exact sp_pure C1 R1 hl hc (KQ.le (K := X.K) q L1)⟩
theorem pd_callM (F : FnOk X.prog X.w X.K X.mg X.base CX k f fd ps (spD X.K 1 np S)) (hr : Room k X.A) (hm : X.mg x = some (.ref f)) (hk : PySem.W.keepIn X.K (.ref f) = true) (hb : Binds X.K fd ps []) (hx : Passes CX X E)
    (ha : PDs X (e :: es) tas) (hg : Gl X x := by rfl) (hdb : (x == ("__debug__" : Str)) = false := by decide) (he : starEach (e :: es) X.env = (false, eval e X.env) :: starEach es X.env := by rfl) (hpl : (backTo pos (starEach es X.env)).any (·.1) = false := by rfl) :
    PD X (.Call (.Name x p) (e :: es) [] pos) (dCallM S np tas) := PE.imp (pe_call F hr hg hm hk hb .nil hx ha hdb he hpl) fun σ H Q ⟨m, ρ, c, Φ, S', h, q⟩ =>
    ⟨m, ρ, c, _, S', h, fun ds c1 vs H1 m1 ⟨hl, hc⟩ C1 R1 L1 => by show spD _ _ _ _ (_ ++ []) _ _ _; rw [List.append_nil]; exact sp_one C1 R1 hl hc (KQ.le (K := X.K) q L1)⟩
end
end Cw

namespace Cw
open PySem PySem.Spec PyProof.Rows L2
/-! ### a module's constants -/
section
variable {X : Cx} {x : Str} {pos : Pos}
theorem pd_gs {z : Str} (h : ∃ t, X.mg x = some (.str z t)) (hg : Gl X x := by rfl) (hd : (x == ("__debug__" : Str)) = false := by decide) : PD X (.Name x pos) (dC (.str z)) := by
  obtain ⟨t, h⟩ := h
  exact pd_c (v := .str z) (pe_glob hg h ⟨_, rfl⟩ hd) fun _ _ => rfl
theorem pd_gi {z : Int} (h : ∃ t, X.mg x = some (.int z t)) (hg : Gl X x := by rfl) (hd : (x == ("__debug__" : Str)) = false := by decide) : PD X (.Name x pos) (dC (.int z)) := by
  obtain ⟨t, h⟩ := h
  exact pd_c (v := .int z) (pe_glob hg h ⟨_, rfl⟩ hd) fun _ _ => rfl
def TupK (K : PySem.W.Frag) (mg : Str → Option Value) (x : Str) (ys : List Str) : Prop := ∃ a, mg x = some (.ref a) ∧ ∀ H, SqT K H a (ys.map V.str)
theorem pd_gtt {ys : List Str} (h : TupK X.K X.mg x ys) (hg : Gl X x := by rfl) (hd : (x == ("__debug__" : Str)) = false := by decide) : PD X (.Name x pos) (dC (.tup (ys.map .str))) := by
  obtain ⟨a, h, hs⟩ := h
  exact pd_c (v := .ref a) (pe_glob hg h rfl hd) fun m H => ⟨a, _, rfl, hs H, rl_txts ys⟩
end
/-- a test whose answer is a letter -/
theorem bcase {P : Bool → Prop} (b : Bool) (h1 : b = true → P true) (h2 : b = false → P false) : P b := by cases b with | true => exact h1 rfl | false => exact h2 rfl
end Cw

namespace Cw
open PySem PySem.Spec PyProof.Rows L2
/-! ### isinstance -/
inductive Ty where
  | non | bl | int | str | tup | lst | ins (C : Addr)
def Ty.val : Ty → Value
  | .non => .type "NoneType"
  | .bl => .type "bool"
  | .int => .type "int"
  | .str => .type "str"
  | .tup => .type "tuple"
  | .lst => .type "list"
  | .ins C => .ref C
def tyD : D → Option Ty
  | .non => some .non
  | .bl _ => some .bl
  | .int _ => some .int
  | .str _ => some .str
  | .tup _ => some .tup
  | .lst _ => some .lst
  | .ins C _ _ => some (.ins C)
  | _ => none
/-- what the written part knows of an own class, for isinstance -/
structure ClsI (K : PySem.W.Frag) (C : Addr) : Prop where
  cl : Cls K C
  ha : PySem.W.findIn K (.ref C) "__class__" = some (some (.builtin "object.__class__"))
  hn : PySem.W.specialIn K (.builtin "object.__class__") "__get__" = some (some (.builtin "getset_descriptor.__get__"))
  tk : PySem.W.takesIn K (.builtin "object.__class__") = some true
  mr : PySem.W.mroIn K C (.type "object") = some true
/-- the answers g of isinstance(x, the class u) -/
structure IsiT (K : PySem.W.Frag) (u : Value) (g : Ty → Option Bool) : Prop where
  ok : ∀ t b, g t = some b → PySem.W.kitOne K t.val u = some b
  ins : ∀ C b, g (.ins C) = some b → ClsI K C
def fIsi (g : Ty → Option Bool) : F2
  | x, .raw _, c, Φ => ∃ t b, tyD x = some t ∧ g t = some b ∧ Φ (.bl b) c
  | _, _, _, _ => False
theorem l2_isi {K : PySem.W.Frag} {v0 : V} {u0 : Value} {g : Ty → Option Bool} (T : IsiT K u0 g) (cv : ClsV v0 u0) {x : D} {c : List Cell} {Φ : D → List Cell → Prop} {H : Hp} {m : Ad} {u : V} (C : CR K H m c) (r : W K H m x u) {Q : VK} (q : KQ K H m Φ Q)
    (h : fIsi g x (.raw v0) c Φ) : rIsi K [u, v0] H Q := by
  obtain ⟨t, b, e1, e2, h⟩ := h
  have z : TyX K H u t.val → rIsi K [u, v0] H Q := fun z => ⟨u, v0, t.val, u0, b, rfl, cv, z, T.ok t b e2, q.pure C h rfl⟩
  cases x <;> first | (cases e1; done) | skip
  · cases e1; cases (show u = _ from r); exact z (.base .non)
  · cases e1; cases (show u = _ from r); exact z (.base (.bl _))
  · cases e1; cases (show u = _ from r); exact z (.base (.int _))
  · cases e1; cases (show u = _ from r); exact z (.base (.str _))
  · cases e1
    obtain ⟨a, xs, rfl, h1, h2⟩ := r
    rcases ex_t (ex_hid m H) h1 with (h1 | ⟨o, h1⟩) | ⟨o, its, n, hk, hc, _⟩
    · exact z (.base (.tup h1))
    · exact z (.fTuple h1)
    · exact z (.kTuple hk hc)
  · cases e1
    obtain ⟨a, xs, rfl, h1, h2⟩ := r
    exact z (.base (.lst h1))
  · cases e1
    obtain ⟨a, dx, fs, rfl, h1, _⟩ := r
    have ci := T.ins _ b e2
    exact z (.base (.ins h1 ci.cl ci.ha ci.hn ci.tk ci.mr))
section
variable {X : Cx} {e e2 : Expr} {ta : TD} {pos pp : Pos}
theorem pd_isi {v0 : V} {u0 : Value} {g : Ty → Option Bool} (T : IsiT X.K u0 g) (cv : ClsV v0 u0) (ha : PD X e ta) (hb : PE X e2 (tC v0)) (hm : X.mg "isinstance" = none) (hg : Gl X "isinstance" := by rfl)
    (he : starEach [e, e2] X.env = (false, eval e X.env) :: starEach [e2] X.env := by rfl) (he2 : starEach [e2] X.env = (false, eval e2 X.env) :: starEach [] X.env := by rfl) (hpl : (backTo pos (starEach [e2] X.env)).any (·.1) = false := by rfl) :
    PD X (.Call (.Name "isinstance" pp) [e, e2] [] pos) (dBin (fIsi g) ta (dC (.raw v0))) :=
  PE.imp (pe_callB call_isi hg hm boot_isinstance (pds_cons ha (pds_cons (pd_c (d := .raw v0) hb fun _ _ => rfl) pds_nil he2) he) (by decide) (by decide) he hpl) fun σ H Q ⟨m, ρ, c, Φ, S, h, q⟩ =>
  ⟨m, ρ, c, (fun ds c1 => ∃ x, ds = [x, .raw v0] ∧ fIsi g (vw c1 x) (.raw v0) c1 Φ), S, (show ta ρ c fun x c1 => ∃ y, [x, .raw v0] = [y, .raw v0] ∧ fIsi g (vw c1 y) (.raw v0) c1 Φ by
    have e : (fun x c1 => ∃ y, [x, D.raw v0] = [y, .raw v0] ∧ fIsi g (vw c1 y) (.raw v0) c1 Φ) = fun x c1 => fIsi g (vw c1 x) (vw c1 (.raw v0)) c1 Φ := by
      funext x c1
      apply propext
      constructor
      · rintro ⟨y, e, h⟩; cases e; exact h
      · intro h; exact ⟨x, rfl, h⟩
    rw [e]; exact h), fun ds c1 vs H1 m1 ⟨x, e1, hx⟩ C1 R1 L1 => by
      subst e1
      obtain ⟨u, r, rfl, ru, v, r', rfl, rv, rr⟩ := R1
      cases (show r' = [] from rr)
      cases (show v = v0 from rv)
      exact l2_isi T cv C1 (W.vw C1 ru) (KQ.le q L1) hx⟩
end
def gStr : Ty → Option Bool
  | .str => some true
  | .ins _ => none
  | _ => some false
def gInt : Ty → Option Bool
  | .int => some true
  | .bl => some true
  | .ins _ => none
  | _ => some false
def gBool : Ty → Option Bool
  | .bl => some true
  | .ins _ => none
  | _ => some false
def gTup : Ty → Option Bool
  | .tup => some true
  | .ins _ => none
  | _ => some false
theorem isi_str {K : PySem.W.Frag} : IsiT K (.type "str") gStr := ⟨fun t b h => by cases t <;> cases h <;> exact kit_ty (by decide +kernel), fun C b h => by cases h⟩
theorem isi_int {K : PySem.W.Frag} : IsiT K (.type "int") gInt := ⟨fun t b h => by cases t <;> cases h <;> exact kit_ty (by decide +kernel), fun C b h => by cases h⟩
theorem isi_bool {K : PySem.W.Frag} : IsiT K (.type "bool") gBool := ⟨fun t b h => by cases t <;> cases h <;> exact kit_ty (by decide +kernel), fun C b h => by cases h⟩
theorem isi_tuple {K : PySem.W.Frag} : IsiT K (.type "tuple") gTup := ⟨fun t b h => by cases t <;> cases h <;> exact kit_ty (by decide +kernel), fun C b h => by cases h⟩
end Cw

namespace Cw
open PySem PySem.Spec PyProof.Rows L2

/-! ### a def that hands back a new list of flat items -/
abbrev Pn := List D → (List D → Prop) → Prop
def spN (K : PySem.W.Frag) (np : Nat) (S : Pn) : Sp := fun vs H Q _ => ∃ (m : Ad) (ds : List D) (Φ : List D → Prop), ds.length = np ∧ CR K H m [] ∧ RRL K H m ds vs ∧ S ds Φ ∧
  ∀ xs p ws H', Φ xs → xs.all flatD = true → CR K H' m [] → H p = none → H' p = some (.lst ws) → RRL K H' m xs ws → Le m H m H' → Q (.ref p) H'
def retN (Φ : List D → Prop) (d : D) (c : List Cell) : Prop := match d with
  | .cell k => ∃ xs, c[k]? = some (.lst xs) ∧ xs.all flatD = true ∧ Φ xs
  | _ => False
theorem flat_any {K : PySem.W.Frag} {ix ix' : List Addr} {H H' : Hp} : ∀ {ds : List D} {vs : List V}, ds.all flatD = true → RL K ix H ds vs → RL K ix' H' ds vs
  | [], _, _, h => h
  | d :: ds, _, f, ⟨x, r, e1, h1, h2⟩ => by
    rw [List.all_cons, Bool.and_eq_true] at f
    refine ⟨x, r, e1, ?_, flat_any f.2 h2⟩
    cases d <;> first | exact absurd (show false = true from f.1) Bool.false_ne_true | exact h1
theorem nil_of {K : PySem.W.Frag} {H : Hp} {m : Ad} (C : CR K H m []) : m.ix = [] := by
  have := C.len
  exact List.length_eq_zero_iff.mp this
section
variable {P : Program} {w : World} {K : PySem.W.Frag} {mg : Str → Option Value} {base : Heap}
theorem fnN {x qual : Str} {st : Stmt} {f : Addr} {fd : FuncData} {N ps : List Str} {k : Nat} {S : Pn} (F : Fun K x qual st f fd) (Sc : FnScope N ps (defScope st))
    (hbody : ∀ (cdv : Value) (A : Around) (outer : List PySem.Env) (s : Shared) (H : Hp) (E : XK), Room k (A.deeper (envOfC qual (defScope st) s.heap.objs.size f cdv)) →
      ∃ ts, PSDs (cxOf CX0 P w K mg base N qual (defScope st) f cdv A outer s H E).nox (defBody st) ts ∧
        ∀ ds Φ, ds.length = ps.length → S ds Φ → ts ⟨fun _ _ => False, retN Φ, fun _ _ => False, fun _ _ => False⟩ (startD N ds) []) :
    FnOk P w K mg base CX0 (k + 1) f fd ps (spN K ps.length S) := by
  refine F.ok Sc (fun vs H Q E h => ?_) (fun cdv A outer s H vs Q E hr h => ?_)
  · obtain ⟨m, ds, Φ, h2, C, r, _⟩ := h
    rw [← RL.length r]; exact h2
  · obtain ⟨m, ds, Φ, h2, C, r, hS, q⟩ := h
    obtain ⟨ts, hp, ht⟩ := hbody cdv A outer s H E hr
    refine ⟨_, hp, m, startD N ds, [], _, start_slots C r, ht ds Φ h2 hS, fun _ _ _ _ _ z => z.elim, fun d c' v H' m' h' C' r' l => ?_, fun _ _ _ _ _ z => z.elim, fun _ _ _ _ _ z => z.elim⟩
    unfold retN at h'
    cases d <;> first | exact h'.elim | skip
    rename_i j
    obtain ⟨xs, h3, h4, h5⟩ := h'
    obtain ⟨a, h6, rfl⟩ := r'
    obtain ⟨b, h7, ws, h8, h9⟩ := C'.at_ j _ h3
    rw [h6] at h7; cases h7
    have hix := nil_of C
    have fresh : H a = none := (l.fr a (List.mem_of_getElem? h6)).elim (fun z => by rw [hix] at z; cases z) id
    have l' : Le m H m H' := ⟨fun _ _ e => e, l.ex.trans (ex_cut l.pre l.hd), rfl, l.hk, fun _ h => .inl h, l.al⟩
    exact q xs a ws H' h5 h4 ⟨by rw [hix]; rfl, C.nd, fun k ce e => by simp at e, fun b hb => C'.hs b (by rw [l.hd]; exact hb), C.dj⟩ fresh h8 (flat_any h4 h9) l'
end
section
variable {K : PySem.W.Frag} {m : Ad} {H : Hp} {c : List Cell}
theorem hall (C : CR K H m c) : ∀ b ∈ m.hd ++ m.ix, ∃ o, H b = some o := fun b hb => by
  rcases List.mem_append.mp hb with z | z
  · exact C.hs b z
  · obtain ⟨k, hk⟩ := List.mem_iff_getElem?.mp z
    obtain ⟨ce, _, h2⟩ := C.some_at hk
    exact h2.obj
theorem Le.of_none {H' : Hp} (l : Le m.none H m.none H') : Le m H m H' := by
  have hex : Ex (hid m H) (hid m H') := by
    have := l.ex
    rw [hid_none, hid_none] at this
    exact this
  exact ⟨fun _ _ e => e, hex, rfl, fun b hb => l.hk b (List.mem_append_left _ hb), fun _ h => .inl h, l.al⟩
theorem CR.of_none {H' : Hp} (C : CR K H m c) (l : Le m.none H m.none H') : CR K H' m c := by
  have l' := l.of_none
  refine ⟨C.len, C.nd, fun k ce e => ?_, fun b hb => ?_, C.dj⟩
  · obtain ⟨a, h1, h2⟩ := C.at_ k ce e
    exact ⟨a, h1, h2.step l' fun o e' => by rw [l.hk a (List.mem_append_right _ (List.mem_of_getElem? h1))]; exact e'⟩
  · obtain ⟨o, e⟩ := C.hs b hb
    exact ⟨o, by rw [l'.hk b hb]; exact e⟩
theorem sp_new {S : Pn} {np : Nat} {ds : List D} {vs : List V} {Φ : D → List Cell → Prop} {Q : VK} {E : XK} (C : CR K H m c) (r : RRL K H m ds vs) (hl : ds.length = np) (ok : okDs 0 ds = true) (hS : S ds fun xs => Φ (.cell c.length) (c ++ [.lst xs])) (q : KQ K H m Φ Q) : spN K np S vs H Q E := by
  have C0 : CR K H m.none [] := ⟨rfl, List.nodup_nil, fun k ce e => by simp at e, hall C, fun a ha => by cases ha⟩
  refine ⟨m.none, ds, _, hl, C0, ?_, hS, fun xs p ws H' hd hf C' hp hp' r' l => ?_⟩
  · show RL K [] (hid m.none H) ds vs
    rw [hid_none]
    exact RL.low (n := 0) (Ex.refl _) (fun k a hk => absurd hk (Nat.not_lt_zero _)) ds vs ok r
  · have l' := l.of_none
    have C1 := C.of_none l
    have hn := hid_new hp C
    have ex1 : Ex (hid m H) (hid (m.push p) H') := fun b o e => by
      have e1 := l'.ex b o e
      obtain ⟨⟨h1, h2⟩, h3⟩ := hid_some e1
      rw [hid_of (m := m.push p) ⟨fun z => ?_, h2⟩]
      · exact h3
      · rcases List.mem_append.mp (show b ∈ m.ix ++ [p] from z) with z | z
        · exact h1 z
        · have : b = p := by simpa using z
          subst this
          have := (hid_some e).2
          rw [hp] at this; cases this
    have l2 : Le m H (m.push p) H' := ⟨push_pre, ex1, rfl, l'.hk, fun a ha => (List.mem_append.mp (show a ∈ m.ix ++ [p] from ha)).elim .inl fun z => .inr (by
      have : a = p := by simpa using z
      subst this; exact hp), l'.al⟩
    have last : (m.push p).ix[c.length]? = some p := by
      show (m.ix ++ [p])[c.length]? = some p
      rw [← C.len]; simp
    refine q (.cell c.length) _ (.ref p) H' (m.push p) hd ⟨by simp [Ad.push, C.len], ?_, fun k ce e => ?_, fun b hb => C1.hs b hb, fun a ha => ?_⟩ ⟨p, last, rfl⟩ l2
    · show (m.ix ++ [p]).Nodup
      rw [List.nodup_append]
      refine ⟨C.nd, by simp, fun a ha b hb e => ?_⟩
      have : b = p := by simpa using hb
      subst this; subst e
      exact hn.1 ha
    · by_cases hk : k < c.length
      · rw [List.getElem?_append_left hk] at e
        obtain ⟨a, h1, h2⟩ := C.at_ k ce e
        refine ⟨a, push_pre k a h1, h2.step l2 fun o' e' => ?_⟩
        rw [l.hk a (List.mem_append_right _ (List.mem_of_getElem? h1))]; exact e'
      · have hk' : k = c.length := by
          have := (List.getElem?_eq_some_iff.mp e).1
          simp at this; omega
        subst hk'
        simp at e; subst e
        exact ⟨p, last, ws, hp', flat_any hf r'⟩
    · rcases List.mem_append.mp (show a ∈ m.ix ++ [p] from ha) with z | z
      · exact C.dj a z
      · have : a = p := by simpa using z
        subst this
        exact hn.2
end
section
variable {X : Cx} {CX : CXT} {k np : Nat} {f C fI : Addr} {fd : FuncData} {ps : List Str} {S : Pm} {Sn : Pn} {E : XK} {x : Str} {p pos apos : Pos} {e o : Expr} {es : List Expr} {ta tv : TD} {tas : TDs}
def dCallN (S : Pn) (np : Nat) (t : TDs) : TD := fun ρ c Φ => t ρ c fun ds c1 => ds.length = np ∧ okDs 0 ds = true ∧ S ds fun xs => Φ (.cell c1.length) (c1 ++ [.lst xs])
theorem pd_callN (F : FnOk X.prog X.w X.K X.mg X.base CX k f fd ps (spN X.K np Sn)) (hr : Room k X.A) (hm : X.mg x = some (.ref f)) (hk : PySem.W.keepIn X.K (.ref f) = true) (hb : Binds X.K fd ps []) (hx : Passes CX X E)
    (ha : PDs X (e :: es) tas) (hg : Gl X x := by rfl) (hdb : (x == ("__debug__" : Str)) = false := by decide) (he : starEach (e :: es) X.env = (false, eval e X.env) :: starEach es X.env := by rfl) (hpl : (backTo pos (starEach es X.env)).any (·.1) = false := by rfl) :
    PD X (.Call (.Name x p) (e :: es) [] pos) (dCallN Sn np tas) := PE.imp (pe_call F hr hg hm hk hb .nil hx ha hdb he hpl) fun σ H Q ⟨m, ρ, c, Φ, S', h, q⟩ =>
    ⟨m, ρ, c, _, S', h, fun ds c1 vs H1 m1 ⟨hl, ok, hc⟩ C1 R1 L1 => by show spN _ _ _ (_ ++ []) _ _ _; rw [List.append_nil]; exact sp_new C1 R1 hl ok hc (KQ.le (K := X.K) q L1)⟩

/-! ### objects: attributes, properties, the making -/
def lookF (f : Str) : List Str → List D → Option D
  | n :: ns, d :: ds => if f = n then some d else lookF f ns ds
  | _, _ => none
theorem lookF_at {K : PySem.W.Frag} {m : List Addr} {H : Hp} {f : Str} : ∀ {ns : List Str} {ds : List D} {fs : List (Str × V)} {d : D}, fs.map (·.1) = ns → RL K m H ds (fs.map (·.2)) → lookF f ns ds = some d → ∃ v, fs.lookup f = some v ∧ R K m H d v
  | n :: ns, d0 :: ds, (a, v) :: fs, d, e1, ⟨x, r, e2, h1, h2⟩, e => by
    simp only [List.map_cons, List.cons.injEq] at e1 e2
    obtain ⟨rfl, e1⟩ := e1
    obtain ⟨rfl, rfl⟩ := e2
    unfold lookF at e
    by_cases hf : f = a
    · rw [if_pos hf] at e; cases e
      exact ⟨v, by rw [hf]; simp [List.lookup], h1⟩
    · rw [if_neg hf] at e
      obtain ⟨u, h3, h4⟩ := lookF_at e1 h2 e
      refine ⟨u, ?_, h4⟩
      have hb : (f == a) = false := by simpa using hf
      simp only [List.lookup, hb]; exact h3
  | [], _, _, _, _, _, e => by simp [lookF] at e
  | _ :: _, [], _, _, _, _, e => by simp [lookF] at e
  | _ :: _, _ :: _, [], _, e1, _, _ => by simp at e1
/-- o.f of an object of the class at C -/
def dFld (C : Addr) (f : Str) (ta : TD) : TD := fun ρ c Φ => ta ρ c fun x c1 => match vw c1 x with
  | .ins C' ns ds => C' = C ∧ ∃ d, lookF f ns ds = some d ∧ Φ d c1
  | _ => False
theorem pd_fld {f : Str} (cl : Cls X.K C) (na : NoAttr X.K C f) (h : PD X e ta) (hb : attributeBase e f X.env (eval e X.env) = eval e X.env := by rfl) : PD X (.Attribute e f pos) (dFld C f ta) :=
  PE.imp (pe_fld h hb) fun σ H Q ⟨m, ρ, c, Φ, S, h, q⟩ =>
  ⟨m, ρ, c, _, S, h, fun x c1 u H1 m1 hx C1 R1 L1 => by
    have w := W.vw C1 R1
    revert hx w
    generalize vw c1 x = x'
    intro hx w
    cases x' <;> first | exact hx.elim | skip
    obtain ⟨rfl, d, hd, hΦ⟩ := hx
    obtain ⟨a, dx, fs, rfl, h1, h2, h3⟩ := w
    obtain ⟨v, h4, h5⟩ := lookF_at h2 h3 hd
    exact ⟨a, _, dx, fs, v, rfl, h1, cl, na, h4, q d c1 v H1 m1 hΦ C1 h5 L1⟩⟩
/-- o.f = e, o a mutable object -/
def setF (f : Str) (d : D) : List Str → List D → List Str × List D
  | n :: ns, x :: ds => if n = f then (n :: ns, d :: ds) else ((n :: (setF f d ns ds).1), (x :: (setF f d ns ds).2))
  | _, _ => ([f], [d])
theorem setF_at {K : PySem.W.Frag} {m : List Addr} {H : Hp} {f : Str} {d : D} {v : V} (r : R K m H d v) : ∀ {ns : List Str} {ds : List D} {fs : List (Str × V)}, fs.map (·.1) = ns → RL K m H ds (fs.map (·.2)) → (putF f v fs).map (·.1) = (setF f d ns ds).1 ∧ RL K m H (setF f d ns ds).2 ((putF f v fs).map (·.2))
  | [], ds, fs, e1, h => by
    have : fs = [] := by simpa using e1
    subst this
    exact ⟨rfl, v, [], rfl, r, rfl⟩
  | n :: ns, [], fs, e1, h => by
    have : fs = [] := List.map_eq_nil_iff.mp h
    subst this
    simp at e1
  | n :: ns, x :: ds, [], e1, _ => by simp at e1
  | n :: ns, x :: ds, (a, u) :: fs, e1, ⟨y, r', e2, h1, h2⟩ => by
    simp only [List.map_cons, List.cons.injEq] at e1 e2
    obtain ⟨rfl, e1⟩ := e1
    obtain ⟨rfl, rfl⟩ := e2
    have ih := setF_at (f := f) r e1 h2
    rw [show putF f v ((a, u) :: fs) = (if a = f then (a, v) :: fs else (a, u) :: putF f v fs) from rfl]
    unfold setF
    by_cases hf : a = f
    · rw [if_pos hf, if_pos hf]
      exact ⟨by simp [e1], v, _, rfl, r, h2⟩
    · rw [if_neg hf, if_neg hf]
      exact ⟨by simp [ih.1], u, _, rfl, h1, ih.2⟩
def dStF (C : Addr) (f : Str) (ta tv : TD) : TSD := fun De ρ c => tv ρ c fun d c1 => ta ρ c1 fun x c2 => ∃ k ns ds, x = .cell k ∧ c2[k]? = some (.obj C ns ds) ∧ ns.length < 1000 ∧ De.nx ρ (c2.set k (.obj C (setF f d ns ds).1 (setF f d ns ds).2))
theorem psd_stf {f : Str} {value : Expr} {pos' : Pos} (cl : Cls X.K C) (na : NoAttr X.K C f) (ha : PD X o ta) (hv : PD X value tv) (hs : swapsWith value (some (.Attribute o f pos')) pos.line X.env = pure false := by rfl) : PSD X (.Assign [.Attribute o f pos'] value pos) (dStF C f ta tv) :=
  PS.imp (ps_fld ha hv hs) fun Dn σ H ⟨m, ρ, c, De, S, h, n, r, b, k⟩ =>
  ⟨m, ρ, c, _, S, h, fun d c1 y H1 m1 hx C1 R1 L1 => ⟨m1, ρ, c1, _, S.step L1 C1, hx, fun x c2 u H2 m2 hy C2 R2 L2 => by
    obtain ⟨j, ns, ds, rfl, h1, h2, h3⟩ := hy
    obtain ⟨a, h4, rfl⟩ := R2
    obtain ⟨a', h5, dx, fs, h6, h7, h8⟩ := C2.at_ j _ h1
    rw [h4] at h5; cases h5
    have hm : a ∈ m2.ix := List.mem_of_getElem? h4
    have z1 := setF_at (f := f) (L2.r R1) h7 h8
    have z := cell_put (o := .ins C dx (putF f y fs)) (ce := .obj C (setF f d ns ds).1 (setF f d ns ds).2) C2 h4 ⟨dx, _, upd_same, z1.1, by show RL _ _ (hid m2 _) _ _; rw [hid_mut hm]; exact z1.2⟩
    exact ⟨a, C, dx, fs, rfl, h6, cl, na, by rw [← List.length_map (f := (·.1)), h7]; exact h2, n σ _ m2 ρ _ h3 ((S.step (L1.trans L2) C2).step z.2 z.1) ((L1.trans L2).trans z.2)⟩⟩⟩
/-- o.p, a property of the class at C -/
def dProp (C : Addr) (S : Pm) (ta : TD) : TD := fun ρ c Φ => ta ρ c fun x c1 => (∃ ns ds, x = .ins C ns ds) ∧ callP S [x] c1 Φ
theorem pd_prop {f : Str} {pn : Addr} {g : Addr} (cl : Cls X.K C) (hp : PropOf X.K C f pn g) (F : FnOk X.prog X.w X.K X.mg X.base CX k g fd ps (spD X.K 0 1 S)) (hr : Room (k + 1) X.A) (hb : Binds X.K fd ps []) (hx : Passes CX X.nox E) (h : PD X e ta)
    (hbs : attributeBase e f X.env (eval e X.env) = eval e X.env := by rfl) : PD X (.Attribute e f pos) (dProp C S ta) :=
  PE.imp (pe_prop h cl hp F hr hb .nil hx hbs) fun σ H Q ⟨m, ρ, c, Φ, S', h, q⟩ =>
  ⟨m, ρ, c, _, S', h, fun x c1 u H1 m1 hx C1 R1 L1 => by
    obtain ⟨⟨ns, ds, rfl⟩, hc⟩ := hx
    obtain ⟨a, dx, fs, rfl, h1, h2, h3⟩ := W.of R1
    have r1 : RRL X.K H1 m1 [.ins C ns ds] [.ref a] := by
      show RL _ _ _ [_] [_]
      exact ⟨.ref a, [], rfl, R1, rfl⟩
    exact ⟨a, dx, fs, rfl, h1, sp_pure C1 r1 rfl hc (KQ.le (K := X.K) q L1)⟩⟩
end
end Cw

namespace Cw
open PySem PySem.Spec PyProof.Rows L2

/-! ### own ==, !=, len, str and truth of an object -/
section
variable {prog : Program} {w : World} {A : Around} {E : Value → Shared → Prop} {s : Shared} {K : PySem.W.Frag} {x C f : Addr} {ox : Obj} {od : Option Obj} {b : Value}
open Builtin in
theorem ne_body {Q : Value → Shared → Prop} (hu : A.in1.units < cLine) (X : K.In s.heap) (I : PySem.W.InstAt s.heap x ox C od) (hm : PySem.W.mroIn K C (.type "object") = some true)
    (hs : PySem.W.findIn K (.ref C) "__eq__" = some (some (.ref f))) (hf : PySem.W.isFn K (.ref f) = true)
    (h : wpAny (model prog w) A.in1 (call (.ref f) [.ref x, b]) (fun v s' => ∃ k, v = .bool k ∧ Q (.bool (!k)) s') E s) : wpAny (model prog w) A (call (.builtin "object.__ne__") [.ref x, b]) Q E s := by
  refine wpAny_call (codeAny_call_builtin PySem.F.slot_object_ne.plain PySem.F.cmpEntry_ne (PySem.W.check_slot (i := "object.__ne__") (owner := "object") (n := "__ne__") (by decide +kernel) (by decide +kernel) (I.type.andThen (PySem.W.looks_mroIn X hm)) (PySem.F.cmpArgs_ne _ _) ?_))
  unfold Builtin.«object.__ne__»
  refine wpAny_bind (m := slotArgs "__ne__" 1 _) (wpAny_pure ?_)
  refine wpAny_bind (m := cRoomFor _ _) (wpAny_cRoomFor hu ?_)
  refine wpAny_bind (m := callSpecialIfBound? (.ref x) (Str.ofString "__eq__") _) (PySem.W.ifBound_K X I hs hf (wpAny_mono h (fun r s' hr => ?_) fun _ _ y => y))
  obtain ⟨k, rfl, hq⟩ := hr
  exact wpAny_bind (wpAny_truthy_bool (wpAny_pure hq))
theorem ne_K {Q : Value → Shared → Prop} {D : Value} (hu : A.in1.units < cLine) (X : K.In s.heap) (I : PySem.W.InstAt s.heap x ox C od) (hb : PySem.W.Looks (model prog w) s.heap (typeOf b) (.ref C)) (hm : PySem.W.mroIn K C (.type "object") = some true)
    (hn : PySem.W.findIn K (.ref C) "__ne__" = some (some (.builtin "object.__ne__"))) (hs : PySem.W.findIn K (.ref C) "__eq__" = some (some (.ref f))) (hf : PySem.W.isFn K (.ref f) = true)
    (h : wpAny (model prog w) A.in1 (call (.ref f) [.ref x, b]) (fun v s' => ∃ k, v = .bool k ∧ Q (.bool (!k)) s') E s) : wpAny (model prog w) A (richCompare .NotEq (.ref x) b) Q E s := by
  have one : wpAny (model prog w) A (tryCompare (.ref x) "__ne__" b) (fun r s' => ∃ v, r = some v ∧ Q v s') E s := by
    unfold tryCompare
    refine wpAny_bind (NtL.csib (I.type.andThen (PySem.W.looks_findIn X hn)) (PySem.F.slot_object_ne.bind _) (wpAny_mono (ne_body hu X I hm hs hf (Q := fun v s' => ∃ k, v = .bool k ∧ Q v s') (wpAny_mono h (fun v s' hv => ?_) fun _ _ e => e)) (fun v s' hv => ?_) fun _ _ e => e))
    · obtain ⟨k, rfl, q⟩ := hv
      exact ⟨k, rfl, _, rfl, q⟩
    · obtain ⟨k, rfl, q⟩ := hv
      exact wpAny_pure ⟨_, rfl, q⟩
  have hu0 : A.units < cLine := Nat.lt_of_succ_lt hu
  unfold richCompare
  simp only [oneThing_ref]
  refine wpAny_holding (wpAny_bind (wpAny_cRoomFor hu0 ?_))
  refine wpAny_bind (I.type.here (wpAny_bind (hb.here ?_)))
  rw [show (Value.ref C != Value.ref C) = false from by simp]
  simp only [Bool.false_eq_true, if_false]
  refine wpAny_bind (wpAny_pure ?_)
  simp only [Bool.false_eq_true, if_false]
  rw [show (cmpInfo .NotEq).2.1 = ("__ne__" : Str) from rfl]
  refine wpAny_bind (wpAny_mono one (fun r s' z => ?_) fun _ _ e => e)
  obtain ⟨v, rfl, hq⟩ := z
  exact wpAny_pure hq
open Builtin in
theorem tru_K {Q : Bool → Shared → Prop} (X : K.In s.heap) (I : PySem.W.InstAt s.heap x ox C od) (hs : PySem.W.findIn K (.ref C) "__bool__" = some none) (hl : PySem.W.findIn K (.ref C) "__len__" = some (some (.ref f))) (hf : PySem.W.isFn K (.ref f) = true)
    (h : wpAny (model prog w) A.in1 (call (.ref f) [.ref x]) (PySem.W.LenBack fun v s' => ∃ n t, v = .int n t ∧ Q (n != 0) s') E s) : wpAny (model prog w) A (truthy (.ref x)) Q E s := by
  unfold truthy
  refine wpAny_bind (m := callSpecial? (.ref x) (Str.ofString "__bool__")) (wpAny_bind (wpAny_bind (I.type.here ((PySem.W.looks_findIn X hs).here (wpAny_pure ?_)))))
  refine wpAny_bind (wpAny_bind (I.type.here ((PySem.W.looks_findIn X hl).here ?_)))
  show wpAny _ _ (if (some (Value.ref f)).isNone = true then _ else _) _ _ _
  rw [if_neg (by simp)]
  refine wpAny_bind (PyProof.Rows.runValue_entry entry_len ?_)
  rw [Around.under_plainId plain_len _]
  unfold Builtin.«len»
  refine wpAny_bind (m := oneArg "len" _) (wpAny_pure ?_)
  refine wpAny_bind (m := callSpecial? (.ref x) (Str.ofString "__len__")) (PySem.W.special_fn X I hl (beq_iff_eq.mp hf) (wpAny_mono h (fun r s' hr => ?_) fun _ _ y => y))
  cases r <;> first | exact hr.elim | skip
  rename_i n u
  obtain ⟨⟨h0, h1⟩, n', t, e, hq⟩ := hr
  cases e
  refine wpAny_bind (wpAny_holding (wpAny_pure ?_))
  refine wpAny_bind (wpAny_letGo ?_)
  show wpAny _ _ (if n < 0 then _ else _) _ _ _
  rw [if_neg (by omega)]
  show wpAny _ _ (if n ≥ 2 ^ 63 then _ else _) _ _ _
  rw [if_neg (by omega)]
  exact wpAny_bind (wpAny_mkInt (wpAny_pure ⟨_, rfl, wpAny_pure hq⟩))
end

theorem type_bool : isType (.type "bool") = pure true := by first | rfl | kernel_rfl | (unfold isType; rw [isSubtype_type]; kernel_rfl)
open Builtin in
theorem bool_tru {prog : Program} {w : World} {A : Around} {E : Value → Shared → Prop} {s : Shared} {x : Value} {Q : Value → Shared → Prop} (h : wpAny (model prog w) A.in1.in1 (truthy x) (fun b s' => Q (.bool b) s') E s) : wpAny (model prog w) A (call (.type "bool") [x]) Q E s := by
  refine callType_codes (T := "bool") (Bi := Builtin.«object.__init__») (Q₁ := fun r s₁ => ∃ b, r = .bool b ∧ Q r s₁) PySem.F.called_bool (PySem.F.typeCall_bool_1 _) PySem.F.entry_object_init ?_ ?_
  · refine codeAny_of_tree ?_
    show wpAny _ A.in1.in1 (do checkBuiltinCall "bool.__new__" ⟨[.type "bool", x], []⟩; again (.builtin "bool.__new__" ⟨[.type "bool", x], []⟩)) _ _ s
    refine wpAny_bind (wpAny_of_eq (PySem.F.newCall_bool_1 _) (wpAny_pure ⟨plainId_quiet (by decide +kernel) _, codeAny_builtin PySem.F.entry_bool_new ?_⟩))
    rw [Around.under_plainId (by decide +kernel) _]
    unfold Builtin.«bool.__new__»
    refine wpAny_bind (wpAny_of_eq (a := true) type_bool ?_)
    refine PySem.W.KFB.if_not rfl ?_
    refine wpAny_bind (wpAny_of_eq (a := true) PySem.F.conv_sub_bool ?_)
    refine PySem.W.KFB.if_not rfl ?_
    refine wpAny_bind (m := someArgs "bool" 0 1 _) (wpAny_pure ?_)
    refine wpAny_bind (wpAny_mono h (fun b s' q => ?_) fun _ _ e => e)
    exact wpAny_pure ⟨b, rfl, q⟩
  · rintro obj s₁ ⟨b, rfl, hq⟩
    exact ⟨PySem.typeIs_bool _ _, PySem.F.args_object_init_2 _ _, object_init_meets PySem.F.called_bool.init.lookup PySem.F.called_bool.made (by decide) prog w A.in1 _ s₁ ⟨PySem.typeIs_bool _ _, rfl, hq⟩⟩
section
variable {X : Cx} {CX : CXT} {k : Nat} {C f : Addr} {fd : FuncData} {ps : List Str} {sp : Sp} {E : XK} {pos : Pos} {pins : List (Addr × Obj)} {σ : L2.St} {H : Hp} {s : Shared} {Q : VK} {vs : List V} {us : List Value}
theorem v1 (a : Addr) : Vals [V.ref a] [Value.ref a] := .cons rfl .nil
theorem v2 (a b : Addr) : Vals [V.ref a, V.ref b] [Value.ref a, Value.ref b] := .cons rfl (.cons rfl .nil)
theorem call_own {A : Around} (sb : Sub X k A) (I : Inv X pins σ H s) (F : FnOk X.prog X.w X.K X.mg X.base CX k f fd ps sp) (hb : Binds X.K fd ps []) (hx : Passes CX X E) (r2 : Vals vs us) (hsp : sp vs H Q E) :
    wpAny (model X.prog X.w) A (call (.ref f) us) (EP X pins σ Q) X.xe s := by
  have e0 : Env0 X.prog X.w X.K X.mg X.base A X.stack s H := by
    have e := I.env0
    exact ⟨by rw [sb.fr]; exact e.frames, e.mod, e.bs, e.bsz, e.funs, e.frf, e.hok, e.bare⟩
  have hl := F.len _ _ _ _ hsp
  refine wpAny_call (codeAny_mono (F.run A X.stack s H ⟨us, []⟩ us vs _ E sb.room e0 (by
    have := hb s us I.kIn (by rw [List.append_nil, ← r2.length]; exact hl)
    simpa using this) r2 hsp) fun r s' hq => ?_)
  cases r with
  | error e => exact hx pins σ H s e s' I hq
  | ok fl =>
    cases fl with
    | ret w =>
      obtain ⟨z, H', I', rz, ez⟩ := I.after hq
      exact ⟨z, H', I', rz, ez⟩
    | next => exact False.elim hq
    | brk => exact False.elim hq
    | cont => exact False.elim hq
/-- what an own two-place method says of two objects of its class -/
def rOwn2 (C : Addr) (sp : Sp) (E : XK) (neg : Bool) : R2 := fun x y H Q => ∃ a dx fs b dy gs, x = .ref a ∧ y = .ref b ∧ H a = some (.ins C dx fs) ∧ H b = some (.ins C dy gs) ∧ sp [.ref a, .ref b] H (fun v H' => ∃ k, v = .bl k ∧ Q (.bl (neg ^^ k)) H') E
theorem op_ownEq (F : FnOk X.prog X.w X.K X.mg X.base CX k f fd ps sp) (hs : PySem.W.findIn X.K (.ref C) "__eq__" = some (some (.ref f))) (hf : PySem.W.isFn X.K (.ref f) = true) (hb : Binds X.K fd ps []) (hx : Passes CX X E) (hr : Room k X.A) : OpR X (compareOp .Eq) (rOwn2 C sp E false) := by
  intro pins s σ H x y v u Q I rx ry d
  obtain ⟨a, dx, fs, b, dy, gs, rfl, rfl, ha, hb', h⟩ := d
  cases rx
  cases ry
  obtain ⟨mA, J, _⟩ := ins_get I.hok ha
  obtain ⟨mB, J', _⟩ := ins_get I.hok hb'
  obtain ⟨od, J, _⟩ := J.look
  obtain ⟨od', J', _⟩ := J'.look
  obtain ⟨m, hF⟩ := I.fr
  show wpAny (model X.prog X.w) X.A (richCompare .Eq _ _) _ _ _
  refine PySem.W.cmp_K (op := .Eq) (tb := .ref C) hr.units0 hF I.ok.mod.kin J J'.type (by simp [PySem.W.notFirst]) hs hf (wpAny_mono (call_own ⟨hr, rfl⟩ I F hb hx (v2 a b) h) (fun v s' q => ?_) fun _ _ e => e)
  obtain ⟨z, H', I', rz, k, rfl, q⟩ := q
  cases rz
  exact ⟨.bl k, H', I', rfl, by simpa using q⟩
theorem op_ownNe (F : FnOk X.prog X.w X.K X.mg X.base CX k f fd ps sp) (hs : PySem.W.findIn X.K (.ref C) "__eq__" = some (some (.ref f))) (hn : PySem.W.findIn X.K (.ref C) "__ne__" = some (some (.builtin "object.__ne__"))) (hm : PySem.W.mroIn X.K C (.type "object") = some true) (hf : PySem.W.isFn X.K (.ref f) = true) (hb : Binds X.K fd ps []) (hx : Passes CX X E) (hr : Room (k + 1) X.A) : OpR X (compareOp .NotEq) (rOwn2 C sp E true) := by
  intro pins s σ H x y v u Q I rx ry d
  obtain ⟨a, dx, fs, b, dy, gs, rfl, rfl, ha, hb', h⟩ := d
  cases rx
  cases ry
  obtain ⟨mA, J, _⟩ := ins_get I.hok ha
  obtain ⟨mB, J', _⟩ := ins_get I.hok hb'
  obtain ⟨od, J, _⟩ := J.look
  obtain ⟨od', J', _⟩ := J'.look
  obtain ⟨m, hF⟩ := I.fr
  show wpAny (model X.prog X.w) X.A (richCompare .NotEq _ _) _ _ _
  refine ne_K (D := .none) hr.in1.units0 I.kIn J J'.type hm hn hs hf (wpAny_mono (call_own ⟨hr.in1, rfl⟩ I F hb hx (v2 a b) h) (fun v s' q => ?_) fun _ _ e => e)
  obtain ⟨z, H', I', rz, k, rfl, q⟩ := q
  cases rz
  exact ⟨k, rfl, .bl (!k), H', I', rfl, by simpa using q⟩
def rOwn1 (C : Addr) (sp : Sp) (E : XK) (g : V → VK → Hp → Prop) : List V → Hp → VK → Prop := fun xs H Q => ∃ a dx fs, xs = [.ref a] ∧ H a = some (.ins C dx fs) ∧ sp [.ref a] H (fun v H' => g v Q H') E
theorem call_lenO (F : FnOk X.prog X.w X.K X.mg X.base CX k f fd ps sp) (hs : PySem.W.findIn X.K (.ref C) "__len__" = some (some (.ref f))) (hf : PySem.W.isFn X.K (.ref f) = true) (hb : Binds X.K fd ps []) (hx : Passes CX X E) (hr : Room (k + 1) X.A) :
    CallR X (.builtin "len") (rOwn1 C sp E fun v Q H => ∃ i, v = .int i ∧ (0 ≤ i ∧ i < 2 ^ 63) ∧ Q (.int i) H) := by
  intro pins s σ H xs us Q I r h
  obtain ⟨a, dx, fs, rfl, ha, h⟩ := h
  obtain rfl := Vals.ref1 r
  obtain ⟨mA, J, _⟩ := ins_get I.hok ha
  obtain ⟨od, J, _⟩ := J.look
  obtain ⟨m, hF⟩ := I.fr
  refine PySem.W.len_K hF I.ok.mod.kin J hs hf (wpAny_mono (call_own ⟨hr.in1, rfl⟩ I F hb hx (v1 a) h) (fun v s' q => ?_) fun _ _ e => e)
  obtain ⟨z, H', I', rz, i, rfl, hi, q⟩ := q
  obtain ⟨t, rfl⟩ := rz
  exact ⟨hi, .int i, H', I'.tok _, ⟨_, rfl⟩, q⟩
theorem call_boolO (F : FnOk X.prog X.w X.K X.mg X.base CX k f fd ps sp) (hn : PySem.W.findIn X.K (.ref C) "__bool__" = some none) (hs : PySem.W.findIn X.K (.ref C) "__len__" = some (some (.ref f))) (hf : PySem.W.isFn X.K (.ref f) = true) (hb : Binds X.K fd ps []) (hx : Passes CX X E) (hr : Room (k + 3) X.A) :
    CallR X (.type "bool") (rOwn1 C sp E fun v Q H => ∃ i, v = .int i ∧ (0 ≤ i ∧ i < 2 ^ 63) ∧ Q (.bl (i != 0)) H) := by
  intro pins s σ H xs us Q I r h
  obtain ⟨a, dx, fs, rfl, ha, h⟩ := h
  obtain rfl := Vals.ref1 r
  obtain ⟨mA, J, _⟩ := ins_get I.hok ha
  obtain ⟨od, J, _⟩ := J.look
  refine bool_tru (tru_K I.kIn J hn hs hf (wpAny_mono (call_own ⟨hr.in1.in1.in1, rfl⟩ I F hb hx (v1 a) h) (fun v s' q => ?_) fun _ _ e => e))
  obtain ⟨z, H', I', rz, i, rfl, hi, q⟩ := q
  obtain ⟨t, rfl⟩ := rz
  exact ⟨hi, i, _, rfl, .bl (i != 0), H', I'.tok _, rfl, q⟩
theorem call_strO (F : FnOk X.prog X.w X.K X.mg X.base CX k f fd ps sp) (hs : PySem.W.findIn X.K (.ref C) "__str__" = some (some (.ref f))) (hf : PySem.W.isFn X.K (.ref f) = true) (hb : Binds X.K fd ps []) (hx : Passes CX X E) (hr : Room (k + 2) X.A) :
    CallR X (.type "str") (rOwn1 C sp E fun v Q H => ∃ x, v = .str x ∧ Q (.str x) H) := by
  intro pins s σ H xs us Q I r h
  obtain ⟨a, dx, fs, rfl, ha, h⟩ := h
  obtain rfl := Vals.ref1 r
  obtain ⟨mA, J, _⟩ := ins_get I.hok ha
  obtain ⟨od, J, _⟩ := J.look
  refine PySem.W.kso_call hr.in1.in1.units0 I.kIn J hs hf (wpAny_mono (call_own ⟨hr.in1.in1, rfl⟩ I F hb hx (v1 a) h) (fun v s' q => ?_) fun _ _ e => e)
  obtain ⟨z, H', I', rz, x, rfl, q⟩ := q
  obtain ⟨t, rfl⟩ := rz
  exact ⟨.str x, H', I', ⟨_, rfl⟩, q⟩
end
end Cw

namespace Cw
open PySem PySem.Spec PyProof.Rows L2

/-! ### the making of an object -/
section
variable {K : PySem.W.Frag} {m : Ad} {H : Hp} {c : List Cell}
def Ad.mk1 (m : Ad) (x : Addr) : Ad := ⟨[x], m.hd ++ m.ix⟩
/-- what __init__ promises of a new object, over data -/
def callI (C : Addr) (S : Pm) (ds : List D) (c : List Cell) (Φ : D → List Cell → Prop) : Prop := okDs 0 ds = true ∧ S [.obj C [] []] (.cell 0 :: ds) fun d c' => match c' with
  | [.obj C' ns es] => d = .non ∧ C' = C ∧ okDs 0 es = true ∧ Φ (.ins C ns es) c
  | _ => False
theorem sp_make {S : Pm} {np : Nat} {C x dx : Addr} {ds : List D} {vs : List V} {Φ : D → List Cell → Prop} {Q : VK} {E : XK} (Cc : CR K H m c) (r : RRL K H m ds vs) (hl : ds.length + 1 = np) (h : callI C S ds c Φ) (q : KQ K H m Φ Q)
    (hx : H x = none) (hd : H dx = none) (hne : dx ≠ x) : spD K 1 np S (.ref x :: vs) (upd (upd H dx (.own x)) x (.ins C dx [])) (fun v H2 => v = .non ∧ Q (.ref x) H2) E := by
  obtain ⟨ok, hS⟩ := h
  have hal := hall Cc
  have hx1 : x ∉ m.ix ∧ x ∉ m.hd := hid_new hx Cc
  have keep2 : ∀ b o, H b = some o → upd (upd H dx (.own x)) x (.ins C dx []) b = some o := fun b o e => by
    rw [upd_ne (ne_of_none e hx), upd_ne (ne_of_none e hd)]; exact e
  have ex2 : Ex (hid m H) (hid (m.mk1 x) (upd (upd H dx (.own x)) x (.ins C dx []))) := fun b o e => by
    obtain ⟨⟨h1, h2⟩, h3⟩ := hid_some e
    rw [hid_of (m := m.mk1 x)]
    · exact keep2 b o h3
    · refine ⟨fun z => ?_, fun z => ?_⟩
      · have : b = x := by simpa [Ad.mk1] using z
        subst this; rw [hx] at h3; cases h3
      · rcases List.mem_append.mp (show b ∈ m.hd ++ m.ix from z) with z | z
        · exact h2 z
        · exact h1 z
  refine ⟨m.mk1 x, [.obj C [] []], .cell 0 :: ds, _, rfl, hl, ⟨rfl, by simp [Ad.mk1], fun k ce e => ?_, fun b hb => ?_, fun a ha z => ?_⟩, ?_, hS, fun d c' w H' hΦ C' r' l => ?_⟩
  · have hk : k = 0 := by
      have := (List.getElem?_eq_some_iff.mp e).1
      simp at this; exact this
    subst hk
    simp at e; subst e
    exact ⟨x, rfl, dx, [], upd_same, rfl, rfl⟩
  · obtain ⟨o, e⟩ := hal b hb
    exact ⟨o, keep2 b o e⟩
  · have : a = x := by simpa [Ad.mk1] using ha
    subst this
    rcases List.mem_append.mp (show a ∈ m.hd ++ m.ix from z) with z | z
    · exact hx1.2 z
    · exact hx1.1 z
  · show RL K [x] (hid (m.mk1 x) _) (.cell 0 :: ds) (.ref x :: vs)
    exact ⟨.ref x, vs, rfl, ⟨x, rfl, rfl⟩, RL.low (n := 0) ex2 (fun k a hk => absurd hk (Nat.not_lt_zero _)) ds vs ok r⟩
  · cases c' with
    | nil => exact hΦ.elim
    | cons ce t =>
      cases t with
      | cons _ _ => cases ce <;> exact hΦ.elim
      | nil =>
        cases ce with
        | lst _ => exact hΦ.elim
        | obj C'' ns es =>
          obtain ⟨rfl, rfl, ok2, hq⟩ := hΦ
          obtain ⟨b, hb, hat⟩ := C'.at_ 0 _ rfl
          have hbx : b = x := by
            have h0 : (m.mk1 x).ix[0]? = some x := rfl
            rw [h0] at hb
            exact (Option.some.inj hb).symm
          subst hbx
          obtain ⟨dx', fs, h3, h4, h5⟩ := hat
          have exm : Ex (hid (m.mk1 b) H') (hid m H') := fun a o e => by
            obtain ⟨⟨h1, h2⟩, h6⟩ := hid_some e
            rw [hid_of ⟨fun z => h2 (List.mem_append_right _ z), fun z => h2 (List.mem_append_left _ z)⟩]
            exact h6
          have keep : ∀ a o, a ∈ m.hd ++ m.ix → H a = some o → H' a = some o := fun a o ha e => by
            rw [l.hk a ha]; exact keep2 a o e
          have l' : Le m H m H' := ⟨fun _ _ e => e, (ex2.trans l.ex).trans exm, rfl, fun a ha => by
            obtain ⟨o, e⟩ := Cc.hs a ha
            rw [e]; exact keep a o (List.mem_append_left _ ha) e, fun _ h => .inl h, fun a e => upd_none (upd_none (l.al a e))⟩
          refine ⟨by cases w <;> first | rfl | exact absurd r' (by intro z; cases z), q _ c _ H' m hq ⟨Cc.len, Cc.nd, fun k ce e => ?_, fun a ha => ?_, Cc.dj⟩ ⟨b, dx', fs, rfl, ?_, h4, ?_⟩ l'⟩
          · obtain ⟨a, h1, h2⟩ := Cc.at_ k ce e
            exact ⟨a, h1, h2.step l' fun o e' => keep a o (List.mem_append_right _ (List.mem_of_getElem? h1)) e'⟩
          · obtain ⟨o, e⟩ := Cc.hs a ha
            exact ⟨o, keep a o (List.mem_append_left _ ha) e⟩
          · rw [hid_of hx1]; exact h3
          · exact RL.low (n := 0) exm (fun k a hk => absurd hk (Nat.not_lt_zero _)) es _ ok2 h5
end
section
variable {X : Cx} {CX : CXT} {k np : Nat} {f C : Addr} {fd : FuncData} {ps ks : List Str} {S : Pm} {E : XK} {x : Str} {p pos : Pos} {e : Expr} {es : List Expr} {kws : List Keyword} {tas tks : TDs}
def dMake (C : Addr) (S : Pm) (np : Nat) (t : TDs) : TD := fun ρ c Φ => t ρ c fun ds c1 => ds.length + 1 = np ∧ callI C S ds c1 Φ
theorem pd_make (M : Mk X.K C f) (F : FnOk X.prog X.w X.K X.mg X.base CX k f fd ps (spD X.K 1 np S)) (hr : Room (k + 1) X.A) (hm : X.mg x = some (.ref C)) (hb : Binds X.K fd ps []) (hx : Passes CX X E)
    (ha : PDs X (e :: es) tas) (hg : Gl X x := by rfl) (hdb : (x == ("__debug__" : Str)) = false := by decide) (he : starEach (e :: es) X.env = (false, eval e X.env) :: starEach es X.env := by rfl) (hpl : (backTo pos (starEach es X.env)).any (·.1) = false := by rfl) :
    PD X (.Call (.Name x p) (e :: es) [] pos) (dMake C S np tas) := PE.imp (pe_make M F hr hg hm hb .nil hx ha hdb he hpl) fun σ H Q ⟨m, ρ, c, Φ, S', h, q⟩ =>
    ⟨m, ρ, c, _, S', h, fun ds c1 vs H1 m1 ⟨hl, hc⟩ C1 R1 L1 => fun a dx h1 h2 h3 => by rw [List.append_nil]; exact sp_make C1 R1 hl hc (KQ.le (K := X.K) q L1) h1 h2 h3⟩
end
section
variable {X : Cx} {CX : CXT} {k : Nat} {f C : Addr} {fd : FuncData} {ps : List Str} {S : Pm} {E : XK} {x : Str} {p pos : Pos} {a b e : Expr} {ta tb : TD}
def dOwn2 (C : Addr) (S : Pm) (neg : Bool) (ta tb : TD) : TD := fun ρ c Φ => ta ρ c fun x c1 => tb ρ c1 fun y c2 => (∃ ns ds, x = .ins C ns ds) ∧ (∃ ns ds, y = .ins C ns ds) ∧ callP S [x, y] c2 fun d c3 => ∃ k, d = .bl k ∧ Φ (.bl (neg ^^ k)) c3
theorem lift_own2 {K : PySem.W.Frag} {neg : Bool} {σ : L2.St} {H : Hp} {Q : VK} (h : lift K (dOwn2 C S neg ta tb) σ H Q) : tOp (rOwn2 C (spD K 0 2 S) E neg) (lift K ta) (lift K tb) σ H Q := by
  obtain ⟨m, ρ, c, Φ, S', h, q⟩ := h
  refine ⟨m, ρ, c, _, S', h, fun x c1 u H1 m1 hx C1 R1 L1 => ⟨m1, ρ, c1, _, S'.step L1 C1, hx, fun y c2 v H2 m2 hy C2 R2 L2 => ?_⟩⟩
  obtain ⟨⟨ns, ds, rfl⟩, ⟨ns', ds', rfl⟩, hc⟩ := hy
  have R1' := L2.r R1
  have r2 : RRL K H2 m2 [.ins C ns ds, .ins C ns' ds'] [u, v] := by
    show RL _ _ _ [_, _] [_, _]
    exact ⟨u, [v], rfl, R1', v, [], rfl, R2, rfl⟩
  obtain ⟨a, dx, fs, rfl, h1, _⟩ := R1'
  obtain ⟨b, dy, gs, rfl, h2, _⟩ := R2
  refine ⟨a, dx, fs, b, dy, gs, rfl, rfl, (hid_some h1).2, (hid_some h2).2, sp_pure C2 r2 rfl hc fun d c' w H' m' ⟨k, hk, hΦ⟩ C' r' l' => ?_⟩
  subst hk
  cases (show w = _ from r')
  exact ⟨k, rfl, q _ c' _ H' m' hΦ C' rfl ((L1.trans L2).trans l')⟩
theorem pd_eqO (F : FnOk X.prog X.w X.K X.mg X.base CX k f fd ps (spD X.K 0 2 S)) (hs : PySem.W.findIn X.K (.ref C) "__eq__" = some (some (.ref f))) (hf : PySem.W.isFn X.K (.ref f) = true) (hb : Binds X.K fd ps []) (hx : Passes CX X E) (hr : Room k X.A)
    (h1 : PD X a ta) (h2 : PD X b tb) : PD X (.Compare a [.Eq] [b] pos) (dOwn2 C S false ta tb) := PE.imp (pe_cmpR (op_ownEq F hs hf hb hx hr) h1 h2 (nomark _)) fun σ H Q h => lift_own2 h
theorem pd_neO (F : FnOk X.prog X.w X.K X.mg X.base CX k f fd ps (spD X.K 0 2 S)) (hs : PySem.W.findIn X.K (.ref C) "__eq__" = some (some (.ref f))) (hn : PySem.W.findIn X.K (.ref C) "__ne__" = some (some (.builtin "object.__ne__"))) (hm : PySem.W.mroIn X.K C (.type "object") = some true) (hf : PySem.W.isFn X.K (.ref f) = true) (hb : Binds X.K fd ps []) (hx : Passes CX X E) (hr : Room (k + 1) X.A)
    (h1 : PD X a ta) (h2 : PD X b tb) : PD X (.Compare a [.NotEq] [b] pos) (dOwn2 C S true ta tb) := PE.imp (pe_cmpR (op_ownNe F hs hn hm hf hb hx hr) h1 h2 (nomark _)) fun σ H Q h => lift_own2 h
def dOwn1 (C : Addr) (S : Pm) (g : D → List Cell → (D → List Cell → Prop) → Prop) (ta : TD) : TD := fun ρ c Φ => ta ρ c fun x c1 => (∃ ns ds, x = .ins C ns ds) ∧ callP S [x] c1 fun d c2 => g d c2 Φ
def gLen : D → List Cell → (D → List Cell → Prop) → Prop := fun d c Φ => ∃ i, d = .int i ∧ (0 ≤ i ∧ i < 2 ^ 63) ∧ Φ (.int i) c
def gTru : D → List Cell → (D → List Cell → Prop) → Prop := fun d c Φ => ∃ i, d = .int i ∧ (0 ≤ i ∧ i < 2 ^ 63) ∧ Φ (.bl (i != 0)) c
def gTxt : D → List Cell → (D → List Cell → Prop) → Prop := fun d c Φ => ∃ x, d = .str x ∧ Φ (.str x) c
def only1 (P : D → List Cell → Prop) : List D → List Cell → Prop
  | [x], c => P x c
  | _, _ => False
theorem lift_own1 {K : PySem.W.Frag} {g : D → List Cell → (D → List Cell → Prop) → Prop} {g' : V → VK → Hp → Prop} {σ : L2.St} {H : Hp} {Q : VK}
    (hg : ∀ d c Φ w H m Q, g d c Φ → CR K H m c → RR K H m d w → KQ K H m Φ Q → g' w Q H) (h : lift K (dOwn1 C S g ta) σ H Q) : tCB (rOwn1 C (spD K 0 1 S) E g') (liftA K (dCons ta dNil)) σ H Q := by
  obtain ⟨m, ρ, c, Φ, S', h, q⟩ := h
  refine ⟨m, ρ, c, only1 fun x c1 => (∃ ns ds, x = D.ins C ns ds) ∧ callP S [x] c1 fun d c2 => g d c2 Φ, S', h, fun xs c1 us H1 m1 hx C1 R1 L1 => ?_⟩
  · cases xs with
    | nil => exact hx.elim
    | cons x t => cases t with
      | cons _ _ => exact hx.elim
      | nil =>
    obtain ⟨⟨ns, ds, rfl⟩, hc⟩ := hx
    have R1' := R1
    obtain ⟨u, r, rfl, R2, e⟩ := R1'
    cases (show r = [] from e)
    obtain ⟨a, dx, fs, rfl, h1, _⟩ := R2
    exact ⟨a, dx, fs, rfl, (hid_some h1).2, sp_pure C1 R1 rfl hc fun d c' w H' m' hΦ C' r' l' => hg d c' Φ w H' m' Q hΦ C' r' (KQ.le (K := K) q (L1.trans l'))⟩
theorem pd_lenO (F : FnOk X.prog X.w X.K X.mg X.base CX k f fd ps (spD X.K 0 1 S)) (hs : PySem.W.findIn X.K (.ref C) "__len__" = some (some (.ref f))) (hf : PySem.W.isFn X.K (.ref f) = true) (hb : Binds X.K fd ps []) (hx : Passes CX X E) (hr : Room (k + 1) X.A)
    (ha : PD X e ta) (hm : X.mg "len" = none) (hg : Gl X "len" := by rfl) (he : starEach [e] X.env = (false, eval e X.env) :: starEach [] X.env := by rfl) (hpl : (backTo pos (starEach [] X.env)).any (·.1) = false := by rfl) :
    PD X (.Call (.Name "len" p) [e] [] pos) (dOwn1 C S gLen ta) := PE.imp (pe_callB (call_lenO F hs hf hb hx hr) hg hm boot_len (pds_cons ha pds_nil he) (by decide) (by decide) he hpl) fun σ H Q h =>
    lift_own1 (fun d c Φ w H m Q ⟨i, hd, hi, hΦ⟩ C r q => by subst hd; cases (show w = _ from r); exact ⟨i, rfl, hi, q.pure C hΦ rfl⟩) h
theorem pd_boolO (F : FnOk X.prog X.w X.K X.mg X.base CX k f fd ps (spD X.K 0 1 S)) (hn : PySem.W.findIn X.K (.ref C) "__bool__" = some none) (hs : PySem.W.findIn X.K (.ref C) "__len__" = some (some (.ref f))) (hf : PySem.W.isFn X.K (.ref f) = true) (hb : Binds X.K fd ps []) (hx : Passes CX X E) (hr : Room (k + 3) X.A)
    (ha : PD X e ta) (hm : X.mg "bool" = none) (hg : Gl X "bool" := by rfl) (he : starEach [e] X.env = (false, eval e X.env) :: starEach [] X.env := by rfl) (hpl : (backTo pos (starEach [] X.env)).any (·.1) = false := by rfl) :
    PD X (.Call (.Name "bool" p) [e] [] pos) (dOwn1 C S gTru ta) := PE.imp (pe_callTy (call_boolO F hn hs hf hb hx hr) hg hm (by decide +kernel) (pds_cons ha pds_nil he) (by decide) (by decide) he hpl) fun σ H Q h =>
    lift_own1 (fun d c Φ w H m Q ⟨i, hd, hi, hΦ⟩ C r q => by subst hd; cases (show w = _ from r); exact ⟨i, rfl, hi, q.pure C hΦ rfl⟩) h
theorem pd_strO (F : FnOk X.prog X.w X.K X.mg X.base CX k f fd ps (spD X.K 0 1 S)) (hs : PySem.W.findIn X.K (.ref C) "__str__" = some (some (.ref f))) (hf : PySem.W.isFn X.K (.ref f) = true) (hb : Binds X.K fd ps []) (hx : Passes CX X E) (hr : Room (k + 2) X.A)
    (ha : PD X e ta) (hm : X.mg "str" = none) (hg : Gl X "str" := by rfl) (he : starEach [e] X.env = (false, eval e X.env) :: starEach [] X.env := by rfl) (hpl : (backTo pos (starEach [] X.env)).any (·.1) = false := by rfl) :
    PD X (.Call (.Name "str" p) [e] [] pos) (dOwn1 C S gTxt ta) := PE.imp (pe_callTy (call_strO F hs hf hb hx hr) hg hm boot_str (pds_cons ha pds_nil he) (by decide) (by decide) he hpl) fun σ H Q h =>
    lift_own1 (fun d c Φ w H m Q ⟨x, hd, hΦ⟩ C r q => by subst hd; cases (show w = _ from r); exact ⟨x, rfl, q.pure C hΦ rfl⟩) h
end
end Cw

namespace Cw
open PySem PySem.Spec PyProof.Rows L2

/-! ### comprehensions, by what each turn says -/
theorem inner_same {c : List Cell} {acc : List D} {y : D} {Q : List Cell → Prop} (q : Q c) : inner c.length acc y (c ++ [.lst acc]) Q := by
  refine ⟨by simp, ?_⟩
  have e : Nat.beq (c ++ [Cell.lst acc]).length (c.length + 1) = true := by
    rw [List.length_append]; exact Nat.beq_refl _
  rw [e]
  show Q _
  rw [List.take_left']
  · exact q
  · rfl
theorem okDs_app {n : Nat} : ∀ {a b : List D}, okDs n a = true → okDs n b = true → okDs n (a ++ b) = true
  | [], _, _, h => h
  | d :: a, b, h, h2 => by
    have h' : okD n d = true ∧ okDs n a = true := by simpa [okDs] using h
    show okDs n (d :: (a ++ b)) = true
    simp only [okDs, Bool.and_eq_true]
    exact ⟨h'.1, okDs_app h'.2 h2⟩
mutual
theorem okD_up {n : Nat} : ∀ d : D, okD n d = true → okD (n + 1) d = true
  | .non, h => rfl
  | .bl _, h => rfl
  | .int _, h => rfl
  | .str _, h => rfl
  | .tup ds, h => by
    have h : okDs n ds = true := by simpa [okD] using h
    simpa [okD] using okDs_up ds h
  | .lst ds, h => by
    have h : okDs n ds = true := by simpa [okD] using h
    simpa [okD] using okDs_up ds h
  | .fl ds, h => by
    have h : okDs n ds = true := by simpa [okD] using h
    simpa [okD] using okDs_up ds h
  | .cell j, h => by simp [okD] at h ⊢; omega
  | .ins _ _ ds, h => by
    have h : okDs n ds = true := by simpa [okD] using h
    simpa [okD] using okDs_up ds h
  | .raw _, h => by first | rfl | exact h | simp [okD] at h ⊢
theorem okDs_up {n : Nat} : ∀ ds : List D, okDs n ds = true → okDs (n + 1) ds = true
  | [], h => rfl
  | d :: ds, h => by
    have h' : okD n d = true ∧ okDs n ds = true := by simpa [okDs] using h
    simp only [okDs, Bool.and_eq_true]
    exact ⟨okD_up d h'.1, okDs_up ds h'.2⟩
end
theorem okDs_one {n : Nat} {d : D} (h : okD n d = true) : okDs n [d] = true := by simp [okDs, h]
theorem lc_filter {i : Nat} {tt : TDt} {te : TD} {ρ : Env} {c : List Cell} {Φ : List D → List Cell → Prop} (g : D → Bool) (f : D → D) (hc : okCs c.length c = true) : ∀ (ds acc : List D),
    (∀ d ∈ ds, ∀ acc (Ψ : Bool → List Cell → Prop), okDs c.length acc = true → Ψ (g d) (c ++ [.lst acc]) → tt (ρ.set i (some d)) (c ++ [.lst acc]) Ψ) →
    (∀ d ∈ ds, g d = true → okD c.length (f d) = true ∧ ∀ acc (Ψ : D → List Cell → Prop), okDs c.length acc = true → Ψ (f d) (c ++ [.lst acc]) → te (ρ.set i (some d)) (c ++ [.lst acc]) Ψ) →
    okDs c.length acc = true → acc.length + ds.length ≤ sizeLine → Φ (acc ++ (ds.filter g).map f) c → lcD i tt te ds acc ρ c Φ
  | [], acc, _, _, h, _, q => ⟨hc, h, by simpa using q⟩
  | d :: ds, acc, ht, he, h, hl, q => by
    have hl' : acc.length + (ds.length + 1) ≤ sizeLine := hl
    refine ht d List.mem_cons_self acc _ h ?_
    cases hg : g d with
    | true =>
      show te _ _ _
      obtain ⟨hk, hte⟩ := he d List.mem_cons_self hg
      refine hte acc _ h ⟨by omega, inner_same ?_⟩
      refine lc_filter g f hc ds _ (fun x hx => ht x (List.mem_cons_of_mem _ hx)) (fun x hx => he x (List.mem_cons_of_mem _ hx)) (okDs_app h (okDs_one hk)) (by rw [List.length_append]; show acc.length + 1 + ds.length ≤ _; omega) ?_
      rw [List.filter_cons_of_pos (by rw [hg])] at q
      simpa using q
    | false =>
      show inner _ _ _ _ _
      refine inner_same ?_
      refine lc_filter g f hc ds _ (fun x hx => ht x (List.mem_cons_of_mem _ hx)) (fun x hx => he x (List.mem_cons_of_mem _ hx)) h (by omega) ?_
      rw [List.filter_cons_of_neg (by rw [hg]; decide)] at q
      exact q
theorem lc_map {i : Nat} {te : TD} {ρ : Env} {c : List Cell} {Φ : List D → List Cell → Prop} (f : D → D) (hc : okCs c.length c = true) (ds : List D)
    (he : ∀ d ∈ ds, okD c.length (f d) = true ∧ ∀ acc (Ψ : D → List Cell → Prop), okDs c.length acc = true → Ψ (f d) (c ++ [.lst acc]) → te (ρ.set i (some d)) (c ++ [.lst acc]) Ψ) (hl : ds.length ≤ sizeLine) (q : Φ (ds.map f) c) : lcD i dYes te ds [] ρ c Φ :=
  lc_filter (fun _ => true) f hc ds [] (fun d _ acc Ψ _ h => h) (fun d hd _ => he d hd) rfl (by simpa using hl) (by
    have : ds.filter (fun _ => true) = ds := List.filter_eq_self.mpr fun _ _ => rfl
    rw [this]; simpa using q)
theorem forD_inv {g : TGD} {tb : TSD} {De : DEnds} (I : List D → Env → List Cell → Prop) (fin : ∀ ρ c, I [] ρ c → De.nx ρ c)
    (step : ∀ d ds ρ c (F : Env → List Cell → Prop), (∀ ρ c, I ds ρ c → F ρ c) → I (d :: ds) ρ c → g d ρ c fun ρ1 c1 => tb ⟨F, De.rt, De.nx, F⟩ ρ1 c1) : ∀ ds ρ c, I ds ρ c → forD g tb De ds ρ c
  | [], ρ, c, h => fin ρ c h
  | d :: ds, ρ, c, h => step d ds ρ c _ (fun ρ c h => forD_inv I fin step ds ρ c h) h
end Cw

namespace Cw
open PySem PySem.Spec PyProof.Rows L2

/-! ### repr of data, where no repr runs around it -/
structure Showy (p : PyData) : Prop where
  sh : p.showable = true
  nd : p.hasDict = false
  dp : p.depth ≤ 60
  sz : p.shown.length ≤ sizeLine
section
variable {X : Cx}
def rReprD (K : PySem.W.Frag) : List V → Hp → VK → Prop := fun xs H Q => ∃ a d, xs = [.ref a] ∧ Dp K H (.ref a) d ∧ Showy d ∧ Q (.str d.shown) H
theorem call_reprD (hg : X.A.guards = some []) (hu : X.A.units + 64 < cLine) : CallR X (.builtin "repr") (rReprD X.K) := by
  intro pins s σ H xs us Q I r h
  obtain ⟨a, d, rfl, hd, S, q⟩ := h
  obtain rfl := Vals.ref1 r
  obtain ⟨as, w1⟩ := Dp.reads I d (.ref a) (.ref a) hd rfl
  have := S.dp
  exact PySem.repr_of_reads' (h₀ := s.heap) w1 S.sh (fun z => by rw [S.nd] at z; cases z) hg (by omega) (fun _ _ e => e) (fun h' u tk k => ⟨.str d.shown, H, I.kept k, ⟨u, rfl⟩, q⟩) S.sz
end
def fRepr : F1 := fun x c Φ => match x with
  | .tup _ => ∃ p, D.py x = some p ∧ Showy p ∧ Φ (.str p.shown) c
  | .lst _ => ∃ p, D.py x = some p ∧ Showy p ∧ Φ (.str p.shown) c
  | _ => False
theorem l1_repr {K : PySem.W.Frag} : L1f K fRepr (fun u H Q => rReprD K [u] H Q) := by
  intro x c Φ h H m u C r Q q
  cases x <;> first | exact h.elim | skip
  · obtain ⟨p, h1, h2, h3⟩ := h
    have hd := W.dp r h1
    obtain ⟨a, xs, rfl, _⟩ := r
    exact ⟨a, p, rfl, hd, h2, q.pure C h3 rfl⟩
  · obtain ⟨p, h1, h2, h3⟩ := h
    have hd := W.dp r h1
    obtain ⟨a, xs, rfl, _⟩ := r
    exact ⟨a, p, rfl, hd, h2, q.pure C h3 rfl⟩
section
variable {X : Cx} {e : Expr} {ta : TD} {pos pp : Pos}
theorem pd_repr (hgu : X.A.guards = some []) (hu : X.A.units + 64 < cLine) (ha : PD X e ta) (hm : X.mg "repr" = none) (hg : Gl X "repr" := by rfl) (he : starEach [e] X.env = (false, eval e X.env) :: starEach [] X.env := by rfl) (hpl : (backTo pos (starEach [] X.env)).any (·.1) = false := by rfl) :
    PD X (.Call (.Name "repr" pp) [e] [] pos) (dCB (un1 fRepr) (dCons ta dNil)) := pd_B1 (call_reprD hgu hu) l1_repr (by decide +kernel) (by decide) (by decide) ha hg hm he hpl
end
end Cw

namespace Cw
open PySem PySem.Spec PyProof.Rows L2

/-! ### defs where no repr runs around them -/
structure FnG (P : Program) (w : World) (K : PySem.W.Frag) (mg : Str → Option Value) (base : Heap) (k : Nat) (f : Addr) (fd : FuncData) (ps : List Str) (sp : Sp) : Prop where
  ln : ∀ vs H Q E, sp vs H Q E → vs.length = ps.length
  rn : ∀ (A : Around) (outer : List PySem.Env) (s : Shared) (H : Hp) (args : Args) (us : List Value) (vs : List V) (Q : VK) (E : XK), A.guards = some [] → Room k A → Env0 P w K mg base A outer s H → BindsTo s fd args (ps.zip us) → Vals vs us → sp vs H Q E →
    codeAny (model P w) A (.call (.ref f) args) (L2.CR CX0 outer P w H s Q E) s
section
variable {P : Program} {w : World} {K : PySem.W.Frag} {mg : Str → Option Value} {base : Heap}
theorem fnG {x qual : Str} {st : Stmt} {f : Addr} {fd : FuncData} {N ps : List Str} {k : Nat} {sp : Sp} (F : Fun K x qual st f fd) (Sc : FnScope N ps (defScope st)) (ln : ∀ vs H Q E, sp vs H Q E → vs.length = ps.length)
    (hbody : ∀ (cdv : Value) (A : Around) (outer : List PySem.Env) (s : Shared) (H : Hp) (vs : List V) (Q : VK) (E : XK), A.guards = some [] → Room k (A.deeper (envOfC qual (defScope st) s.heap.objs.size f cdv)) → sp vs H Q E →
      ∃ t, PSs (cxOf CX0 P w K mg base N qual (defScope st) f cdv A outer s H E).nox (defBody st) t ∧ t { nx := fun _ H' => Q .non H', rt := Q } (L2.start N vs) H) : FnG P w K mg base (k + 1) f fd ps sp := by
  obtain ⟨oc, od, kV, doc, pm, an, cdv, ct, osl, rfl, lk, hcd⟩ := F.ex
  refine ⟨ln, fun A outer s H args us vs Q E hgu hr e0 hb r hsp => ?_⟩
  have inK : K.In s.heap := e0.mod.kin.keeps fun b o e => (e0.bs b o e).1
  have nl : s.heap.NoLimit := e0.mod.nolimit.keeps fun b o e => (e0.bs b o e).1
  obtain ⟨t, ht', hq⟩ := hbody cdv A outer s H vs Q E hgu (hr.deeper _) hsp
  have ht := ht'.nox
  have kinds : ∀ y ∈ ps.zip us, (defScope st).names.lookup y.1 = some .local ∨ ((defScope st).names.lookup y.1 = some .cell ∧ ((cellsFrom (s.heap.objs.size + 1) (defScope st).names []).lookup y.1).isSome = true) := fun ⟨n, v⟩ hy => (Sc.par n (List.of_mem_zip hy).1).imp id fun q => ⟨q, PySem.W.cellsFrom_some _ _ _ (.inl q)⟩
  refine codeAny_call_function hr.depth (inK _ _ lk) rfl Sc.co Sc.gen rfl (PySem.W.codeRec_of inK hcd) (hb _ _ _ _ (wpAny_newFunctionEnv_cells Sc.kind kinds fun env he s1 x => ?_))
  subst he
  refine ⟨nl.keeps x.toInCall.keep, codeAny_func ?_⟩
  have I : Inv (cxOf CX0 P w K mg base N qual (defScope st) f cdv A outer s H E) [] (L2.start N vs) H s1 := inv_start Sc hr.hd e0 (ln _ _ _ _ hsp) r x
  refine wpAny_mono (ht.run [] s1 (L2.start N vs) H _ I hq) (fun fl s' hs => ?_) fun e s' hs => hs
  cases fl with
  | ret u =>
    obtain ⟨v, σ', H', J, rv, q⟩ := hs
    exact ⟨v, H', J.os, J.bare, J.base, J.hok, rv, q⟩
  | next =>
    obtain ⟨σ', H', J, q⟩ := hs
    exact ⟨V.non, H', J.os, J.bare, J.base, J.hok, rfl, q⟩
  | brk => exact hs.elim fun _ z => z.elim fun _ z => z.2.elim
  | cont => exact hs.elim fun _ z => z.elim fun _ z => z.2.elim
end
section
variable {X : Cx} {k np n0 : Nat} {f : Addr} {fd : FuncData} {ps : List Str} {sp : Sp} {S : Pm} {E : XK} {x : Str} {p pos : Pos} {e : Expr} {es : List Expr} {t : TA} {tas : TDs}
theorem pe_callG (F : FnG X.prog X.w X.K X.mg X.base k f fd ps sp) (hgu : X.A.guards = some []) (hr : Room k X.A) (hg : Gl X x) (hm : X.mg x = some (.ref f)) (hk : PySem.W.keepIn X.K (.ref f) = true) (hb : Binds X.K fd ps []) (hx : Passes CX0 X E)
    (ha : PA X (e :: es) t) (hdb : (x == ("__debug__" : Str)) = false) (he : starEach (e :: es) X.env = (false, eval e X.env) :: starEach es X.env) (hpl : (backTo pos (starEach es X.env)).any (·.1) = false) :
    PE X (.Call (.Name x p) (e :: es) [] pos) (tCall sp [] E t) := ⟨fun pins s σ H Q I h => by
  refine wpAny_Call_Name_kw (ld_glob I hg hm (PySem.W.callWith_K (h₀ := X.base) I.ok.mod.kin hk (thn (ha.run pos pins s σ H _ I h) fun us s1 ⟨vs, H1, I1, r, q⟩ => ⟨I1.kIn, ?_⟩) he hpl) hdb)
  have q : sp vs H1 Q E := by simpa using q
  have hl : us.length = ps.length := by rw [← r.length]; exact F.ln _ _ _ _ q
  have bt : BindsTo s1 fd ⟨us, []⟩ (ps.zip us) := by simpa using hb s1 us I1.kIn (by simpa using hl)
  refine wpAny_call (codeAny_mono (F.rn X.A X.stack s1 H1 ⟨us, []⟩ us vs Q E hgu hr I1.env0 bt r q) fun z s' hq => ?_)
  cases z with
  | error e => exact hx pins σ H1 s1 e s' I1 hq
  | ok fl =>
    cases fl with
    | ret u => exact I1.after hq
    | next => exact False.elim hq
    | brk => exact False.elim hq
    | cont => exact False.elim hq⟩
theorem pd_callMG (F : FnG X.prog X.w X.K X.mg X.base k f fd ps (spD X.K 1 np S)) (hgu : X.A.guards = some []) (hr : Room k X.A) (hm : X.mg x = some (.ref f)) (hk : PySem.W.keepIn X.K (.ref f) = true) (hb : Binds X.K fd ps []) (hx : Passes CX0 X E)
    (ha : PDs X (e :: es) tas) (hg : Gl X x := by rfl) (hdb : (x == ("__debug__" : Str)) = false := by decide) (he : starEach (e :: es) X.env = (false, eval e X.env) :: starEach es X.env := by rfl) (hpl : (backTo pos (starEach es X.env)).any (·.1) = false := by rfl) :
    PD X (.Call (.Name x p) (e :: es) [] pos) (dCallM S np tas) := PE.imp (pe_callG F hgu hr hg hm hk hb hx ha hdb he hpl) fun σ H Q ⟨m, ρ, c, Φ, S', h, q⟩ =>
    ⟨m, ρ, c, _, S', h, fun ds c1 vs H1 m1 ⟨hl, hc⟩ C1 R1 L1 => by show spD _ _ _ _ (_ ++ []) _ _ _; rw [List.append_nil]; exact sp_one C1 R1 hl hc (KQ.le (K := X.K) q L1)⟩
end
section
variable {P : Program} {w : World} {K : PySem.W.Frag} {mg : Str → Option Value} {base : Heap}
theorem fnGD {x qual : Str} {st : Stmt} {f : Addr} {fd : FuncData} {N ps : List Str} {k n0 : Nat} {S : Pm} (F : Fun K x qual st f fd) (Sc : FnScope N ps (defScope st))
    (hbody : ∀ (cdv : Value) (A : Around) (outer : List PySem.Env) (s : Shared) (H : Hp) (E : XK), A.guards = some [] → Room k (A.deeper (envOfC qual (defScope st) s.heap.objs.size f cdv)) →
      ∃ ts, PSDs (cxOf CX0 P w K mg base N qual (defScope st) f cdv A outer s H E).nox (defBody st) ts ∧
        ∀ c ds Φ, c.length = n0 → ds.length = ps.length → S c ds Φ → ts ⟨fun _ c' => retD n0 Φ .non c', retD n0 Φ, fun _ _ => False, fun _ _ => False⟩ (startD N ds) c) :
    FnG P w K mg base (k + 1) f fd ps (spD K n0 ps.length S) := by
  refine fnG F Sc (fun vs H Q E ⟨m, c, ds, Φ, h1, h2, C, r, _⟩ => by rw [← RL.length r]; exact h2) (fun cdv A outer s H vs Q E hgu hr ⟨m, c, ds, Φ, h1, h2, C, r, hS, q⟩ => ?_)
  obtain ⟨ts, hp, ht⟩ := hbody cdv A outer s H E hgu hr
  have hn : m.ix.length = n0 := by rw [C.len]; exact h1
  exact ⟨_, hp, m, startD N ds, c, _, start_slots C r, ht c ds Φ h1 h2 hS, fun σ' H' m' ρ' c' h' S' l => ret_ok hn q h' S'.cr rfl l, fun d c' v H' m' h' C' r' l => ret_ok hn q h' C' r' l, fun _ _ _ _ _ z => z.elim, fun _ _ _ _ _ z => z.elim⟩
end
/-! ### the making by name -/
theorem PK.imp {X : Cx} {kws : List Keyword} {t t' : TA} (h : PK X kws t) (i : ∀ σ H Q, t' σ H Q → t σ H Q) : PK X kws t' := ⟨fun pos pins s σ H Q I w => h.run pos pins s σ H Q I (i σ H Q w)⟩
section
variable {X : Cx} {CX : CXT} {k np : Nat} {f C : Addr} {fd : FuncData} {ps ks : List Str} {S : Pm} {E : XK} {x : Str} {p pos kpos : Pos} {e : Expr} {kws : List Keyword} {ta : TD} {tas tks : TDs} {nm : Option Str}
theorem pdk_nil : PK X [] (liftA X.K dNil) := PK.imp pk_nil fun σ H Q ⟨m, ρ, c, Φ, S, h, q⟩ => q [] c [] H m h S.cr rfl (Le.refl _ _)
theorem pdk_cons (h1 : PD X e ta) (h2 : PK X kws (liftA X.K tas)) : PK X (⟨nm, e, kpos⟩ :: kws) (liftA X.K (dCons ta tas)) := PK.imp (pk_cons h1 h2) fun σ H Q ⟨m, ρ, c, Φ, S, h, q⟩ =>
  ⟨m, ρ, c, _, S, h, fun d c1 v H1 m1 hx C1 R1 L1 => ⟨m1, ρ, c1, _, S.step L1 C1, hx, fun ds c2 vs H2 m2 hy C2 R2 L2 => q (d :: ds) c2 (v :: vs) H2 m2 hy C2 ⟨v, vs, rfl, L2.r R1, R2⟩ (L1.trans L2)⟩⟩
def dMakeK (C : Addr) (S : Pm) (np n : Nat) (t : TDs) : TD := fun ρ c Φ => t ρ c fun ds c1 => ds.length = n ∧ ds.length + 1 = np ∧ callI C S ds c1 Φ
theorem pd_makeK (M : Mk X.K C f) (F : FnOk X.prog X.w X.K X.mg X.base CX k f fd ps (spD X.K 1 np S)) (hr : Room (k + 1) X.A) (hm : X.mg x = some (.ref C)) (hb : KBn X.K fd ps 1 ks (fun us ws => us ++ ws) (fun us ws => us ++ ws)) (hx : Passes CX X E) (hkw : PK X kws (liftA X.K tks)) (hg : Gl X x := by rfl)
    (hall : (backToKw pos (keywordEach kws X.env)).all (·.1.isSome) = true := by rfl) (hks : (backToKw pos (keywordEach kws X.env)).filterMap (·.1) = ks := by rfl) (hdb : (x == ("__debug__" : Str)) = false := by decide)
    (hpl : ((backTo pos (starEach [] X.env)).any (·.1) || (backToKw pos (keywordEach kws X.env)).any (·.1.isNone)) = false := by rfl) :
    PD X (.Call (.Name x p) [] kws pos) (dMakeK C S np ks.length tks) := PE.imp (pe_makeK0 M F hr hg hm hb hx hkw hall hks hdb hpl) fun σ H Q ⟨m, ρ, c, Φ, S', h, q⟩ => by
  show liftA X.K tks σ H _
  exact ⟨m, ρ, c, _, S', h, fun ds c1 vs H1 m1 ⟨hn, hl, hc⟩ C1 R1 L1 => ⟨rfl, by rw [← RL.length R1]; exact hn, fun a dx h1 h2 h3 => sp_make C1 R1 hl hc (KQ.le (K := X.K) q L1) h1 h2 h3⟩⟩
end
/-! ### three names at once -/
def dPar3 (i j l : Nat) (ta tb tc : TD) : TSD := fun D ρ c => ta ρ c fun x c1 => tb ρ c1 fun y c2 => tc ρ c2 fun z c3 => D.nx (((ρ.set i (some x)).set j (some y)).set l (some z)) c3
def only3 (P : D → D → D → List Cell → Prop) : List D → List Cell → Prop
  | [x, y, z], c => P x y z c
  | _, _ => False
theorem psd_par3 {X : Cx} {i j l : Nat} {x y z : Str} {a b c : Expr} {ta tb tc : TD} {px py pz pt pos : Pos} {kt k2 pt2} (hc : X.calm = true) (hN : X.N.Nodup) (ha : PD X a ta) (hb : PD X b tb) (hcc : PD X c tc) (hi : X.N[i]? = some x := by rfl) (hj : X.N[j]? = some y := by rfl) (hl : X.N[l]? = some z := by rfl)
    (hij : i ≠ j := by decide) (hil : i ≠ l := by decide) (hjl : j ≠ l := by decide) (hx : X.env.scope.names.lookup x = some .local := by rfl) (hy : X.env.scope.names.lookup y = some .local := by rfl) (hz : X.env.scope.names.lookup z = some .local := by rfl)
    (hs3 : starEach (a :: [b, c]) X.env = (false, eval a X.env) :: starEach [b, c] X.env := by rfl) (hs2 : starEach (b :: [c]) X.env = (false, eval b X.env) :: starEach [c] X.env := by rfl) (hs1 : starEach (c :: []) X.env = (false, eval c X.env) :: starEach [] X.env := by rfl)
    (hw : swappedStores [.Tuple [.Name x px, .Name y py, .Name z pz] kt pt] (.Tuple [a, b, c] k2 pt2) X.env = pure (some [x, y, z]) := by rfl)
    (hs : swapsWithSole [.Tuple [.Name x px, .Name y py, .Name z pz] kt pt] (.Tuple [a, b, c] k2 pt2) pos.line X.env = pure false := by rfl) :
    PSD X (.Assign [.Tuple [.Name x px, .Name y py, .Name z pz] kt pt] (.Tuple [a, b, c] k2 pt2) pos) (dPar3 i j l ta tb tc) :=
  PS.imp (ps_par3 hc hN hi hj hl hij hil hjl hx hy hz (pds_cons ha (pds_cons hb (pds_cons hcc pds_nil hs1) hs2) hs3) hw hs) fun Dn σ H ⟨m, ρ, c, De, S, h, n, r, b, k⟩ =>
  ⟨m, ρ, c, only3 fun x y z c3 => De.nx (((ρ.set i (some x)).set j (some y)).set l (some z)) c3, S, h, fun ds c' vs H' m' hd C R L => by
    match ds, hd with
    | [x, y, z], hd =>
      obtain ⟨u, r1, rfl, ru, v, r2, rfl, rv, w, r3, rfl, rw', e⟩ := R
      cases (show r3 = [] from e)
      exact ⟨u, v, w, rfl, n _ H' m' _ c' hd ((((S.step L C).set ru).set rv).set rw') L⟩⟩
end Cw

namespace Cw
open PySem PySem.Spec PyProof.Rows L2

/-! ### the law's own entry, for FnG -/
abbrev OutG (s₁ : Shared) : Result → Shared → Prop := fun r s' => r = .ok (.ret (.bool true)) ∧ OldK s₁.heap s'.heap ∧ s'.os = s₁.os ∧ AllBare s'.gens
section
variable {P : Program} {w : World} {K : PySem.W.Frag} {mg mb : Str → Option Value} {k : Nat} {fa a : Addr} {fd : FuncData} {x : Str} {sp : Sp} {s₁ : Shared} {vs : List Value} {ns : List Int}
/-- from a heap in which at most the script is tracked -/
theorem entryG {H : Hp} (KX : K.In s₁.heap) (hns : s₁.heap.Ns mainGlobals mg) (hb : s₁.heap.Ns builtinsNs mb) (hbb : ∀ x : Str, x ≠ "__name__" → mb x = bootBuiltins x) (hlim : s₁.heap.NoLimit) (hg : s₁.gens = #[])
    (ha : s₁.heap.get? a = some { cls := .type "list", data := .seq vs.toArray }) (hr : Room k callerA) (F : ∀ base : Heap, K.In base → base.Ns mainGlobals mg → FnG P w K mg base k fa fd [x] sp) (hbind : ∀ (s : Shared) (u : Value), BindsTo s fd ⟨[u], []⟩ [(x, u)])
    (hO : Only H) (hS : sp [.ref a] H (fun v _ => v = .bl true) fun _ _ _ => False) (hok : HOk P w H s₁.heap) (hA : ∀ b, H b ≠ none → b = a) (hK : H a ≠ none → K.lookup a = none) :
    codeAny (model P w) callerA (.call (.ref fa) ⟨[.ref a], []⟩) (OutG s₁) s₁ := by
  have only : ∀ {b : Addr} {u : HO}, H b = some u → b = a := fun {b u} q => hA b (by rw [q]; exact fun z => nomatch z)
  have nsK : ∀ {b : Addr} {m : Str → Option Value}, s₁.heap.Ns b m → (hidT s₁.heap H).Ns b m := fun {b m} ⟨o, es, ep, e, d, r⟩ => by
    refine ⟨o, es, ep, hidT_get e ?_, d, r⟩
    cases q : H b with
    | none => rfl
    | some u =>
      have eb := only q
      subst eb
      rw [ha] at e
      cases e
      exact nomatch (show Data.seq vs.toArray _ = Data.dict es ep from d)
  have hKb : K.In (hidT s₁.heap H) := fun b o e => by
    refine hidT_get (KX b o e) ?_
    cases q : H b with
    | none => rfl
    | some u =>
      have eb := only q
      subst eb
      have := hK (by rw [q]; exact fun z => nomatch z)
      rw [this] at e; cases e
  obtain ⟨mc, l1, l2⟩ := hlim
  have e0 : Env0 P w K mg (hidT s₁.heap H) callerA [] s₁ H :=
    ⟨rfl, ⟨hKb, nsK hns, ⟨mb, nsK hb, hbb⟩, ⟨mc, nsK l1, l2⟩⟩, fun b o e => of_hidT e, Nat.le_of_eq (hidT_size _ _), trivial, fun b z => (List.not_mem_nil z).elim, hok, .of_eq hg⟩
  have run := (F _ hKb (nsK hns)).rn callerA [] s₁ H ⟨[.ref a], []⟩ [.ref a] [.ref a] _ _ rfl hr e0 (hbind s₁ (.ref a)) (.cons rfl .nil) hS
  refine codeAny_mono run fun r s' h => ?_
  cases r with
  | error e => exact False.elim h
  | ok fl =>
    cases fl with
    | ret u =>
      obtain ⟨v, H', os, bare, un, hok', rv, hv⟩ := h
      cases (show v = .bl true from hv)
      cases (show u = Value.bool true from rv)
      refine ⟨rfl, OldK.of_keep fun b o e => ?_, os, bare⟩
      cases q : H b with
      | none => exact un.keep b o e q (fun z => (List.not_mem_nil z).elim) (fun z => (List.not_mem_nil z).elim)
      | some u =>
        rcases hO b with z | ⟨ob, xs, z⟩
        · rw [q] at z; cases z
        · have old := (hok b _ z).1
          rw [e] at old
          cases old
          exact (hok' b _ (un.frzs b _ _ z)).1
    | next => exact False.elim h
    | brk => exact False.elim h
    | cont => exact False.elim h
theorem lawG (KX : K.In s₁.heap) (hns : s₁.heap.Ns mainGlobals mg) (hb : s₁.heap.Ns builtinsNs mb) (hbb : ∀ x : Str, x ≠ "__name__" → mb x = bootBuiltins x) (hlim : s₁.heap.NoLimit) (hg : s₁.gens = #[])
    (ha : s₁.heap.get? a = some { cls := .type "list", data := .seq vs.toArray }) (hi : IntsAre vs ns) (hl : ns.length ≤ sizeLine) (hr : Room k callerA) (F : ∀ base : Heap, K.In base → base.Ns mainGlobals mg → FnG P w K mg base k fa fd [x] sp) (hbind : ∀ (s : Shared) (u : Value), BindsTo s fd ⟨[u], []⟩ [(x, u)])
    (hsp : ∀ H : Hp, Only H → HOk P w H s₁.heap → SqL K H a (ns.map V.int) → sp [.ref a] H (fun v _ => v = .bl true) fun _ _ _ => False) : codeAny (model P w) callerA (.call (.ref fa) ⟨[.ref a], []⟩) (OutG s₁) s₁ := by
  have rv := vals_ints hi
  have hl' : (ns.map V.int).length ≤ sizeLine := by rw [List.length_map]; exact hl
  cases hk : K.lookup a with
  | some o =>
    have eo := (KX a o hk).symm.trans ha
    cases eo
    have ok0 : HOk P w (fun _ => none) s₁.heap := fun b u z => nomatch (show (none : Option HO) = some u from z)
    exact entryG KX hns hb hbb hlim hg ha hr F hbind (fun _ => .inl rfl) (hsp _ (fun _ => .inl rfl) ok0 (.inr ⟨_, vs.toArray, _, hk, rfl, rfl, rfl, by rw [List.size_toArray, hi.length]; exact hl, by simpa using rv⟩)) ok0 (fun b z => absurd rfl z) fun z => absurd rfl z
  | none =>
    let T : HO := .frz { cls := .type "list", data := .seq vs.toArray } (.lst (ns.map V.int))
    have at_ : ∀ b, (upd (fun _ => none) a T) b ≠ none → b = a := fun b z => Decidable.byContradiction fun hb => z (upd_ne hb)
    have hO : Only (upd (fun _ => none) a T) := fun b => by
      by_cases e : b = a
      · subst e; exact .inr ⟨_, _, upd_same⟩
      · exact .inl (upd_ne e)
    have ok1 : HOk P w (upd (fun _ => none) a T) s₁.heap := fun b u z => by
      have e := at_ b (by rw [z]; exact fun z => nomatch z)
      subst e
      rw [upd_same] at z
      cases z
      exact ⟨ha, hl', vs, _, rv, ha⟩
    exact entryG KX hns hb hbb hlim hg ha hr F hbind hO (hsp _ hO ok1 (.inl (.inr ⟨_, upd_same⟩))) ok1 at_ fun _ => hk
end
theorem walkG {l : PySem.W.OpenLaw} {n k : Nat} {q : Program} {loose : List Str} {XP : (Str → Option Value) → Heap → Prop} {YP : World → Heap → Prop} {d : DefRec} {K : Params → PySem.W.Frag} {sp : World → Sp} {x : Str}
    (hn : l.most = some n) (hn2 : n ≤ sizeLine) (hdf : d.params.defaults = []) (hr : Room k callerA) (hY : ∀ (w : World) (h : Heap), YP w h → (K w.params).In h)
    (F : ∀ (w : World) (mg : Str → Option Value) (fa : Addr) (h : Heap), (K w.params).In h → h.Ns mainGlobals mg → mg d.name = some (.ref fa) →
      ∃ fd : FuncData, (∀ (s : Shared) (u : Value), BindsTo s fd ⟨[u], []⟩ [(x, u)]) ∧ ∀ base : Heap, (K w.params).In base → base.Ns mainGlobals mg → FnG l.prog w (K w.params) mg base k fa fd [x] (sp w))
    (hsp : ∀ (w : World) (h : Heap) (H : Hp) (a : Addr) (ns : List Int), ns.length ≤ n → Only H → HOk l.prog w H h → SqL (K w.params) H a (ns.map V.int) → sp w [.ref a] H (fun v _ => v = .bl true) fun _ _ _ => False) :
    PySem.W.WalkO q loose XP YP l.row.toRowW d [] (fun f vs => PySem.call f vs) := by
  refine Att.attach_call hn hdf fun w s₀ s₁ mg mb fa o pm cd doc a vs ns G Y ho hd hcd hmg hobj hints hlen hg => ?_
  have KX := hY w _ Y
  obtain ⟨fd, hb, hF⟩ := F w mg fa _ KX G.T.g hmg
  exact lawG KX G.T.g G.T.b G.T.builtins G.T.nolimit hg hobj hints (Nat.le_trans hlen hn2) hr hF hb fun H hO hk hS => hsp w _ H a ns hlen hO hk hS
end Cw

namespace Cw
open PySem PySem.Spec PyProof.Rows L2

/-! ### sorted({e for x in t}), e texts -/
def dSortSet (ti : TDs) (i : Nat) (te : TD) : TD := fun ρ c Φ => ti ρ c fun ds c1 => ∃ ys : List Str, ys.length = ds.length ∧ ds.length < 64 ∧
  (∀ (j : Nat) d y, ds[j]? = some d → ys[j]? = some y → ∀ Ψ : D → List Cell → Prop, Ψ (.str y) c1 → te (ρ.set i (some d)) c1 Ψ) ∧ ∀ zs : List Str, zs.Nodup → sortedS zs = true → (∀ x, x ∈ zs ↔ x ∈ ys) → Φ (.lst (zs.map .str)) c1
end Cw

namespace Cw
open PySem PySem.Spec PyProof.Rows L2 PySem.Froz

/-! ### a set of texts that can be walked -/
theorem tailTx_ris {ep : Nat} {es : Array (Int × Value)} {t : SetTable} {b : Bool} (r : Ris t.place.toList) : Ris (tailTx ep es t b).2.2.place.toList := by
  unfold tailTx
  split
  · exact relayAll_ris _ _ _
  · exact r
theorem tailTx_led {ep : Nat} {es : Array (Int × Value)} {t : SetTable} {b : Bool} : (tailTx ep es t b).2.2.led = t.led := by
  unfold tailTx
  split
  · exact relayAll_led _ _ _
  · rfl
theorem addTx_ris {h : Int} {v : Value} {D : SD} (r : Ris D.2.2.place.toList) : Ris (addTx h v D).2.2.place.toList := by
  unfold addTx
  refine tailTx_ris ?_
  have := layNew_ris D.2.2 D.1 h v r
  split <;> exact this
theorem addTx_led {h : Int} {v : Value} {D : SD} : (addTx h v D).2.2.led = D.2.2.led := by
  unfold addTx
  rw [tailTx_led]
  have := layNew_led D.2.2 D.1 h v
  split <;> exact this
/-- at a stands a set with just the texts l, no two alike, that can be walked -/
structure TxA (P : Program) (w : World) (h : Heap) (a : Addr) (l : List Str) : Prop where
  ex : ∃ D : SD, h.get? a = some (sObj "set" D) ∧ TxOk P w D l ∧ Ris D.2.2.place.toList ∧ (w.params.followText "set-order" = true ∨ D.2.2.led = true)
  nd : l.Nodup
section
variable {P : Program} {w : World} {A : Around} {E : Value → Shared → Prop} {s : Shared} {a : Addr} {l : List Str} {k : Str} {tk : Tok}
theorem TxA.put (R : TxA P w s.heap a l) (hb : l.length + 1 < scanBound) {Q : Bool → Shared → Prop}
    (h1 : k ∉ l → ∀ h', Heap.SameBut a s.heap h' → TxA P w h' a (k :: l) → Q true { s with heap := h' }) (h2 : k ∈ l → Q false s) :
    wpAny (model P w) A (setAddHashed a (.str k tk) (hashStr w k)) Q E s := by
  obtain ⟨⟨D, ho, F, r, le⟩, nd⟩ := R
  by_cases hk : k ∈ l
  · obtain ⟨es, ep, t⟩ := D
    have hd : (sObj "set" (es, ep, t)).data = .set es ep t := rfl
    have few : es.size < scanBound := by
      have := F.sz
      have this : es.size = l.length := this
      omega
    unfold setAddHashed setAddHashedIn
    refine wpAny_holding (wpAny_bind (wpAny_setState_of ho hd F.fit ?_))
    dsimp only
    rw [byScan_of rfl few F.el]
    simp only [↓reduceIte]
    unfold setAddByScan
    refine wpAny_bind (wpAny_bind (wpAny_rule (wpAny_bind (wpAny_setScan_of (knd := PySem.strKind P w) (k := k) (is_str k tk) ho hd F.fit F.el ?_))))
    cases e : List.findIdx? (fun e => (PySem.strKind P w).is k e.2) es.toList with
    | some j => exact wpAny_pure (wpAny_pure (h2 hk))
    | none =>
      obtain ⟨x, hx, hi⟩ := (F.mem k).mp hk
      have := List.findIdx?_eq_none_iff.mp e x hx
      rw [hi] at this; cases this
  · refine add_x ho F hk hb (h1 hk _ (Heap.SameBut.update s.heap a _) ⟨⟨addTx (hashStr w k) (.str k tk) D, ?_, add_ok tk F, addTx_ris r, by rw [addTx_led]; exact le⟩, List.nodup_cons.mpr ⟨hk, nd⟩⟩)
    exact Heap.get?_update_self _ ho rfl
open Builtin in
theorem TxA.add (R : TxA P w s.heap a l) (hb : l.length + 1 < scanBound) {Q : Value → Shared → Prop}
    (h1 : k ∉ l → ∀ h', Heap.SameBut a s.heap h' → TxA P w h' a (k :: l) → Q .none { s with heap := h', toks := s.toks + 1 }) (h2 : k ∈ l → Q .none { s with toks := s.toks + 1 }) :
    wpAny (model P w) A (call (.builtin "set.add") [.ref a, .str k tk]) Q E s := by
  obtain ⟨D, ho, _⟩ := R.ex
  refine wpAny_call_entry PySem.F.slot_set_add ⟨_, ho, rfl⟩ PySem.F.entry_set_add ?_ (PySem.F.args_set_add_2 _ _)
  unfold Builtin.«set.add» Builtin.Frozenset.oneOther
  simp only [List.isEmpty_nil, bind_assoc]
  unfold Builtin.Frozenset.addrOf setAdd
  refine wpAny_bind (wpAny_pure ?_)
  try dsimp only
  refine wpAny_bind (wpAny_pure ?_)
  try dsimp only
  refine wpAny_bind (wpAny_holding (wpAny_bind ((PySem.strKind P w).pyHash (is_str k tk) ?_)))
  refine TxA.put (s := { s with toks := s.toks + 1 }) R hb (fun hk h' sb r => ?_) fun hk => ?_
  · exact wpAny_pure ⟨_, rfl, h1 hk h' sb r⟩
  · exact wpAny_pure ⟨_, rfl, h2 hk⟩
end
/-- tracked -/
def TxO (P : Program) (w : World) (a : Addr) (l : List Str) : HO := .ext fun h => TxA P w h a l
theorem TxA.keep {P : Program} {w : World} {h h' : Heap} {a : Addr} {l : List Str} (R : TxA P w h a l) (k : ∀ o, h.get? a = some o → h'.get? a = some o) : TxA P w h' a l := by
  obtain ⟨⟨D, ho, r⟩, nd⟩ := R
  exact ⟨⟨D, k _ ho, r⟩, nd⟩
theorem TxA.fresh {P : Program} {w : World} {h : Heap} : TxA P w (h.push { cls := .type "set", dict := none, data := .set #[] 0 (.fresh 0 0 (!w.params.followText "set-order")) }) h.objs.size [] :=
  ⟨⟨(#[], 0, .fresh 0 0 (!w.params.followText "set-order")), Heap.get?_push_size _ rfl, TxOk.nil (by rfl), List.Pairwise.nil, by
    show _ ∨ (!w.params.followText "set-order") = true
    cases w.params.followText "set-order"
    · exact .inr rfl
    · exact .inl rfl⟩, List.nodup_nil⟩
theorem txO_new {P : Program} {w : World} {H : Hp} {h : Heap} {a : Addr} {l : List Str} (R : TxA P w h a l) : ObjOk P w H h a (TxO P w a l) := by
  obtain ⟨D, ho, _⟩ := R.ex
  exact ⟨R, ⟨_, ho⟩, fun _ _ p k => p.keep k⟩
theorem txO_get {X : Cx} {pins : List (Addr × Obj)} {σ : L2.St} {H : Hp} {s : Shared} {a : Addr} {l : List Str} (I : Inv X pins σ H s) (ha : H a = some (TxO X.prog X.w a l)) : TxA X.prog X.w s.heap a l := (I.hok a _ ha).1
theorem addT_ok {X : Cx} {pins : List (Addr × Obj)} {σ : L2.St} {H : Hp} {s : Shared} {E : Value → Shared → Prop} {D : Addr} {l : List Str} {k : Str} {tk : Tok} {Q : Value → Shared → Prop} (I : Inv X pins σ H s) (hD : H D = some (TxO X.prog X.w D l)) (room : l.length + 1 < scanBound)
    (h : ∀ s', Inv X pins σ (upd H D (TxO X.prog X.w D (if k ∈ l then l else k :: l))) s' → Q .none s') : wpAny (model X.prog X.w) X.A (call (.builtin "set.add") [.ref D, .str k tk]) Q E s := by
  have R := txO_get I hD
  refine R.add room (fun hk h' sb new => ?_) fun hk => ?_
  · rw [if_neg hk] at h
    obtain ⟨D', ho, _⟩ := new.ex
    exact h _ (I.write (e := D) (t' := s.toks + 1) (by rw [hD]; trivial) (.inl rfl) (fun b u hb hu => (sb.2 b hb).trans hu) ⟨_, ho⟩ (txO_new new))
  · rw [if_pos hk] at h
    have e : upd H D (TxO X.prog X.w D l) = H := by
      funext b
      by_cases hb : b = D
      · subst hb; rw [upd_same, hD]
      · rw [upd_ne hb]
    rw [e] at h
    exact h _ (I.tok _)
end Cw

namespace Cw
open PySem PySem.Spec PyProof.Rows L2 PySem.Froz

/-! ### {e for x in t}, e texts: the walk -/
def mem1 (k : Str) (l : List Str) : List Str := if k ∈ l then l else k :: l
def tTx (P : Program) (w : World) (wi : TI) (g : TG) (te : TE) (vs : List Nat) : TE := fun σ H Q => wi σ H fun J Ha => ∀ p, Ha p = none → ∃ Z : Nat → Nat → Hp → Prop, (∃ m, Z 0 m (upd Ha p (TxO P w p []))) ∧
  ∀ i m H, Z i m H → (J.stop i H ∧ Q (.ref p) H) ∨ (J.go i H ∧ ∃ Nx : Hp → Prop, (∀ H', Nx H' → ∃ m', m' < m ∧ Z (i + 1) m' H') ∧ ∀ x H', J.yld i H x H' → g x (wipe σ vs) H' fun σ2 H2 => wipe σ2 vs = wipe σ vs ∧
    te σ2 H2 fun y Hb => ∃ (k : Str) (l : List Str), y = .str k ∧ Hb p = some (TxO P w p l) ∧ l.length + 1 < scanBound ∧ Nx (upd Hb p (TxO P w p (mem1 k l))))
section
variable {X : Cx} {elt tg it : Expr} {scope : Scope} {own : List (Str × Nat)} {pos : Pos} {wi : TI} {g : TG} {te : TE}
theorem tx_walk (hc : X.calm = true) (hN : X.N.Nodup) (hi : PI X tg it wi) (ok : BlkOk X.N X.env.scope scope own)
    (hg : ∀ (s : Shared) (H : Hp) (C : Addr) (cl : List (Str × Addr)) (fp : List Addr), PG (X.blk s H scope (compEnvC scope cl C X.env) fp) tg g)
    (he : ∀ (s : Shared) (H : Hp) (C : Addr) (cl : List (Str × Addr)) (fp : List Addr), PE (X.blk s H scope (compEnvC scope cl C X.env) fp) elt te) (hs : ∀ x, foldedSetIterable it X.env x = pure x) :
    PE X (.SetComp elt [⟨tg, it, [], 0⟩] scope pos) (tTx X.prog X.w wi g te (own.map (·.2))) := by
  refine ⟨fun pins s σ H Q I h => ?_⟩
  rw [PpSet.eval_SetComp]
  have caps : ∀ n ∈ scope.names, n.2 = .free → ∃ c, X.env.cells.lookup n.1 = some c := fun n hn e => (ok.free n hn e).elim (fun z => I.ok.has _ (.inl z)) fun z => I.ok.has _ (.inr z)
  refine wpAny_comprehension_free (use := none) rfl hs (closure_ok caps) ok.kind (fun n hn e => by rw [ok.uniq n hn, e]) (thn (hi.run pins s σ H _ I h) fun v0 s1 a1 => thn a1 fun v1 s2 a2 => ?_)
  obtain ⟨b, fp, tn, J, Ha, ev, I2, T, st2, f2, q⟩ := a2
  subst ev
  refine PpSet.newSet_ok (newEnv_comp ?_)
  generalize hp : s2.heap.objs.size = p
  have pn : Ha p = none := I2.hok.fresh (Nat.le_of_eq hp)
  obtain ⟨Z, ⟨m0, z0⟩, turn⟩ := q p pn
  generalize hs3 : ({ s2 with heap := s2.heap.push { cls := .type "set", dict := none, data := .set #[] 0 (.fresh 0 0 (!X.w.params.followText "set-order")) } } : Shared) = s3
  have eh : s3.heap = s2.heap.push { cls := .type "set", dict := none, data := .set #[] 0 (.fresh 0 0 (!X.w.params.followText "set-order")) } := by subst hs3; rfl
  have I3 : Inv X pins σ (upd Ha p (TxO X.prog X.w p [])) s3 := by
    subst hs3
    refine I2.laid (t' := s2.toks) (fun _ _ e => Heap.get?_push_of_some _ e) (Nat.le_of_eq hp) ?_
    subst hp
    exact txO_new TxA.fresh
  have f3 : ∀ c ∈ fp, FpOk X pins (upd Ha p (TxO X.prog X.w p [])) c ∧ c < s3.heap.objs.size := fun c hm => by
    obtain ⟨o, eo, _⟩ := T.obj _ _ st2 c hm
    have lt := Heap.lt_size eo
    have ne : c ≠ p := by rw [← hp]; exact Nat.ne_of_lt lt
    exact ⟨⟨(upd_ne ne).trans (f2 c hm).1, (f2 c hm).2⟩, by rw [eh, Heap.size_push]; exact Nat.lt_succ_of_lt lt⟩
  have st3 : tn 0 s3.heap := T.keep _ _ _ st2 fun c _ o e => by rw [eh]; exact Heap.get?_push_of_some _ e
  generalize hHb : upd Ha p (TxO X.prog X.w p []) = Hb at I3 f3 z0
  have I4 := block_start I3 ok hN f3
  have pg := hg s3 Hb s3.heap.objs.size (cellsFrom (s3.heap.objs.size + 1) scope.names (cloFrom X.env.cells scope.names [])) fp
  have pe := he s3 Hb s3.heap.objs.size (cellsFrom (s3.heap.objs.size + 1) scope.names (cloFrom X.env.cells scope.names [])) fp
  show codeAny _ _ (.compStart (.SetComp elt [⟨tg, it, [], 0⟩] scope pos) 0 (.ref b) (.ref p) (compEnvC scope (cellsFrom (s3.heap.objs.size + 1) scope.names (cloFrom X.env.cells scope.names [])) s3.heap.objs.size X.env)) (compPost (model X.prog X.w) X.A X.xe none _ (.ref p) s3.heap.objs.size) { s3 with heap := pushCells (s3.heap.push { cls := .type "dict", data := .dict #[] }) scope.names }
  generalize hce : compEnvC scope (cellsFrom (s3.heap.objs.size + 1) scope.names (cloFrom X.env.cells scope.names [])) s3.heap.objs.size X.env = ce at I4 pg pe ⊢
  have el : ce.locals = s3.heap.objs.size := by subst hce; rfl
  generalize hs4 : ({ s3 with heap := pushCells (s3.heap.push { cls := .type "dict", data := .dict #[] }) scope.names } : Shared) = s4 at I4 ⊢
  have st4 : tn 0 s4.heap := T.keep _ _ _ st3 fun c _ o e => by subst hs4; exact pushCells_keeps _ _ _ _ (Heap.get?_push_of_some _ e)
  -- what is walked stands still
  have fpk : ∀ {τ : L2.St} {Hz : Hp} {sz : Shared}, Inv (X.blk s3 Hb scope ce fp) [] τ Hz sz → (∀ c ∈ fp, Hz c = none) → ∀ c ∈ fp, FpOk (X.blk s3 Hb scope ce fp) [] Hz c := fun Iz nz c hm => by
    refine ⟨nz c hm, (Iz.ok.exf c hm).1, Iz.ok.exfs c hm, .inl hm, fun n d e => (Iz.ok.exf c hm).2 n d e, fun pr hpr => ?_⟩
    rw [List.append_nil] at hpr
    cases hpr
  have loop : codeAny (model X.prog X.w) X.A (.compLoop (.SetComp elt [⟨tg, it, [], 0⟩] scope pos) 0 (.ref b) (.ref p) ce) (compPost (model X.prog X.w) X.A X.xe none (EP X pins σ Q) (.ref p) s3.heap.objs.size) s4 := by
    refine PpSet.compLoopS_any (fun n sz => ∃ i Hz, Inv (X.blk s3 Hb scope ce fp) [] (wipe σ (own.map (·.2))) Hz sz ∧ tn i sz.heap ∧ (∀ c ∈ fp, Hz c = none) ∧ Z i n Hz) ?_ m0 ⟨0, Hb, I4, st4, fun c hm => (f3 c hm).1.1, z0⟩
    rintro n s5 ⟨i, Hc, I5, st5, n5, z5⟩
    rcases turn i n Hc z5 with ⟨stop, fin⟩ | ⟨go, Nx, next, step⟩
    · refine thnF (T.done (X.blk s3 Hb scope ce fp) rfl rfl rfl hc i [] s5 _ Hc (fun _ _ => False) I5 (fpk I5 n5) st5 stop) fun r s6 ⟨er, I6⟩ => ?_
      subst er
      have I7 : Inv X pins σ Hc s6 := I3.call' (ch := fp) I6.os I6.base I6.hok I6.bare fun c hm => ⟨(f3 c hm).1.2.2.2.1, (f3 c hm).1.2.1, (f3 c hm).1.2.2.2.2.1, (f3 c hm).1.2.2.2.2.2⟩
      have nl : Hc s3.heap.objs.size = none := by rw [← el]; exact I6.free
      obtain ⟨m, hm, _⟩ := I6.loc
      have hm : s6.heap.Ns ce.locals m := hm
      rw [el] at hm
      obtain ⟨g0, g1, g2, g3, g4, g5⟩ := I3.fpOk (Nat.le_refl _) nl
      exact ⟨m, hm, fun h'' sb => ⟨.ref p, Hc, I7.turned (t' := s6.toks) (fun c o hb e => (sb.2 c hb).trans e) g0 g1 g3 g4 g5, rfl, fin⟩⟩
    · refine thnF (T.item (X.blk s3 Hb scope ce fp) rfl rfl rfl hc i [] s5 _ Hc (fun _ _ => False) I5 (fpk I5 n5) st5 go) fun r s6 ⟨u, er, a6⟩ => ?_
      subst er
      refine thnF a6 fun _ s7 ⟨x, Hd, I7, r7, y7, st7, n7⟩ => ?_
      refine thnF (pg.run _ s7 _ Hd x u _ (I7.pinned (fpk I7 n7) (T.obj _ _ st7)) r7 (step x Hd y7)) fun _ s8 ⟨τ, He, I8, ew, q8⟩ => ?_
      have still : ∀ {sz : Shared} {Hz : Hp}, Inv (X.blk s3 Hb scope ce fp) ([] ++ pinsAt fp s7.heap) τ Hz sz → Nx Hz → ∃ m, m < n ∧ ∃ i Hz, Inv (X.blk s3 Hb scope ce fp) [] (wipe σ (own.map (·.2))) Hz sz ∧ tn i sz.heap ∧ (∀ c ∈ fp, Hz c = none) ∧ Z i m Hz := fun {sz Hz} Iz nx => by
        obtain ⟨m', lt, z'⟩ := next Hz nx
        have pin : ∀ c ∈ fp, ∀ o, s7.heap.get? c = some o → sz.heap.get? c = some o ∧ Hz c = none := fun c hm o e => by
          have t := Iz.pin (c, o) (List.mem_append_right _ (List.mem_append_right _ (mem_pinsAt hm e)))
          exact ⟨t.1, t.2.1⟩
        refine ⟨m', lt, i + 1, Hz, (Iz.unpinned (pins := [])).weak (by rw [← ew, wipe_length]) (fun j v e => ?_), T.keep _ _ _ st7 fun c hm o e => (pin c hm o e).1, fun c hm => ?_, z'⟩
        · rw [← ew] at e; exact (wipe_some e).1
        · obtain ⟨o, e, _⟩ := T.obj _ _ st7 c hm
          exact (pin c hm o e).2
      show wpAny _ _ (pure true) _ _ _
      refine wpAny_pure ?_
      rw [if_pos rfl]
      refine thnF (pe.run _ s8 τ He _ I8 q8) fun u s9 ⟨v, Hf, I9, r9, k, l, evk, hp9, room, nx⟩ => ?_
      subst evk
      obtain ⟨tk, rfl⟩ := r9
      exact addT_ok (X := X.blk s3 Hb scope ce fp) I9 hp9 room fun s10 I10 => still I10 nx
  exact PpSet.codeAny_compStart_set loop (T.self X.A 0 _ _ _ st4 loop)
end
/-! ### sorted of it -/
theorem perm_in : ∀ {l ks : List Str}, l.Nodup → (∀ x ∈ l, x ∈ ks) → ks.length = l.length → ks.Perm l
  | [], ks, _, _, e => by
    have : ks = [] := List.eq_nil_of_length_eq_zero e
    subst this; exact .nil
  | x :: l, ks, nd, sub, e => by
    obtain ⟨hx, nd'⟩ := List.nodup_cons.mp nd
    have hm := sub x List.mem_cons_self
    refine (List.perm_cons_erase hm).trans (.cons x (perm_in nd' (fun y hy => ?_) ?_))
    · exact (List.mem_erase_of_ne (fun z => by subst z; exact hx hy)).mpr (sub y (List.mem_cons_of_mem _ hy))
    · rw [List.length_erase_of_mem hm, e]; rfl
def txtOf : Value → Str
  | .str k _ => k
  | _ => Str.empty
theorem txts_are : ∀ {us : List Value}, (∀ u ∈ us, ∃ k t, u = .str k t) → StrsAre us (us.map txtOf)
  | [], _ => .nil
  | u :: us, h => by
    obtain ⟨k, t, rfl⟩ := h u List.mem_cons_self
    exact .cons k t (txts_are fun v hv => h v (List.mem_cons_of_mem _ hv))
section
variable {X : Cx}
def rSortTx (P : Program) (w : World) : List V → Hp → VK → Prop := fun xs H Q => ∃ (a : Addr) (l : List Str), xs = [.ref a] ∧ H a = some (TxO P w a l) ∧ l.length < 64 ∧
  ∀ (ys : List Str) (p : Addr), ys.Nodup → (∀ x, x ∈ ys ↔ x ∈ l) → sortedS ys = true → H p = none → Q (.ref p) (upd H p (.lst (ys.map .str)))
theorem call_sortTx (hc : X.calm = true) : CallR X (.builtin "sorted") (rSortTx X.prog X.w) := by
  intro pins s σ H xs us Q I r q
  obtain ⟨a, l, rfl, ha, few, q⟩ := q
  rw [Vals.ref1 r]
  have R := txO_get I ha
  obtain ⟨⟨D, ho, F, rs, le⟩, nd⟩ := R
  obtain ⟨es, ep, tb⟩ := D
  have hsz : es.size = l.length := F.sz
  refine Calls.call_function_entry kind_sorted plain_sorted entry_sorted (args_sorted1 _) ?_
  unfold Builtin.«sorted»
  refine wpAny_bind (m := checkCount "sorted" 1 1 _) (wpAny_pure (wpAny_bind ?_))
  refine collect_set (I.ok.hd hc) ⟨_, ho, rfl, rfl⟩ F.fit (Nat.lt_trans (show es.size < 64 by omega) (by decide)) rs le fun s1 vs kp hz gn eo pm => ?_
  have hvl : vs.length = l.length := by rw [pm.length_eq, List.length_map, Array.length_toList]; exact hsz
  have shape : ∀ v ∈ vs, ∃ k t, v = Value.str k t := fun v hv => by
    obtain ⟨e, he, ev⟩ := List.mem_map.mp (pm.mem_iff.mp hv)
    obtain ⟨⟨k, hk, _⟩, _⟩ := F.el e he
    obtain ⟨t, et⟩ := Value.isStrOf_shape (x := k) (v := e.2) hk
    exact ⟨k, t, by rw [← ev]; exact et⟩
  have hS := txts_are shape
  have hks : (vs.map txtOf).Perm l := perm_in nd (fun k hk => by
    obtain ⟨e, he, hi⟩ := (F.mem k).mp hk
    obtain ⟨t, et⟩ := Value.isStrOf_shape (x := k) (v := e.2) hi
    exact List.mem_map.mpr ⟨e.2, pm.mem_iff.mpr (List.mem_map_of_mem he), by rw [et]; rfl⟩) (by rw [List.length_map, hvl])
  have e1 : s1 = { s with heap := s1.heap, gens := s1.gens, drawn := s1.drawn, toks := s1.toks } := by
    cases s1; cases s; cases eo; rfl
  refine wpAny_bind (wpAny_newList ?_ (by rw [hvl, sizeLine_eq]; omega))
  have at0 : (s1.heap.push (seqObj "list" vs.toArray 0)).get? s1.heap.objs.size = some (seqObj "list" vs.toArray 0) := Heap.get?_push_size _ rfl
  refine wpAny_bind (wpAny_holding (wpAny_call_entry slot_list_sort ⟨_, at0, rfl⟩ entry_list_sort (list_sort_treeK strKind_oneLt at0 hS.keysOf (fun v₁ v₂ rest e => keyKind_strs (by rw [← e]; exact hS)) (by rw [hvl]; exact few) fun st' hp hs => ⟨_, rfl, ?_⟩) (args_list_sort _)))
  obtain ⟨ys, g1, g2, g3⟩ := sorted_out_str hS hp hs
  obtain ⟨c, hc'⟩ := sortedHeap_at (vs := vs) (out := (arrOf st').map (·.2)) at0
  have lim : (ys.map V.str).length ≤ sizeLine := by
    rw [List.length_map, g2.length_eq, List.length_map, hvl, sizeLine_eq]; omega
  have old : ∀ b u, s.heap.get? b = some u → (sortedHeap (s1.heap.push (seqObj "list" vs.toArray 0)) s1.heap.objs.size vs ((arrOf st').map (·.2))).get? b = some u := fun b u e => by
    have z := kp b u e
    have lt := Heap.lt_size z
    rw [sortedHeap_old (Nat.ne_of_lt lt) (by rw [size_push']; exact Nat.lt_succ_of_lt lt)]
    exact Heap.get?_push_of_some _ z
  have pn : H s1.heap.objs.size = none := I.hok.fresh hz
  have J : Inv X pins σ (upd H s1.heap.objs.size (.lst (ys.map V.str))) { s with heap := sortedHeap (s1.heap.push (seqObj "list" vs.toArray 0)) s1.heap.objs.size vs ((arrOf st').map (·.2)), gens := s1.gens, drawn := s1.drawn, toks := s1.toks } :=
    I.call (ch := []) (Un.laid old hz pn) (I.hok.laid old hz ⟨lim, ((arrOf st').map (·.2)).toList, c, vals_of_strs g1, by rw [Array.toArray_toList]; exact hc'⟩) (by rw [gn]; exact I.bare) (fun _ z => nomatch z)
  rw [e1]
  exact wpAny_pure ⟨_, rfl, .ref s1.heap.objs.size, _, J, rfl, q ys _ ((g2.trans hks).nodup_iff.mpr nd) (fun x => (g2.trans hks).mem_iff) g3 pn⟩
end
/-! ### the set is no part of what is read -/
section
variable {K : PySem.W.Frag} {ix : List Addr} {H H' : Hp} {p : Addr} {f : Heap → Prop}
theorem no_rd {a : Addr} {u : HO} (hp : H p = some (.ext f)) (k : ∀ b o, b ≠ p → H b = some o → H' b = some o) (hu : ∀ g, u ≠ .ext g) (h : Rd H a u) : Rd H' a u := by
  rcases h with h | ⟨o, h⟩
  · by_cases e : a = p
    · subst e; rw [hp] at h; cases h; exact absurd rfl (hu f)
    · exact .inl (k a _ e h)
  · by_cases e : a = p
    · subst e; rw [hp] at h; cases h
    · exact .inr ⟨o, k a _ e h⟩
mutual
theorem R.off (hp : H p = some (.ext f)) (k : ∀ b o, b ≠ p → H b = some o → H' b = some o) : ∀ (d : D) (v : V), R K ix H d v → R K ix H' d v
  | .non, _, h => h
  | .bl _, _, h => h
  | .int _, _, h => h
  | .str _, _, h => h
  | .tup ds, _, ⟨a, xs, e1, h1, h2⟩ => ⟨a, xs, e1, h1.imp (no_rd hp k (fun _ z => nomatch z)) id, RL.off hp k ds xs h2⟩
  | .lst ds, _, ⟨a, xs, e1, h1, h2⟩ => ⟨a, xs, e1, k a _ (fun e => by subst e; rw [hp] at h1; cases h1) h1, RL.off hp k ds xs h2⟩
  | .fl ds, _, ⟨a, xs, e1, h1, h2⟩ => ⟨a, xs, e1, h1.imp (no_rd hp k (fun _ z => nomatch z)) id, RL.off hp k ds xs h2⟩
  | .cell j, _, h => h
  | .ins _ _ ds, _, ⟨a, dx, fs, e1, h1, h2, h3⟩ => ⟨a, dx, fs, e1, k a _ (fun e => by subst e; rw [hp] at h1; cases h1) h1, h2, RL.off hp k ds _ h3⟩
  | .raw _, _, h => h
theorem RL.off (hp : H p = some (.ext f)) (k : ∀ b o, b ≠ p → H b = some o → H' b = some o) : ∀ (ds : List D) (xs : List V), RL K ix H ds xs → RL K ix H' ds xs
  | [], _, h => h
  | d :: ds, _, ⟨x, r, e1, h1, h2⟩ => ⟨x, r, e1, R.off hp k d x h1, RL.off hp k ds r h2⟩
end
end
theorem CR.off {K : PySem.W.Frag} {H : Hp} {m : Ad} {c : List Cell} {p : Addr} {f : Heap → Prop} {o : HO} (C : CR K H m c) (hp : H p = some (.ext f)) (hn : p ∉ m.ix ∧ p ∉ m.hd) : CR K (upd H p o) m c := by
  have hp' : hid m H p = some (.ext f) := by rw [hid_of hn]; exact hp
  have k : ∀ b u, b ≠ p → hid m H b = some u → hid m (upd H p o) b = some u := fun b u ne e => by
    obtain ⟨h1, h2⟩ := hid_some e
    rw [hid_of h1, upd_ne ne]; exact h2
  refine ⟨C.len, C.nd, fun j ce e => ?_, fun b hb => ?_, C.dj⟩
  · obtain ⟨a, h1, h2⟩ := C.at_ j ce e
    have ne : a ≠ p := fun z => hn.1 (z ▸ List.mem_of_getElem? h1)
    refine ⟨a, h1, ?_⟩
    cases ce with
    | lst ds => obtain ⟨xs, h3, h4⟩ := h2; exact ⟨xs, by rw [upd_ne ne]; exact h3, RL.off hp' k ds xs h4⟩
    | obj C' ns ds => obtain ⟨dx, fs, h3, h4, h5⟩ := h2; exact ⟨dx, fs, by rw [upd_ne ne]; exact h3, h4, RL.off hp' k ds _ h5⟩
  · have ne : b ≠ p := fun z => hn.2 (z ▸ hb)
    rw [upd_ne ne]; exact C.hs b hb
theorem Le.over {H0 H : Hp} {m : Ad} {p : Addr} {o : HO} (l : Le m H0 m H) (h0 : H0 p = none) (hn : p ∉ m.hd) : Le m H0 m (upd H p o) := by
  refine ⟨fun _ _ e => e, fun b u e => ?_, rfl, fun b hb => ?_, fun _ h => .inl h, fun a h => l.al a (upd_none h)⟩
  · obtain ⟨h1, h2⟩ := hid_some e
    have ne : b ≠ p := fun z => by rw [z, h0] at h2; cases h2
    have := l.ex b u e
    rw [hid_of h1] at this ⊢
    rw [upd_ne ne]; exact this
  · have ne : b ≠ p := fun z => hn (z ▸ hb)
    rw [upd_ne ne]; exact l.hk b hb
theorem mem1_mem {k x : Str} {l : List Str} : x ∈ mem1 k l ↔ x = k ∨ x ∈ l := by
  unfold mem1
  split
  · rename_i h
    exact ⟨.inr, fun z => z.elim (fun e => e ▸ h) id⟩
  · exact List.mem_cons
theorem mem1_len {k : Str} {l : List Str} : (mem1 k l).length ≤ l.length + 1 := by
  unfold mem1
  split
  · omega
  · exact Nat.le_refl _
section
variable {X : Cx} {iter elt : Expr} {te : TD} {pos pp tp sp : Pos} {ti : TDs} {scope : Scope} {x : Str} {i : Nat}
theorem pd_sortSet (hm : X.mg "sorted" = none) (hc : X.calm = true) (hN : X.N.Nodup) (hi : PID X (.Name x tp) iter ti) (ok : blkC X.N X.env.scope scope [(x, i)] = true)
    (hg : ∀ (s : Shared) (H : Hp) (C : Addr) (cl : List (Str × Addr)) (fp : List Addr), PG (X.blk s H scope (compEnvC scope cl C X.env) fp) (.Name x tp) (gName i))
    (he : ∀ (s : Shared) (H : Hp) (C : Addr) (cl : List (Str × Addr)) (fp : List Addr), PD (X.blk s H scope (compEnvC scope cl C X.env) fp) elt te) (hgl : Gl X "sorted" := by rfl) (hs : ∀ x, foldedSetIterable iter X.env x = pure x := by intro _; rfl)
    (he1 : starEach [.SetComp elt [⟨.Name x tp, iter, [], 0⟩] scope sp] X.env = (false, eval (.SetComp elt [⟨.Name x tp, iter, [], 0⟩] scope sp) X.env) :: starEach [] X.env := by rfl) (hpl : (backTo pos (starEach [] X.env)).any (·.1) = false := by rfl) :
    PD X (.Call (.Name "sorted" pp) [.SetComp elt [⟨.Name x tp, iter, [], 0⟩] scope sp] [] pos) (dSortSet ti i te) := by
  refine PE.imp (pe_callB (call_sortTx hc) hgl hm boot_sorted (pa_cons (tx_walk (te := lift X.K te) (own := [(x, i)]) hc hN hi (blkOk_by ok) hg (fun s H C cl fp => he s H C cl fp) hs) pa_nil he1) (by decide) (by decide) he1 hpl) fun σ H Q ⟨m, ρ, c, Φ, S, h, q⟩ => ?_
  refine ⟨m, ρ, c, _, S, h, fun ds c1 J Ha m1 ⟨ys, ln, few, hte, hz⟩ C1 wk L1 p hp => ?_⟩
  have pn := hid_new hp C1
  have S1 := S.step L1 C1
  have hl : m1.ix.length = c1.length := C1.len
  refine ⟨fun j mm Hj => mm = ds.length - j ∧ j ≤ ds.length ∧ CR X.K Hj m1 c1 ∧ Le m1 Ha m1 Hj ∧ ∃ l, Hj p = some (TxO X.prog X.w p l) ∧ (∀ z, z ∈ l ↔ z ∈ ys.take j) ∧ l.length ≤ j,
    ⟨ds.length, rfl, Nat.zero_le _, C1.new hp, Le.new hp C1, [], upd_same, by simp, Nat.le_refl _⟩, ?_⟩
  rintro j mm Hj ⟨rfl, hj, Cj, Lj, l, hpj, hmem, hlen⟩
  by_cases lt : j < ds.length
  · refine .inr ⟨wk.go j m1 Hj c1 Lj Cj lt, fun H' => CR X.K H' m1 c1 ∧ Le m1 Ha m1 H' ∧ ∃ l, H' p = some (TxO X.prog X.w p l) ∧ (∀ z, z ∈ l ↔ z ∈ ys.take (j + 1)) ∧ l.length ≤ j + 1, fun H' ⟨a, b, e⟩ => ⟨ds.length - (j + 1), by omega, rfl, lt, a, b, e⟩, fun v H2 y => ?_⟩
    obtain ⟨d, hd, C2, L2, rv⟩ := wk.yld j m1 Hj c1 v H2 Lj Cj lt y
    have hp2 : H2 p = some (TxO X.prog X.w p l) := (hid_some (L2.ex p _ (by rw [hid_of pn]; exact hpj))).2
    have hy : ys[j]? = some ys[j] := List.getElem?_eq_getElem (by omega)
    generalize ys[j] = k at hy
    have Lz := Lj.trans L2
    refine ⟨by rw [show ([(x, i)] : List (Str × Nat)).map (·.2) = [i] from rfl, wipe1, wipe1, List.set_set, List.set_set], m1, _, c1, fun d' c' => d' = .str k ∧ c' = c1, (S1.step Lz C2).blk rv, hte j d k hd hy _ ⟨rfl, rfl⟩, fun d' c' u H3 m3 ⟨ed, ec⟩ C3 R3 L3 => ?_⟩
    subst ed ec
    cases (show u = V.str k from R3)
    have em := CR.same hl.symm C3 L3
    subst em
    have hp3 : H3 p = some (TxO X.prog X.w p l) := (hid_some (L3.ex p _ (by rw [hid_of pn]; exact hp2))).2
    refine ⟨k, l, rfl, hp3, Nat.lt_trans (show l.length + 1 < 65 by omega) (by decide), C3.off hp3 pn, (Lz.trans L3).over hp pn.2, mem1 k l, upd_same, fun z => ?_, ?_⟩
    · rw [mem1_mem, hmem z, List.take_add_one, hy, List.mem_append]
      simp only [Option.toList_some, List.mem_singleton]
      exact Or.comm
    · exact Nat.le_trans mem1_len (by omega)
  · have ej : j = ds.length := by omega
    subst ej
    refine .inl ⟨wk.stop _ m1 Hj c1 Lj Cj (Nat.le_refl _), p, l, rfl, hpj, by omega, fun zs a nd mz so ha => ?_⟩
    rw [List.take_of_length_le (by omega)] at hmem
    exact q _ c1 _ _ m1 (hz zs nd so fun z => (mz z).trans (hmem z)) (Cj.new ha) (RR.newL Cj ha (rl_txts zs)) ((L1.trans Lj).trans (Le.new ha Cj))
end
end Cw

namespace K05
open PySem PySem.Spec PyProof.Rows L2 Cw
def topS (i : Nat) : Stmt := PySem.Challenge.pw_cornerways_k05_rooms_made.main.body.getD i (.Pass ⟨0, 0, 0, 0⟩)
abbrev st_number_of : Stmt := topS 7
theorem sc_number_of : FnScope ["text", "least", "most"] ["text", "least", "most"] (defScope st_number_of) := ⟨rfl, rfl, rfl, by decide +kernel, rfl, by decide +kernel, by decide +kernel⟩
abbrev st_plus_of : Stmt := topS 12
theorem sc_plus_of : FnScope ["text", "number"] ["text"] (defScope st_plus_of) := ⟨rfl, rfl, rfl, by decide +kernel, rfl, by decide +kernel, by decide +kernel⟩
abbrev st_side_of : Stmt := topS 13
theorem sc_side_of : FnScope ["text", "words", "plus"] ["text"] (defScope st_side_of) := ⟨rfl, rfl, rfl, by decide +kernel, rfl, by decide +kernel, by decide +kernel⟩
abbrev st_sides_of : Stmt := topS 14
theorem sc_sides_of : FnScope ["text", "sides", "part"] ["text"] (defScope st_sides_of) := ⟨rfl, rfl, rfl, by decide +kernel, rfl, by decide +kernel, by decide +kernel⟩
abbrev st__law_spring : Stmt := topS 17
theorem sc__law_spring : FnScope ["_law_cells", "_law_at", "_law_own", "_law_mixed", "_law_cell"] ["_law_cells", "_law_at"] (defScope st__law_spring) := ⟨rfl, rfl, rfl, by decide +kernel, rfl, by decide +kernel, by decide +kernel⟩
abbrev st__law_take : Stmt := topS 18
theorem sc__law_take : FnScope ["_law_spring_here", "_law_much", "_law_here", "_law_factor", "_law_figure"] ["_law_spring_here", "_law_much"] (defScope st__law_take) := ⟨rfl, rfl, rfl, by decide +kernel, rfl, by decide +kernel, by decide +kernel⟩
abbrev st__law_shuts : Stmt := topS 19
theorem sc__law_shuts : FnScope ["_law_spring_here", "_law_most_here", "_law_reach", "_law_lean", "_law_found", "_law_k", "_law_more"] ["_law_spring_here", "_law_most_here", "_law_reach", "_law_lean"] (defScope st__law_shuts) := ⟨rfl, rfl, rfl, by decide +kernel, rfl, by decide +kernel, by decide +kernel⟩
abbrev st__law_shut_row : Stmt := topS 20
theorem sc__law_shut_row : FnScope ["_law_shut", "_law_letter", "_law_more", "_law_bend"] ["_law_shut"] (defScope st__law_shut_row) := ⟨rfl, rfl, rfl, by decide +kernel, rfl, by decide +kernel, by decide +kernel⟩
abbrev st__law_plan : Stmt := topS 21
theorem sc__law_plan : FnScope ["_law_shuts_here", "_law_shut"] ["_law_shuts_here"] (defScope st__law_plan) := ⟨rfl, rfl, rfl, by decide +kernel, rfl, by decide +kernel, by decide +kernel⟩
abbrev st__law_letters : Stmt := topS 22
theorem sc__law_letters : FnScope ["_law_shuts_here", "_law_letter", "_law_shut"] ["_law_shuts_here"] (defScope st__law_letters) := ⟨rfl, rfl, rfl, by decide +kernel, rfl, by decide +kernel, by decide +kernel⟩
abbrev st__law_shown_of : Stmt := topS 23
theorem sc__law_shown_of : FnScope ["_law_mine"] ["_law_mine"] (defScope st__law_shown_of) := ⟨rfl, rfl, rfl, by decide +kernel, rfl, by decide +kernel, by decide +kernel⟩
abbrev st__law_due_of : Stmt := topS 24
theorem sc__law_due_of : FnScope ["_law_shuts_here"] ["_law_shuts_here"] (defScope st__law_due_of) := ⟨rfl, rfl, rfl, by decide +kernel, rfl, by decide +kernel, by decide +kernel⟩
abbrev st__law_right : Stmt := topS 25
theorem sc__law_right : FnScope ["_law_spring_here", "_law_shuts_here", "_law_mate_shuts", "_law_thing", "_law_mate_thing", "_law_mine", "_law_again", "_law_mate", "_law_told", "_law_same"] ["_law_spring_here"] (defScope st__law_right) := ⟨rfl, rfl, rfl, by decide +kernel, rfl, by decide +kernel, by decide +kernel⟩
abbrev st_law : Stmt := topS 26
theorem sc_law : FnScope ["_law_cells", "_law_at"] ["_law_cells"] (defScope st_law) := ⟨rfl, rfl, rfl, by decide +kernel, rfl, by decide +kernel, by decide +kernel⟩
structure Tx (K : PySem.W.Frag) (mg : Str → Option Value) where
  n_len : mg "len" = none
  n_int : mg "int" = none
  n_divmod : mg "divmod" = none
  n_range : mg "range" = none
  n_tuple : mg "tuple" = none
  n_str : mg "str" = none
  n_isinstance : mg "isinstance" = none
  n_repr : mg "repr" = none
  n_sorted : mg "sorted" = none
  n_bool : mg "bool" = none
  n_abs : mg "abs" = none
  n_max : mg "max" = none
  n_min : mg "min" = none
  n_all : mg "all" = none
  c_DIGITS : ∃ t, mg "DIGITS" = some (.str "0123456789" t)
  c_MOST_SIDES : ∃ t, mg "MOST_SIDES" = some (.int 12 t)
  c_MOST_PLUS : ∃ t, mg "MOST_PLUS" = some (.int 9 t)
  c_SIDE_LETTERS : TupK K mg "SIDE_LETTERS" ["x", "y", "z"]
  c_TURNS : TupK K mg "TURNS" ["out", "in"]
  a_number_of : Addr
  d_number_of : FuncData
  F_number_of : Fun K "number_of" "number_of" st_number_of a_number_of d_number_of
  g_number_of : mg "number_of" = some (.ref a_number_of)
  b_number_of : Binds K d_number_of ["text", "least", "most"] []
  a_plus_of : Addr
  d_plus_of : FuncData
  F_plus_of : Fun K "plus_of" "plus_of" st_plus_of a_plus_of d_plus_of
  g_plus_of : mg "plus_of" = some (.ref a_plus_of)
  b_plus_of : Binds K d_plus_of ["text"] []
  a_side_of : Addr
  d_side_of : FuncData
  F_side_of : Fun K "side_of" "side_of" st_side_of a_side_of d_side_of
  g_side_of : mg "side_of" = some (.ref a_side_of)
  b_side_of : Binds K d_side_of ["text"] []
  a_sides_of : Addr
  d_sides_of : FuncData
  F_sides_of : Fun K "sides_of" "sides_of" st_sides_of a_sides_of d_sides_of
  g_sides_of : mg "sides_of" = some (.ref a_sides_of)
  b_sides_of : Binds K d_sides_of ["text"] []
  a__law_spring : Addr
  d__law_spring : FuncData
  F__law_spring : Fun K "_law_spring" "_law_spring" st__law_spring a__law_spring d__law_spring
  g__law_spring : mg "_law_spring" = some (.ref a__law_spring)
  b__law_spring : Binds K d__law_spring ["_law_cells", "_law_at"] []
  a__law_take : Addr
  d__law_take : FuncData
  F__law_take : Fun K "_law_take" "_law_take" st__law_take a__law_take d__law_take
  g__law_take : mg "_law_take" = some (.ref a__law_take)
  b__law_take : Binds K d__law_take ["_law_spring_here", "_law_much"] []
  a__law_shuts : Addr
  d__law_shuts : FuncData
  F__law_shuts : Fun K "_law_shuts" "_law_shuts" st__law_shuts a__law_shuts d__law_shuts
  g__law_shuts : mg "_law_shuts" = some (.ref a__law_shuts)
  b__law_shuts : Binds K d__law_shuts ["_law_spring_here", "_law_most_here", "_law_reach", "_law_lean"] []
  a__law_shut_row : Addr
  d__law_shut_row : FuncData
  F__law_shut_row : Fun K "_law_shut_row" "_law_shut_row" st__law_shut_row a__law_shut_row d__law_shut_row
  g__law_shut_row : mg "_law_shut_row" = some (.ref a__law_shut_row)
  b__law_shut_row : Binds K d__law_shut_row ["_law_shut"] []
  a__law_plan : Addr
  d__law_plan : FuncData
  F__law_plan : Fun K "_law_plan" "_law_plan" st__law_plan a__law_plan d__law_plan
  g__law_plan : mg "_law_plan" = some (.ref a__law_plan)
  b__law_plan : Binds K d__law_plan ["_law_shuts_here"] []
  a__law_letters : Addr
  d__law_letters : FuncData
  F__law_letters : Fun K "_law_letters" "_law_letters" st__law_letters a__law_letters d__law_letters
  g__law_letters : mg "_law_letters" = some (.ref a__law_letters)
  b__law_letters : Binds K d__law_letters ["_law_shuts_here"] []
  a__law_shown_of : Addr
  d__law_shown_of : FuncData
  F__law_shown_of : Fun K "_law_shown_of" "_law_shown_of" st__law_shown_of a__law_shown_of d__law_shown_of
  g__law_shown_of : mg "_law_shown_of" = some (.ref a__law_shown_of)
  b__law_shown_of : Binds K d__law_shown_of ["_law_mine"] []
  a__law_due_of : Addr
  d__law_due_of : FuncData
  F__law_due_of : Fun K "_law_due_of" "_law_due_of" st__law_due_of a__law_due_of d__law_due_of
  g__law_due_of : mg "_law_due_of" = some (.ref a__law_due_of)
  b__law_due_of : Binds K d__law_due_of ["_law_shuts_here"] []
  a__law_right : Addr
  d__law_right : FuncData
  F__law_right : Fun K "_law_right" "_law_right" st__law_right a__law_right d__law_right
  g__law_right : mg "_law_right" = some (.ref a__law_right)
  b__law_right : Binds K d__law_right ["_law_spring_here"] []
  a_law : Addr
  d_law : FuncData
  F_law : Fun K "law" "law" st_law a_law d_law
  g_law : mg "law" = some (.ref a_law)
  b_law : Binds K d_law ["_law_cells"] []
def optI : Option Int → D
  | none => .non
  | some i => .int i
abbrev one (k : Nat) : Str := ⟨#[k]⟩
def numberOf (t : Str) (lo hi : Int) : Option Int := match t.cps.toList with
  | [k] => if (48 ≤ k ∧ k ≤ 57) ∧ lo ≤ (k : Int) - 48 ∧ (k : Int) - 48 ≤ hi then some ((k : Int) - 48) else none
  | _ => none
theorem str_one {t : Str} (h : (t.length : Int) = 1) : ∃ k, t = one k := by
  cases t with | mk a => cases a with | mk l =>
    have h : ((l.length : Nat) : Int) = 1 := h
    match l, h with
    | [k], _ => exact ⟨k, rfl⟩
    | [], h => simp at h
    | _ :: _ :: _, h => simp at h; omega
theorem digs : (("0123456789" : Str).cps.toList) = [48, 49, 50, 51, 52, 53, 54, 55, 56, 57] := by decide +kernel
theorem dig_in (k : Nat) : k ∈ (("0123456789" : Str).cps.toList) ↔ (48 ≤ k ∧ k ≤ 57) := by
  rw [digs]; simp; omega
theorem dig_val {k : Nat} (h : 48 ≤ k ∧ k ≤ 57) : PySem.intText? (one k) = some ((k : Int) - 48) := by
  have : k = 48 ∨ k = 49 ∨ k = 50 ∨ k = 51 ∨ k = 52 ∨ k = 53 ∨ k = 54 ∨ k = 55 ∨ k = 56 ∨ k = 57 := by omega
  rcases this with h | h | h | h | h | h | h | h | h | h <;> subst h <;> decide +kernel
def S_number_of : Pm := fun c ds Φ => ∃ t lo hi, ds = [.str t, .int lo, .int hi] ∧ t.length ≤ 5000 ∧ Φ (optI (numberOf t lo hi)) c
section
variable {P : Program} {w : World} {K : PySem.W.Frag} {mg : Str → Option Value} {base : Heap}
set_option maxHeartbeats 8000000 in
theorem ok_number_of (T : Tx K mg) : FnOk P w K mg base CX0 1 T.a_number_of T.d_number_of ["text", "least", "most"] (spD K 0 3 S_number_of) := by
  refine fnD T.F_number_of sc_number_of fun cdv A outer s H E hr => ⟨_, (psd_cons (psd_if (PDw.pt (pdw_or (pdt_ne hr (pd_len (pd_v 0) T.n_len) pd_int) (pdw_or (pdt_nin hr (pd_v 0) (pd_gs T.c_DIGITS)) (pdw_or1 (pdt_not (pdt_lele (pd_v 1) (pd_intc (pd_v 0) T.n_int) (pd_v 2))))))) (psd_one (psd_ret pd_non)) psd_nil) (psd_one (psd_ret (pd_intc (pd_v 0) T.n_int)))), ?_⟩
  rintro c ds Φ hc - ⟨t, lo, hi, rfl, ht, hΦ⟩
  cases c with
  | cons _ _ => cases hc
  | nil =>
  conv => whnf
  refine ⟨Nat.le_trans ht (by decide), ?_⟩
  conv => whnf
  split
  · rename_i he
    conv => whnf
    have he : ¬ (t.length : Int) = 1 := by simpa using he
    have : numberOf t lo hi = none := by
      unfold numberOf
      split
      · rename_i k e
        refine absurd ?_ he
        show ((t.cps.size : Nat) : Int) = 1
        rw [← Array.length_toList, e]; rfl
      · rfl
    rw [this] at hΦ
    exact hΦ
  · rename_i he
    have he : (t.length : Int) = 1 := by simpa using he
    obtain ⟨k, rfl⟩ := str_one he
    conv => whnf
    split
    · rename_i hd
      conv => whnf
      have hd : ¬ (48 ≤ k ∧ k ≤ 57) := by
        rw [← dig_in]
        simpa [inS] using hd
      have : numberOf (one k) lo hi = none := by
        show (if _ then _ else _) = _
        rw [if_neg (fun z => hd z.1)]
      rw [this] at hΦ
      exact hΦ
    · rename_i hd
      have hd : 48 ≤ k ∧ k ≤ 57 := by
        rw [← dig_in]
        simpa [inS] using hd
      conv => whnf
      refine ⟨by show 1 ≤ 640; decide, _, dig_val hd, ?_⟩
      conv => whnf
      have fin : ∀ b : Bool, (b = true → lo ≤ (k : Int) - 48 ∧ (k : Int) - 48 ≤ hi) → (b = false → ¬ (lo ≤ (k : Int) - 48 ∧ (k : Int) - 48 ≤ hi)) → (match (!b) with
        | true => retD 0 Φ .non []
        | false => dRet (dCB (un1 fInt) (dCons (dVar 0) dNil)) ⟨fun _ c' => retD 0 Φ .non c', retD 0 Φ, fun _ _ => False, fun _ _ => False⟩ (startD ["text", "least", "most"] [.str (one k), .int lo, .int hi]) []) := fun b h1 h2 => by
        cases b with
        | true =>
          conv => whnf
          refine ⟨by show 1 ≤ 640; decide, _, dig_val hd, ?_⟩
          conv => whnf
          have : numberOf (one k) lo hi = some ((k : Int) - 48) := by
            show (if _ then _ else _) = _
            rw [if_pos ⟨hd, h1 rfl⟩]
          rw [this] at hΦ
          exact hΦ
        | false =>
          conv => whnf
          have : numberOf (one k) lo hi = none := by
            show (if _ then _ else _) = _
            rw [if_neg (fun z => h2 rfl z.2)]
          rw [this] at hΦ
          exact hΦ
      split
      · rename_i he
        have hl : lo ≤ (k : Int) - 48 := by simpa using he
        conv => whnf
        exact fin (decide ((k : Int) - 48 ≤ hi)) (fun h => ⟨hl, of_decide_eq_true h⟩) (fun h z => of_decide_eq_false h z.2)
      · rename_i he
        have hl : ¬ lo ≤ (k : Int) - 48 := by simpa using he
        exact fin false (fun h => by cases h) (fun _ z => hl z.1)
      · rename_i h1 h2
        cases e : decide (lo ≤ (k : Int) - 48) with
        | true => exact (h1 (by simp [e])).elim
        | false => exact (h2 (by simp [e])).elim

end
end K05

namespace K05
open PySem PySem.Spec PyProof.Rows L2 Cw

def spr (a b k : Int) : Cell := .lst [.int a, .int b, .int k]
def S__law_take : Pm := fun c ds Φ => ∃ a b k m, c = [spr a b k] ∧ ds = [.cell 0, .int m] ∧ (0 ≤ a ∧ a < 2147483587) ∧ 0 ≤ b ∧ (0 ≤ k ∧ k < 100000) ∧ (0 < m ∧ m < 1073741824) ∧ ∀ v a' b', 0 ≤ v → v < m → 0 ≤ a' → a' < 2147483587 → 0 ≤ b' → Φ (.int v) [spr a' b' (k + 1)]
section
variable {P : Program} {w : World} {K : PySem.W.Frag} {mg : Str → Option Value} {base : Heap}
set_option maxHeartbeats 8000000 in
theorem ok__law_take (T : Tx K mg) : FnOk P w K mg base CX0 1 T.a__law_take T.d__law_take ["_law_spring_here", "_law_much"] (spD K 1 2 S__law_take) := by
  refine fnD T.F__law_take sc__law_take fun cdv A outer s H E hr => ⟨_, (psd_cons (psd_asg (pd_add (pd_ix (pd_v 0) pd_int) pd_int) (pgd_sub (pd_v 0) pd_int)) (psd_cons (psd_set (i := 2) sc__law_take.nd (pd_intc (pd_ix (pd_v 0) pd_int) T.n_int)) (psd_cons (psd_set (i := 3) sc__law_take.nd (pd_add (pd_mod (pd_intc (pd_div (pd_v 2) pd_int) T.n_int) pd_int) pd_int)) (psd_cons (psd_asg (pd_mod (pd_intc (pd_add (pd_add (pd_mul (pd_v 2) (pd_v 3)) (pd_mul pd_int (pd_ix (pd_v 0) pd_int))) pd_int) T.n_int) pd_int) (pgd_sub (pd_v 0) pd_int)) (psd_cons (psd_if (pdt_gt (pd_ix (pd_v 0) pd_int) pd_int) (psd_cons (psd_asg (pd_divmod (pd_ix (pd_v 0) pd_int) (pd_v 1) T.n_divmod) (pgd_tup rfl (pgds_cons (pgd_sub (pd_v 0) pd_int) (pgds_cons (pgd_name (i := 4) sc__law_take.nd) pgds_nil)))) (psd_one (psd_ret (pd_v 4)))) psd_nil) (psd_one (psd_ret (pd_mod (pd_intc (pd_div (pd_ix (pd_v 0) pd_int) pd_int) T.n_int) (pd_v 1))))))))), ?_⟩
  rintro c ds Φ hc - ⟨a, b, k, m, rfl, rfl, ha, hb, hk, hm, hΦ⟩
  conv => whnf
  refine ⟨0, rfl, ?_⟩
  conv => whnf
  refine ⟨2, _, 2, rfl, rfl, rfl, ?_⟩
  conv => whnf
  ((refine ⟨?num, ?_⟩); (case num => first | omega | (left; omega) | (right; omega)); (conv => whnf))
  ((refine ⟨?num, ?_⟩); (case num => first | omega | (left; omega) | (right; omega)); (conv => whnf))
  ((refine ⟨?num, ?_⟩); (case num => first | omega | (left; omega) | (right; omega)); (conv => whnf))
  ((refine ⟨?num, ?_⟩); (case num => first | omega | (left; omega) | (right; omega)); (conv => whnf))
  ((refine ⟨?num, ?_⟩); (case num => first | omega | (left; omega) | (right; omega)); (conv => whnf))
  refine ⟨0, rfl, ?_⟩
  conv => whnf
  refine ⟨0, _, 0, rfl, rfl, rfl, ?_⟩
  conv => whnf
  have ha' := Int.emod_nonneg (a * (a / 8 % 40009 + 30011) + 8009 * (k + 1) + 29) (show (2147483587 : Int) ≠ 0 by decide)
  have ha'' := Int.emod_lt_of_pos (a * (a / 8 % 40009 + 30011) + 8009 * (k + 1) + 29) (show (0 : Int) < 2147483587 by decide)
  generalize (a * (a / 8 % 40009 + 30011) + 8009 * (k + 1) + 29) % 2147483587 = a1 at *
  split
  · rename_i he
    have hbp : 0 < b := of_decide_eq_true he
    conv => whnf
    refine ⟨hm, ?_⟩
    conv => whnf
    refine ⟨rfl, ?_⟩
    conv => whnf
    refine ⟨0, rfl, ?_⟩
    conv => whnf
    refine ⟨1, _, 1, rfl, rfl, rfl, ?_⟩
    conv => whnf
    refine ⟨rfl, ?_⟩
    conv => whnf
    exact hΦ (b % m) a1 (b / m) (Int.emod_nonneg _ (by omega)) (Int.emod_lt_of_pos _ hm.1) ha' ha'' (Int.ediv_nonneg hb (by omega))
  · conv => whnf
    refine ⟨by decide, ?_⟩
    conv => whnf
    refine ⟨hm.1, ?_⟩
    conv => whnf
    exact hΦ _ a1 b (Int.emod_nonneg _ (by omega)) (Int.emod_lt_of_pos _ hm.1) ha' ha'' hb

end
end K05

namespace K05
open PySem PySem.Spec PyProof.Rows L2 Cw

structure Sh where
  l : Nat
  n : Int
  o : Bool
def bendS (o : Bool) : Str := if o then "out" else "in"
def Sh.d (s : Sh) : D := .tup [.str (one s.l), .int s.n, .str (bendS s.o)]
def moreS (n : Int) : Str := if n = 0 then "" else if n < 0 then toString n else "+" ++ toString n
def Sh.row (s : Sh) : Str := one s.l ++ moreS s.n ++ " " ++ bendS s.o
def Sh.ok (s : Sh) : Prop := (s.l = 120 ∨ s.l = 121 ∨ s.l = 122) ∧ (-9 ≤ s.n ∧ s.n ≤ 9)
theorem short {n : Nat} (h : n ≤ 1000) : n ≤ sizeLine := Nat.le_trans h (by decide)
theorem nine {n : Int} (h : -9 ≤ n ∧ n ≤ 9) {P : Int → Prop} (hp : ∀ i : Fin 19, P ((i.val : Int) - 9)) : P n := by
  have := hp ⟨(n + 9).toNat, by omega⟩
  have e : (((⟨(n + 9).toNat, by omega⟩ : Fin 19).val : Nat) : Int) - 9 = n := by simp; omega
  rw [e] at this; exact this
theorem tos_len {n : Int} (h : -9 ≤ n ∧ n ≤ 9) : (toString n : Str).length ≤ 2 := nine (P := fun n => (toString n : Str).length ≤ 2) h (by decide +kernel)
theorem tos_small {n : Int} (h : -9 ≤ n ∧ n ≤ 9) : n.natAbs.log2 < 1920 := by
  have : n.natAbs.log2 < 4 := by
    by_cases h0 : n.natAbs = 0
    · rw [h0]; decide
    · exact (Nat.log2_lt h0).mpr (by omega)
  omega
def S__law_shut_row : Pm := fun c ds Φ => ∃ s, ds = [Sh.d s] ∧ s.ok ∧ Φ (.str s.row) c
section
variable {P : Program} {w : World} {K : PySem.W.Frag} {mg : Str → Option Value} {base : Heap}
set_option maxHeartbeats 8000000 in
theorem ok__law_shut_row (T : Tx K mg) : FnOk P w K mg base CX0 1 T.a__law_shut_row T.d__law_shut_row ["_law_shut"] (spD K 0 1 S__law_shut_row) := by
  refine fnD T.F__law_shut_row sc__law_shut_row fun cdv A outer s H E hr => ⟨_, (psd_cons (psd_asg (pd_v 0) (pgd_tup rfl (pgds_cons (pgd_name (i := 1) sc__law_shut_row.nd) (pgds_cons (pgd_name (i := 2) sc__law_shut_row.nd) (pgds_cons (pgd_name (i := 3) sc__law_shut_row.nd) pgds_nil))))) (psd_one (psd_ret (pd_add (pd_add (pd_add (pd_v 1) (pd_if (pdt_eq hr (pd_v 2) pd_int) pd_str (pd_if (pdt_lt (pd_v 2) pd_int) (pd_strc (pd_v 2) T.n_str) (pd_add pd_str (pd_strc (pd_v 2) T.n_str))))) pd_str) (pd_v 3))))), ?_⟩
  rintro c ds Φ hc - ⟨s, rfl, hs, hΦ⟩
  cases c with
  | cons _ _ => cases hc
  | nil =>
  conv => whnf
  refine ⟨rfl, ?_⟩
  conv => whnf
  refine ⟨rfl, ?_⟩
  conv => whnf
  obtain ⟨l, n, o⟩ := s
  have fin : ∀ z : Str, moreS n = z → z.length ≤ 3 → Φ (D.str (one l ++ z ++ " " ++ bendS o)) [] := fun z e _ => by subst e; exact hΦ
  have hb : (bendS o).length ≤ 3 := by cases o <;> decide
  have hl : (one l).length = 1 := rfl
  have l0 : (Str.ofString "").length = 0 := rfl
  have l1 : (Str.ofString " ").length = 1 := by decide
  have l2 : (Str.ofString "+").length = 1 := by decide
  have hi : (toString n : Str).length ≤ 2 := tos_len hs.2
  split
  · rename_i he
    have hn : n = 0 := of_decide_eq_true he
    conv => whnf
    refine ⟨by show (1 : Nat) + 0 ≤ _; decide, ?_⟩
    conv => whnf
    refine ⟨short (by simp only [Str.length_append]; omega), ?_⟩
    conv => whnf
    refine ⟨short (by simp only [Str.length_append]; omega), ?_⟩
    conv => whnf
    exact fin "" (by unfold moreS; rw [if_pos hn]) (by rw [show ("" : Str).length = 0 from rfl]; omega)
  · rename_i he
    have hn : n ≠ 0 := of_decide_eq_false he
    conv => whnf
    split
    · rename_i h2
      have h2 : n < 0 := of_decide_eq_true h2
      conv => whnf
      refine ⟨tos_small hs.2, ?_⟩
      conv => whnf
      refine ⟨short (by show (one l).length + (toString n : Str).length ≤ 1000; omega), ?_⟩
      conv => whnf
      refine ⟨short (by simp only [Str.length_append]; omega), ?_⟩
      conv => whnf
      refine ⟨short (by simp only [Str.length_append]; omega), ?_⟩
      conv => whnf
      exact fin (toString n) (by unfold moreS; rw [if_neg hn, if_pos h2]) (by omega)
    · rename_i h2
      have h2 : ¬ n < 0 := of_decide_eq_false h2
      conv => whnf
      refine ⟨tos_small hs.2, ?_⟩
      conv => whnf
      refine ⟨short (by show (Str.ofString "+").length + (toString n : Str).length ≤ 1000; omega), ?_⟩
      conv => whnf
      refine ⟨short (by simp only [Str.length_append]; omega), ?_⟩
      conv => whnf
      refine ⟨short (by simp only [Str.length_append]; omega), ?_⟩
      conv => whnf
      refine ⟨short (by simp only [Str.length_append]; omega), ?_⟩
      conv => whnf
      exact fin ("+" ++ toString n) (by unfold moreS; rw [if_neg hn, if_neg h2]) (by rw [Str.length_append]; omega)

end
end K05

namespace K05
open PySem PySem.Spec PyProof.Rows L2 Cw

def shsD (ss : List Sh) : D := .tup (ss.map Sh.d)
def planS (ss : List Sh) : Str := Txt.join ", " (ss.map Sh.row)
def oks (ss : List Sh) : Prop := ss.length ≤ 12 ∧ ∀ s ∈ ss, s.ok
def S__law_plan : Pm := fun c ds Φ => ∃ ss, ds = [shsD ss] ∧ oks ss ∧ Φ (.str (planS ss)) c
theorem shD_ok (s : Sh) : okD 0 s.d = true := rfl
theorem shs_ok : ∀ ss : List Sh, okDs 0 (ss.map Sh.d) = true
  | [] => rfl
  | s :: ss => by
    show (okD 0 s.d && okDs 0 (ss.map Sh.d)) = true
    rw [shs_ok ss]; rfl
theorem txts_strs : ∀ ys : List Str, txts (ys.map .str) = some ys
  | [] => rfl
  | y :: ys => by
    show (txts (ys.map .str)).map (y :: ·) = _
    rw [txts_strs ys]; rfl
theorem row_len {s : Sh} (h : s.ok) : s.row.length ≤ 8 := by
  have h1 : (one s.l).length = 1 := rfl
  have h2 : (bendS s.o).length ≤ 3 := by cases s.o <;> decide
  have h3 : (moreS s.n).length ≤ 3 := by
    have := tos_len h.2
    have l2 : (Str.ofString "+").length = 1 := by decide
    unfold moreS
    split
    · exact Nat.zero_le _
    · split
      · omega
      · rw [Str.length_append]; omega
  have h4 : (Str.ofString " ").length = 1 := by decide
  unfold Sh.row
  simp only [Str.length_append]
  omega
theorem rows_len : ∀ {ss : List Sh}, (∀ s ∈ ss, s.ok) → ((ss.map Sh.row).map (·.length)).sum ≤ 8 * ss.length
  | [], _ => Nat.le_refl _
  | s :: ss, h => by
    have h1 := row_len (h s List.mem_cons_self)
    have h2 := rows_len fun x hx => h x (List.mem_cons_of_mem s hx)
    show s.row.length + ((ss.map Sh.row).map (·.length)).sum ≤ 8 * (ss.length + 1)
    omega
section
variable {P : Program} {w : World} {K : PySem.W.Frag} {mg : Str → Option Value} {base : Heap}
set_option maxHeartbeats 8000000 in
theorem ok__law_plan (T : Tx K mg) : FnOk P w K mg base CX0 2 T.a__law_plan T.d__law_plan ["_law_shuts_here"] (spD K 0 1 S__law_plan) := by
  refine fnD T.F__law_plan sc__law_plan fun cdv A outer s H E hr => ⟨_, (psd_one (psd_ret (pd_join pd_str (pd_lc (i := 1) rfl sc__law_plan.nd (pid_tup (pd_v 0)) (by kernel_rfl) (fun _ _ _ _ _ => pg_name (i := 1) sc__law_plan.nd rfl (Or.inl rfl)) (fun _ _ _ _ _ => ptd_nil) (fun _ _ _ _ _ => (pd_callP (ok__law_shut_row T) (hr.mono (by decide)) T.g__law_shut_row T.F__law_shut_row.kp T.b__law_shut_row pass0 (pds_cons (pd_v 1) pds_nil))))))), ?_⟩
  rintro c ds Φ hc - ⟨ss, rfl, hs, hΦ⟩
  cases c with
  | cons _ _ => cases hc
  | nil =>
  conv => whnf
  refine ⟨_, rfl, ?_⟩
  refine lc_map (c := []) (fun d => match d with | .tup [.str l, .int n, .str b] => .str (l ++ moreS n ++ " " ++ b) | _ => .non) rfl _ ?_ ?_ ?_
  · intro d hd
    obtain ⟨s, hs', rfl⟩ := List.mem_map.mp hd
    refine ⟨rfl, fun acc Ψ _ h => ?_⟩
    conv => whnf
    refine ⟨rfl, rfl, ?_⟩
    exact ⟨s, rfl, hs.2 s hs', h⟩
  · rw [List.length_map]; exact short (by have := hs.1; omega)
  · conv => whnf
    have e : (ss.map Sh.d).map (fun d => match d with | .tup [.str l, .int n, .str b] => D.str (l ++ moreS n ++ " " ++ b) | _ => .non) = (ss.map Sh.row).map .str := by
      rw [List.map_map, List.map_map]; rfl
    rw [e]
    refine ⟨_, txts_strs _, ?_, ?_⟩
    · have h1 := rows_len hs.2
      have h2 : (Str.ofString ", ").length = 2 := by decide
      have h3 := hs.1
      rw [List.length_map, h2]
      show _ ≤ 16777216
      omega
    · exact hΦ

end
end K05

namespace K05
open PySem PySem.Spec PyProof.Rows L2 Cw

theorem inF_strs (x : Str) (ys : List Str) : inF (.str x) (ys.map .str) = decide (x ∈ ys) := by
  unfold inF inV
  rw [List.map_map, List.any_map]
  show (ys.any fun y => y == x) = _
  rw [Bool.eq_iff_iff]
  simp [List.any_eq_true]
def hasL (ss : List Sh) (k : Nat) : Bool := decide (one k ∈ ss.map fun s => one s.l)
def lettersS (ss : List Sh) : Str := Txt.join "" (([120, 121, 122].filter (hasL ss)).map one)
def S__law_letters : Pm := fun c ds Φ => ∃ ss, ds = [shsD ss] ∧ oks ss ∧ Φ (.str (lettersS ss)) c
theorem shsD_ok (ss : List Sh) : okDs 0 [shsD ss] = true := by
  show (okDs 0 (ss.map Sh.d) && true) = true
  rw [shs_ok]; rfl
def dueD (ss : List Sh) : D := .lst [.str (planS ss), shsD ss, .str (lettersS ss), .str (planS ss), .int ss.length, .bl true]
def S__law_due_of : Pm := fun c ds Φ => ∃ ss, ds = [shsD ss] ∧ oks ss ∧ Φ (dueD ss) c
section
variable {P : Program} {w : World} {K : PySem.W.Frag} {mg : Str → Option Value} {base : Heap}
set_option maxHeartbeats 8000000 in
theorem ok__law_letters (T : Tx K mg) : FnOk P w K mg base CX0 1 T.a__law_letters T.d__law_letters ["_law_shuts_here"] (spD K 0 1 S__law_letters) := by
  refine fnD T.F__law_letters sc__law_letters fun cdv A outer s H E hr => ⟨_, (psd_one (psd_ret (pd_join pd_str (pd_lc (i := 1) rfl sc__law_letters.nd (pid_str pd_str) (by kernel_rfl) (fun _ _ _ _ _ => pg_name (i := 1) sc__law_letters.nd rfl (Or.inl rfl)) (fun _ _ _ _ _ => (ptd_one (pdt_in hr (pd_v 1) (pd_lc (i := 2) rfl sc__law_letters.nd (pid_tup (pd_v 0)) (by kernel_rfl) (fun _ _ _ _ _ => pg_name (i := 2) sc__law_letters.nd rfl (Or.inl rfl)) (fun _ _ _ _ _ => ptd_nil) (fun _ _ _ _ _ => (pd_ix (pd_v 2) pd_int)))))) (fun _ _ _ _ _ => (pd_v 1)))))), ?_⟩
  rintro c ds Φ hc - ⟨ss, rfl, hs, hΦ⟩
  cases c with
  | cons _ _ => cases hc
  | nil =>
  conv => whnf
  refine ⟨_, rfl, ?_⟩
  refine lc_filter (c := []) (fun d => inF d (ss.map fun s => .str (one s.l))) id rfl _ [] ?_ ?_ rfl ?_ ?_
  · intro d hd acc Ψ ha h
    obtain ⟨k, rfl⟩ : ∃ x, d = .str x := by
      obtain ⟨k, _, rfl⟩ := List.mem_map.mp hd
      exact ⟨_, rfl⟩
    refine lc_map (c := [.lst acc]) (fun d => match d with | .tup (d :: _) => d | _ => .non) (by show (okDs 1 acc && true) = true; rw [show okDs 1 acc = true from okDs_up _ ha]; rfl) _ ?_ ?_ ?_
    · intro d hd
      obtain ⟨s, hs', rfl⟩ := List.mem_map.mp hd
      exact ⟨rfl, fun acc Ψ _ h => h⟩
    · rw [List.length_map]; exact short (by have := hs.1; omega)
    · have e : (ss.map Sh.d).map (fun d => match d with | .tup (d :: _) => d | _ => .non) = ss.map fun s => D.str (one s.l) := by
        rw [List.map_map]; rfl
      rw [e]
      refine .inl ⟨_, rfl, rfl, ?_, h⟩
      rw [List.all_eq_true]
      intro x hx
      obtain ⟨s, _, rfl⟩ := List.mem_map.mp hx
      rfl
  · intro d hd _
    obtain ⟨k, rfl⟩ : ∃ x, d = .str x := by
      obtain ⟨k, _, rfl⟩ := List.mem_map.mp hd
      exact ⟨_, rfl⟩
    exact ⟨rfl, fun acc Ψ _ h => h⟩
  · decide +kernel
  · conv => whnf
    have e : [] ++ List.map id (List.filter (fun d => inF d (List.map (fun s => D.str (one s.l)) ss)) (chars (Str.ofString "xyz"))) = ((([120, 121, 122].filter (hasL ss)).map one).map .str : List D) := by
      have e1 : chars (Str.ofString "xyz") = [120, 121, 122].map fun k => D.str (one k) := by rfl
      rw [e1, List.filter_map, List.nil_append, List.map_id]
      have e2 : ((fun d => inF d (ss.map fun s => D.str (one s.l))) ∘ fun k => D.str (one k)) = hasL ss := by
        funext k
        have e3 : (ss.map fun s => D.str (one s.l)) = (ss.map fun s => one s.l).map D.str := by rw [List.map_map]; rfl
        show inF (.str (one k)) (ss.map fun s => D.str (one s.l)) = _
        rw [e3]
        exact inF_strs _ _
      rw [e2, List.map_map]
      rfl
    rw [e]
    refine ⟨_, txts_strs _, ?_, hΦ⟩
    have h1 : ([120, 121, 122].filter (hasL ss)).length ≤ 3 := List.length_filter_le _ _
    have h2 : ∀ l : List Nat, ((l.map one).map (·.length)).sum = l.length := fun l => by
      induction l with
      | nil => rfl
      | cons a l ih =>
        show (1 : Nat) + ((l.map one).map (·.length)).sum = l.length + 1
        rw [ih]; omega
    rw [h2, List.length_map, show (Str.ofString "").length = 0 from rfl]
    omega

set_option maxHeartbeats 8000000 in
theorem ok__law_due_of (T : Tx K mg) : FnOk P w K mg base CX0 3 T.a__law_due_of T.d__law_due_of ["_law_shuts_here"] (spD K 0 1 S__law_due_of) := by
  refine fnD T.F__law_due_of sc__law_due_of fun cdv A outer s H E hr => ⟨_, (psd_one (psd_ret (pd_lst (pds_cons (pd_callP (ok__law_plan T) (hr.mono (by decide)) T.g__law_plan T.F__law_plan.kp T.b__law_plan pass0 (pds_cons (pd_v 0) pds_nil)) (pds_cons (pd_v 0) (pds_cons (pd_callP (ok__law_letters T) (hr.mono (by decide)) T.g__law_letters T.F__law_letters.kp T.b__law_letters pass0 (pds_cons (pd_v 0) pds_nil)) (pds_cons (pd_callP (ok__law_plan T) (hr.mono (by decide)) T.g__law_plan T.F__law_plan.kp T.b__law_plan pass0 (pds_cons (pd_v 0) pds_nil)) (pds_cons (pd_len (pd_v 0) T.n_len) (pds_cons pd_bl pds_nil))))))))), ?_⟩
  rintro c ds Φ hc - ⟨ss, rfl, hs, hΦ⟩
  cases c with
  | cons _ _ => cases hc
  | nil =>
  conv => whnf
  have ok1 : okDs 0 [shsD ss] = true := shsD_ok ss
  refine ⟨rfl, ok1, ss, rfl, hs, ?_⟩
  conv => whnf
  refine ⟨rfl, ok1, ss, rfl, hs, ?_⟩
  conv => whnf
  refine ⟨rfl, ok1, ss, rfl, hs, ?_⟩
  conv => whnf
  refine ⟨by show 6 ≤ sizeLine; decide, ?_⟩
  have e : ((ss.map Sh.d).length : Int) = ss.length := by rw [List.length_map]
  show Φ (.lst [_, _, _, _, .int ((ss.map Sh.d).length : Nat), _]) []
  rw [e]
  exact hΦ

end
end K05

namespace K05
open PySem PySem.Spec PyProof.Rows L2 Cw

def B3 (a b k : Int) (lim : Int) : Prop := (0 ≤ a ∧ a < 2147483587) ∧ 0 ≤ b ∧ (0 ≤ k ∧ k ≤ lim)
theorem take_call {a b k m lim : Int} {rest : List Cell} {Φ : D → List Cell → Prop} (hB : B3 a b k lim) (hl : lim < 99999) (hm : 0 < m ∧ m < 1073741824)
    (h : ∀ v a' b', 0 ≤ v → v < m → B3 a' b' (k + 1) (lim + 1) → Φ (.int v) (spr a' b' (k + 1) :: rest)) : callM S__law_take [.cell 0, .int m] (spr a b k :: rest) Φ :=
  ⟨spr a b k, rfl, rfl, rfl, a, b, k, m, rfl, rfl, hB.1, hB.2.1, ⟨hB.2.2.1, by have := hB.2.2.2; omega⟩, hm, fun v a' b' h1 h2 h3 h4 h5 => ⟨rfl, rfl, h v a' b' h1 h2 ⟨⟨h3, h4⟩, h5, by have := hB.2.2.1; omega, by have := hB.2.2.2; omega⟩⟩⟩
def S__law_shuts : Pm := fun c ds Φ => ∃ a b k r, c = [spr a b k] ∧ ds = [.cell 0, .int 12, .int r, .int 9] ∧ B3 a b k 1000 ∧ (1 ≤ r ∧ r ≤ 3) ∧
  ∀ ss a' b' k', oks ss → ss ≠ [] → B3 a' b' k' (k + 49) → Φ (shsD ss) [spr a' b' k']
section
variable {P : Program} {w : World} {K : PySem.W.Frag} {mg : Str → Option Value} {base : Heap}
set_option maxHeartbeats 8000000 in
theorem ok__law_shuts (T : Tx K mg) : FnOk P w K mg base CX0 2 T.a__law_shuts T.d__law_shuts ["_law_spring_here", "_law_most_here", "_law_reach", "_law_lean"] (spD K 1 4 S__law_shuts) := by
  refine fnD T.F__law_shuts sc__law_shuts fun cdv A outer s H E hr => ⟨_, (psd_cons (psd_set (i := 4) sc__law_shuts.nd (pd_lstM pds_nil)) (psd_cons (psd_for PassesOwn.never rfl (pid_range1 (pd_add pd_int (pd_callM (ok__law_take T) (hr.mono (by decide)) T.g__law_take T.F__law_take.kp T.b__law_take pass0 (pds_cons (pd_v 0) (pds_cons (pd_v 1) pds_nil)))) T.n_range) (pgd_name (i := 5) sc__law_shuts.nd) (psd_cons (psd_set (i := 6) sc__law_shuts.nd (pd_ix (pd_lst (pds_cons pd_int (pds_cons (pd_sub (pd_callM (ok__law_take T) (hr.mono (by decide)) T.g__law_take T.F__law_take.kp T.b__law_take pass0 (pds_cons (pd_v 0) (pds_cons (pd_add (pd_mul pd_int (pd_v 3)) pd_int) pds_nil))) (pd_v 3)) pds_nil))) (pd_callM (ok__law_take T) (hr.mono (by decide)) T.g__law_take T.F__law_take.kp T.b__law_take pass0 (pds_cons (pd_v 0) (pds_cons pd_int pds_nil))))) (psd_one (psd_expr (pd_append (pd_v 4) (pd_tup (pds_cons (pd_ix pd_str (pd_callM (ok__law_take T) (hr.mono (by decide)) T.g__law_take T.F__law_take.kp T.b__law_take pass0 (pds_cons (pd_v 0) (pds_cons (pd_v 2) pds_nil)))) (pds_cons (pd_v 6) (pds_cons (pd_ix (pd_lst (pds_cons pd_str (pds_cons pd_str pds_nil))) (pd_callM (ok__law_take T) (hr.mono (by decide)) T.g__law_take T.F__law_take.kp T.b__law_take pass0 (pds_cons (pd_v 0) (pds_cons pd_int pds_nil)))) pds_nil))))))))) (psd_one (psd_ret (pd_tuplec (pd_v 4) T.n_tuple))))), ?_⟩
  rintro c ds Φ hc - ⟨a0, b0, k0, r, rfl, rfl, hB0, hr', hΦ⟩
  have hk0 := hB0.2.2
  conv => whnf
  refine ⟨Nat.zero_le _, ?_⟩
  conv => whnf
  refine ⟨rfl, ?_⟩
  refine take_call (lim := k0) (rest := [.lst []]) ⟨hB0.1, hB0.2.1, hB0.2.2.1, Int.le_refl _⟩ (by omega) (by decide) fun v a' b' h1 h2 hB' => ?_
  conv => whnf
  refine ⟨by omega, ?_⟩
  refine forD_inv (fun ds ρ c => ∃ (ss : List Sh) (a b k : Int) (x5 x6 : Option D), ρ = [some (.cell 0), some (.int 12), some (.int r), some (.int 9), some (.cell 1), x5, x6] ∧ c = [spr a b k, .lst (ss.map Sh.d)] ∧ ss.length + ds.length ≤ 12 ∧ (∀ s ∈ ss, s.ok) ∧ (ss ≠ [] ∨ ds ≠ []) ∧ B3 a b k (k0 + 49 - 4 * ds.length)) ?_ ?_ _ _ _ ?_
  · rintro ρ c ⟨ss, a, b, k, x5, x6, rfl, rfl, hl, hs, hn, hB⟩
    conv => whnf
    refine ⟨rfl, ?_⟩
    show okDs 1 (ss.map Sh.d) = true ∧ Φ (shsD ss) [spr a b k]
    refine ⟨okDs_up _ (shs_ok ss), hΦ ss a b k ⟨by simpa using hl, hs⟩ (hn.resolve_right fun z => z rfl) ?_⟩
    simpa using hB
  · rintro d ds ρ c F hF ⟨ss, a, b, k, x5, x6, rfl, rfl, hl, hs, hn, hB⟩
    have hl' : ss.length + (ds.length + 1) ≤ 12 := hl
    have hB : B3 a b k (k0 + 49 - 4 * ((ds.length : Int) + 1)) := by simpa using hB
    conv => whnf
    refine ⟨.inl (by decide), ?_⟩
    conv => whnf
    refine ⟨rfl, ?_⟩
    refine take_call (rest := [.lst (ss.map Sh.d)]) hB (by omega) (by decide) fun n a1 b1 n1 n2 hB1 => ?_
    conv => whnf
    refine ⟨by show 2 ≤ sizeLine; decide, ?_⟩
    conv => whnf
    refine ⟨rfl, ?_⟩
    refine take_call (rest := [.lst (ss.map Sh.d)]) hB1 (by omega) (by decide) fun w a2 b2 w1 w2 hB2 => ?_
    have leaf : ∀ s : Sh, s.ok → ∀ a b k x5 x6, B3 a b k (k0 + 49 - 4 * ds.length) → F [some (.cell 0), some (.int 12), some (.int r), some (.int 9), some (.cell 1), x5, x6] [spr a b k, .lst (ss.map Sh.d ++ [s.d])] := fun s hs1 a b k x5 x6 hB =>
      hF _ _ ⟨ss ++ [s], a, b, k, x5, x6, rfl, by rw [List.map_append]; rfl, by rw [List.length_append]; show ss.length + 1 + ds.length ≤ 12; omega, fun z hz => (List.mem_append.mp hz).elim (hs z) fun h => by rw [List.mem_singleton.mp h]; exact hs1, .inl (by simp), hB⟩
    have hlen : (ss.map Sh.d).length < sizeLine := by
      rw [List.length_map]; exact Nat.lt_of_le_of_lt (show ss.length ≤ 12 by omega) (by decide)
    have hw : w = 0 ∨ w = 1 := by omega
    rcases hw with rfl | rfl
    all_goals
      conv => whnf
      refine ⟨1, rfl, ⟨_, rfl⟩, ?_⟩
      conv => whnf
      refine ⟨rfl, ?_⟩
      refine take_call (rest := [.lst (ss.map Sh.d)]) hB2 (by omega) (by omega) fun u a3 b3 u1 u2 hB3 => ?_
      have hu : u = 0 ∨ u = 1 ∨ u = 2 := by omega
      rcases hu with rfl | rfl | rfl
      all_goals
        conv => whnf
        refine ⟨by show 3 ≤ sizeLine; decide, ?_⟩
        conv => whnf
        refine ⟨by show 2 ≤ sizeLine; decide, ?_⟩
        conv => whnf
        refine ⟨rfl, ?_⟩
        refine take_call (rest := [.lst (ss.map Sh.d)]) hB3 (by omega) (by decide) fun y a4 b4 y1 y2 hB4 => ?_
        have hB5 : B3 a4 b4 (k + 1 + 1 + 1 + 1) (k0 + 49 - 4 * ds.length) := ⟨hB4.1, hB4.2.1, hB4.2.2.1, by have := hB4.2.2.2; omega⟩
        have hy : y = 0 ∨ y = 1 := by omega
        rcases hy with rfl | rfl
        all_goals
          conv => whnf
          refine ⟨by show 3 ≤ sizeLine; decide, ?_⟩
          conv => whnf
          refine ⟨_, rfl, hlen, ?_⟩
          conv => whnf
          first
            | exact leaf ⟨120, 0, true⟩ ⟨by decide, by decide, by decide⟩ _ _ _ _ _ hB5
            | exact leaf ⟨121, 0, true⟩ ⟨by decide, by decide, by decide⟩ _ _ _ _ _ hB5
            | exact leaf ⟨122, 0, true⟩ ⟨by decide, by decide, by decide⟩ _ _ _ _ _ hB5
            | exact leaf ⟨120, 0, false⟩ ⟨by decide, by decide, by decide⟩ _ _ _ _ _ hB5
            | exact leaf ⟨121, 0, false⟩ ⟨by decide, by decide, by decide⟩ _ _ _ _ _ hB5
            | exact leaf ⟨122, 0, false⟩ ⟨by decide, by decide, by decide⟩ _ _ _ _ _ hB5
            | exact leaf ⟨120, n - 9, true⟩ ⟨by show _ = _ ∨ _ = _ ∨ _ = _; simp, by show -9 ≤ n - 9; omega, by show n - 9 ≤ 9; omega⟩ _ _ _ _ _ hB5
            | exact leaf ⟨121, n - 9, true⟩ ⟨by show _ = _ ∨ _ = _ ∨ _ = _; simp, by show -9 ≤ n - 9; omega, by show n - 9 ≤ 9; omega⟩ _ _ _ _ _ hB5
            | exact leaf ⟨122, n - 9, true⟩ ⟨by show _ = _ ∨ _ = _ ∨ _ = _; simp, by show -9 ≤ n - 9; omega, by show n - 9 ≤ 9; omega⟩ _ _ _ _ _ hB5
            | exact leaf ⟨120, n - 9, false⟩ ⟨by show _ = _ ∨ _ = _ ∨ _ = _; simp, by show -9 ≤ n - 9; omega, by show n - 9 ≤ 9; omega⟩ _ _ _ _ _ hB5
            | exact leaf ⟨121, n - 9, false⟩ ⟨by show _ = _ ∨ _ = _ ∨ _ = _; simp, by show -9 ≤ n - 9; omega, by show n - 9 ≤ 9; omega⟩ _ _ _ _ _ hB5
            | exact leaf ⟨122, n - 9, false⟩ ⟨by show _ = _ ∨ _ = _ ∨ _ = _; simp, by show -9 ≤ n - 9; omega, by show n - 9 ≤ 9; omega⟩ _ _ _ _ _ hB5
  · refine ⟨[], a', b', k0 + 1, none, none, rfl, rfl, ?_, (by intro s hs; cases hs), Or.inr ?_, ?_⟩
    · rw [rng_len]; show 0 + _ ≤ 12; omega
    · intro z
      have := congrArg List.length z
      rw [rng_len] at this
      simp at this; omega
    · refine ⟨hB'.1, hB'.2.1, by omega, ?_⟩
      rw [rng_len]; omega

end
end K05

namespace K05
open PySem PySem.Spec PyProof.Rows L2 Cw

def intsD (ns : List Int) : D := .fl (ns.map .int)
def S__law_spring : Pn := fun ds Φ => ∃ ns at_, ds = [intsD ns, .int at_] ∧ (0 ≤ at_ ∧ at_ ≤ 100) ∧ ns.length ≤ 63 ∧ ∀ a b : Int, (0 ≤ a ∧ a < 2147483587) → 0 ≤ b → Φ [.int a, .int b, .int 0]
theorem spring_tail {Φ : List D → Prop} {ns : List Int} {at_ own mix : Int} {x4 : Option D} (ha : 0 ≤ at_ ∧ at_ ≤ 100) (hm : 0 ≤ mix ∧ mix < 2147483587) (hΦ : ∀ (a b : Int), 0 ≤ a ∧ a < 2147483587 → 0 ≤ b → Φ [D.int a, D.int b, D.int 0]) :
    dRet (dLstM (dCons (dBin fMod (dCB (un1 fInt) (dCons (dBin fAdd (dBin fAdd (dBin fMul (dVar 3) (dC (.int 48271))) (dBin fMul (dC (.int 977)) (dVar 1))) (dC (.int 13))) dNil)) (dC (.int 2147483587)))
      (dCons (dIf (dOr (dT (dBin fLt (dVar 2) (dC (.int 0)))) (dT (dBin fGe (dVar 2) (dBin fPow (dC (.int 10)) (dC (.int 18)))))) (dCB (un1 fAbs) (dCons (dVar 2) dNil)) (dC (.int 0))) (dCons (dC (.int 0)) dNil))))
      ⟨fun _ _ => False, retN Φ, fun _ _ => False, fun _ _ => False⟩ [some (intsD ns), some (.int at_), some (.int own), some (.int mix), x4] [] := by
  conv => whnf
  ((refine ⟨?num, ?_⟩); (case num => first | omega | (left; omega) | (right; omega)); (conv => whnf))
  ((refine ⟨?num, ?_⟩); (case num => first | omega | (left; omega) | (right; omega)); (conv => whnf))
  ((refine ⟨?num, ?_⟩); (case num => first | omega | (left; omega) | (right; omega)); (conv => whnf))
  have fin : ∀ b : Int, 0 ≤ b → [D.int ((mix * 48271 + 977 * at_ + 13) % 2147483587), D.int b, D.int 0].length ≤ sizeLine ∧ retN Φ (.cell 0) [.lst [D.int ((mix * 48271 + 977 * at_ + 13) % 2147483587), D.int b, D.int 0]] := fun b hb =>
    ⟨by show 3 ≤ sizeLine; decide, _, rfl, rfl, hΦ _ b ⟨Int.emod_nonneg _ (by decide), Int.emod_lt_of_pos _ (by decide)⟩ hb⟩
  split
  · conv => whnf
    refine fin _ ?_
    split <;> omega
  · rename_i he
    have he : ¬ own < 0 := of_decide_eq_false he
    conv => whnf
    refine ⟨by decide, ?_⟩
    conv => whnf
    split
    · conv => whnf
      refine fin _ ?_
      split <;> omega
    · conv => whnf
      exact fin 0 (by decide)
section
variable {P : Program} {w : World} {K : PySem.W.Frag} {mg : Str → Option Value} {base : Heap}
set_option maxHeartbeats 8000000 in
theorem ok__law_spring (T : Tx K mg) : FnOk P w K mg base CX0 1 T.a__law_spring T.d__law_spring ["_law_cells", "_law_at"] (spN K 2 S__law_spring) := by
  refine fnN T.F__law_spring sc__law_spring fun cdv A outer s H E hr => ⟨_, (psd_cons (psd_set (i := 2) sc__law_spring.nd (pd_if (pdt_lt (pd_v 1) (pd_len (pd_v 0) T.n_len)) (pd_ix (pd_v 0) (pd_v 1)) (pd_add (pd_mul pd_int (pd_v 1)) pd_int))) (psd_cons (psd_set (i := 3) sc__law_spring.nd (pd_mod (pd_intc (pd_v 2) T.n_int) pd_int)) (psd_cons (psd_if (pdt_ge (pd_v 1) (pd_len (pd_v 0) T.n_len)) (psd_one (psd_for PassesOwn.never rfl (pid_list (pd_sl (pd_v 0) po_no (po_so pd_int))) (pgd_name (i := 4) sc__law_spring.nd) (psd_one (psd_set (i := 3) sc__law_spring.nd (pd_mod (pd_intc (pd_add (pd_mul (pd_v 3) pd_int) (pd_v 4)) T.n_int) pd_int))))) psd_nil) (psd_one (psd_ret (pd_lstM (pds_cons (pd_mod (pd_intc (pd_add (pd_add (pd_mul (pd_v 3) pd_int) (pd_mul pd_int (pd_v 1))) pd_int) T.n_int) pd_int) (pds_cons (pd_if (PDw.pt (pdw_or (pdt_lt (pd_v 2) pd_int) (pdw_or1 (pdt_ge (pd_v 2) (pd_pow pd_int pd_int))))) (pd_abs (pd_v 2) T.n_abs) pd_int) (pds_cons pd_int pds_nil))))))))), ?_⟩
  rintro ds Φ - ⟨ns, at_, rfl, ha, hl, hΦ⟩
  conv => whnf
  split
  · rename_i he
    have hlt : at_ < ns.length := by have := of_decide_eq_true he; simpa using this
    have hj : ∃ j, at_ = (j : Nat) := ⟨at_.toNat, by omega⟩
    obtain ⟨j, rfl⟩ := hj
    have hj : j < ns.length := by omega
    have e1 : ixN (ns.map D.int).length (j : Int) = some j := by
      unfold ixN
      rw [List.length_map, if_pos (by omega), if_pos (by omega)]
      rfl
    have e2 : atI (ns.map D.int) (j : Int) = some (.int ns[j]) := by
      unfold atI
      rw [e1]
      show (ns.map D.int)[j]? = _
      rw [List.getElem?_map, List.getElem?_eq_getElem hj]
      rfl
    conv => whnf
    rw [e2]
    generalize ns[j] = own
    conv => whnf
    refine ⟨by decide, ?_⟩
    conv => whnf
    have hm := Int.emod_nonneg own (show (2147483587 : Int) ≠ 0 by decide)
    have hm' := Int.emod_lt_of_pos own (show (0 : Int) < 2147483587 by decide)
    generalize own % 2147483587 = mix0 at *
    have e3 : decide ((((ns.map D.int).length : Nat) : Int) ≤ (j : Int)) = false := decide_eq_false (by rw [List.length_map]; omega)
    split
    · rename_i h3
      exact absurd (e3.symm.trans h3) (by decide)
    · exact spring_tail ha ⟨hm, hm'⟩ hΦ
  · rename_i he
    have hge : ns.length ≤ at_ := by have := of_decide_eq_false he; simpa using this
    conv => whnf
    refine ⟨.inl (by decide), ?_⟩
    conv => whnf
    refine ⟨by decide, ?_⟩
    conv => whnf
    have hm := Int.emod_nonneg (11 * at_ + 5) (show (2147483587 : Int) ≠ 0 by decide)
    have hm' := Int.emod_lt_of_pos (11 * at_ + 5) (show (0 : Int) < 2147483587 by decide)
    have e2 : decide ((((ns.map D.int).length : Nat) : Int) ≤ at_) = true := decide_eq_true (by rw [List.length_map]; exact hge)
    generalize (11 * at_ + 5) % 2147483587 = mix0 at *
    split
    · conv => whnf
      refine forD_inv (fun ds ρ c => c = [] ∧ (∃ (mix : Int) (x4 : Option D), ρ = [some (intsD ns), some (.int at_), some (.int (11 * at_ + 5)), some (.int mix), x4] ∧ 0 ≤ mix ∧ mix < 2147483587) ∧ ∀ d ∈ ds, ∃ i : Int, d = .int i) ?_ ?_ _ _ _ ?_
      · rintro ρ c ⟨rfl, ⟨mix, x4, rfl, h1, h2⟩, -⟩
        exact spring_tail ha ⟨h1, h2⟩ hΦ
      · rintro d ds ρ c F hF ⟨rfl, ⟨mix, x4, rfl, h1, h2⟩, hi⟩
        obtain ⟨i, rfl⟩ := hi d List.mem_cons_self
        conv => whnf
        ((refine ⟨?num, ?_⟩); (case num => first | omega | (left; omega) | (right; omega)); (conv => whnf))
        ((refine ⟨?num, ?_⟩); (case num => first | omega | (left; omega) | (right; omega)); (conv => whnf))
        exact hF _ _ ⟨rfl, ⟨_, _, rfl, Int.emod_nonneg _ (by decide), Int.emod_lt_of_pos _ (by decide)⟩, fun d hd => hi d (List.mem_cons_of_mem _ hd)⟩
      · refine ⟨rfl, ⟨mix0, none, rfl, hm, hm'⟩, fun d hd => ?_⟩
        have hd := List.mem_of_mem_drop (List.mem_of_mem_take hd)
        obtain ⟨i, _, rfl⟩ := List.mem_map.mp hd
        exact ⟨i, rfl⟩
    · rename_i h3
      exact absurd (e2.symm.trans h3) (by decide)

end
end K05

namespace K05
open PySem PySem.Spec PyProof.Rows L2 Cw

def plusOf (t : Str) : Option Int := if t = "" then some 0 else match numberOf (cutS t (some 1) none) 1 9, atI t.cps.toList 0 with
  | some n, some k => if k ∈ ("+-" : Str).cps.toList then some (if one k = "+" then n else -n) else none
  | _, _ => none
def S_plus_of : Pm := fun c ds Φ => ∃ t, ds = [.str t] ∧ t.length ≤ 5000 ∧ Φ (optI (plusOf t)) c
theorem cut_len (t : Str) (lo hi : Option Int) : (cutS t lo hi).length ≤ t.length := by
  show (((t.cps.toList.drop _).take _).toArray).size ≤ t.cps.size
  rw [List.size_toArray, List.length_take, List.length_drop, Array.length_toList]
  omega
theorem at0 {t : Str} (h : ¬ t = "") : ∃ k, atI t.cps.toList 0 = some k := by
  cases e : t.cps.toList with
  | nil =>
    refine absurd ?_ h
    cases t with | mk a => 
      have : a = #[] := by
        apply Array.ext'
        exact e
      subst this; rfl
  | cons k r =>
    refine ⟨k, ?_⟩
    unfold atI ixN
    rw [if_pos (by decide), if_pos (by simp)]
    rfl
section
variable {P : Program} {w : World} {K : PySem.W.Frag} {mg : Str → Option Value} {base : Heap}
set_option maxHeartbeats 8000000 in
theorem ok_plus_of (T : Tx K mg) : FnOk P w K mg base CX0 2 T.a_plus_of T.d_plus_of ["text"] (spD K 0 1 S_plus_of) := by
  refine fnD T.F_plus_of sc_plus_of fun cdv A outer s H E hr => ⟨_, (psd_cons (psd_if (pdt_eq hr (pd_v 0) pd_str) (psd_one (psd_ret pd_int)) psd_nil) (psd_cons (psd_set (i := 1) sc_plus_of.nd (pd_callP (ok_number_of T) (hr.mono (by decide)) T.g_number_of T.F_number_of.kp T.b_number_of pass0 (pds_cons (pd_sl (pd_v 0) (po_so pd_int) po_no) (pds_cons pd_int (pds_cons (pd_gi T.c_MOST_PLUS) pds_nil))))) (psd_cons (psd_if (PDw.pt (pdw_or (pdt_isn (pd_v 1) pd_non) (pdw_or1 (pdt_nin hr (pd_ix (pd_v 0) pd_int) pd_str)))) (psd_one (psd_ret pd_non)) psd_nil) (psd_one (psd_ret (pd_if (pdt_eq hr (pd_ix (pd_v 0) pd_int) pd_str) (pd_v 1) (pd_neg (pd_v 1)))))))), ?_⟩
  rintro c ds Φ hc - ⟨t, rfl, ht, hΦ⟩
  cases c with
  | cons _ _ => cases hc
  | nil =>
  conv => whnf
  split
  · rename_i he
    have he : t = "" := of_decide_eq_true he
    conv => whnf
    have : plusOf t = some 0 := by unfold plusOf; rw [if_pos he]
    rw [this] at hΦ
    exact hΦ
  · rename_i he
    have he : ¬ t = "" := of_decide_eq_false he
    conv => whnf
    refine ⟨Nat.le_trans ht (by decide), ?_⟩
    conv => whnf
    refine ⟨rfl, rfl, _, 1, 9, rfl, Nat.le_trans (cut_len _ _ _) ht, ?_⟩
    have hk : ∃ k, atI t.cps.toList 0 = some k := at0 he
    obtain ⟨k, hk⟩ := hk
    cases e : numberOf (cutS t (some 1) none) 1 9 with
    | none =>
      conv => whnf
      have : plusOf t = none := by unfold plusOf; rw [if_neg he, e]
      rw [this] at hΦ
      exact hΦ
    | some n =>
      conv => whnf
      refine ⟨Nat.le_trans ht (by decide), ?_⟩
      conv => whnf
      rw [hk]
      conv => whnf
      have e2 : plusOf t = if k ∈ ("+-" : Str).cps.toList then some (if one k = "+" then n else -n) else none := by unfold plusOf; rw [if_neg he, e, hk]
      split
      · rename_i h2
        have h2 : ¬ k ∈ ("+-" : Str).cps.toList := by simpa [inS] using h2
        rw [e2, if_neg h2] at hΦ
        exact hΦ
      · rename_i h2
        have h2 : k ∈ ("+-" : Str).cps.toList := by simpa [inS] using h2
        rw [e2, if_pos h2] at hΦ
        conv => whnf
        refine ⟨Nat.le_trans ht (by decide), ?_⟩
        conv => whnf
        rw [hk]
        conv => whnf
        split
        · rename_i h3
          rw [if_pos (of_decide_eq_true h3)] at hΦ
          exact hΦ
        · rename_i h3
          rw [if_neg (of_decide_eq_false h3)] at hΦ
          exact hΦ

end
end K05

namespace K05
open PySem PySem.Spec PyProof.Rows L2 Cw

theorem spl_len (S : List Nat) : ∀ (l : List Nat) (k : Nat) (acc : List Nat), ∀ p ∈ TL.spl S k acc l, p.length ≤ acc.length + l.length
  | [], k, acc, p, h => by
    rw [TL.spl_nil] at h
    rw [List.mem_singleton.mp h]; simp
  | c :: r, 0, acc, p, h => by
    cases e : TL.pre S (c :: r) with
    | true =>
      rw [TL.spl_hit e] at h
      rcases List.mem_cons.mp h with rfl | h
      · simp
      · have := spl_len S r _ _ p h
        simp at this ⊢; omega
    | false =>
      rw [TL.spl_miss e] at h
      have := spl_len S r _ _ p h
      simp at this ⊢; omega
  | c :: r, k + 1, acc, p, h => by
    have := spl_len S r k acc p h
    simp at this ⊢; omega
theorem split_len {t y : Str} (hy : TL.tl y ≠ []) (hk : y.cps.all (· < 256) = true) {p : Str} (h : p ∈ Txt.split t y) : p.length ≤ t.length := by
  have h1 : TL.tl p ∈ TL.spl (TL.tl y) 0 [] (TL.tl t) := by
    rw [← TL.split_spl t y hy (TL.kind_ok hk)]
    exact List.mem_map.mpr ⟨p, h, rfl⟩
  have := spl_len _ _ _ _ _ h1
  rw [TL.len_tl, TL.len_tl]
  simpa using this
theorem nd_t {P : Prop} [Decidable P] (h : (!decide P) = true) : ¬ P := fun hp => by rw [decide_eq_true hp] at h; cases h
theorem nd_f {P : Prop} [Decidable P] (h : (!decide P) = false) : P := Decidable.byContradiction fun hp => by rw [decide_eq_false hp] at h; cases h
def sideOf (t : Str) : Option (Nat × Int × Str) := match Txt.split t " " with
  | [a, b] => if cutS a none (some 1) ∈ (["x", "y", "z"] : List Str) ∧ b ∈ (["out", "in"] : List Str) then match plusOf (cutS a (some 1) none), atI a.cps.toList 0 with
    | some n, some k => some (k, n, b)
    | _, _ => none else none
  | _ => none
def sideD : Option (Nat × Int × Str) → D
  | none => .non
  | some (k, n, b) => .tup [.str (one k), .int n, .str b]
def S_side_of : Pm := fun c ds Φ => ∃ t, ds = [.str t] ∧ t.length ≤ 5000 ∧ Φ (sideD (sideOf t)) c
section
variable {P : Program} {w : World} {K : PySem.W.Frag} {mg : Str → Option Value} {base : Heap}
set_option maxHeartbeats 8000000 in
theorem ok_side_of (T : Tx K mg) : FnOk P w K mg base CX0 3 T.a_side_of T.d_side_of ["text"] (spD K 0 1 S_side_of) := by
  refine fnD T.F_side_of sc_side_of fun cdv A outer s H E hr => ⟨_, (psd_cons (psd_set (i := 1) sc_side_of.nd (pd_split (pd_v 0) pd_str)) (psd_cons (psd_if (PDw.pt (pdw_or (pdt_ne hr (pd_len (pd_v 1) T.n_len) pd_int) (pdw_or (pdt_nin hr (pd_sl (pd_ix (pd_v 1) pd_int) po_no (po_so pd_int)) (pd_gtt T.c_SIDE_LETTERS)) (pdw_or1 (pdt_nin hr (pd_ix (pd_v 1) pd_int) (pd_gtt T.c_TURNS)))))) (psd_one (psd_ret pd_non)) psd_nil) (psd_cons (psd_set (i := 2) sc_side_of.nd (pd_callP (ok_plus_of T) (hr.mono (by decide)) T.g_plus_of T.F_plus_of.kp T.b_plus_of pass0 (pds_cons (pd_sl (pd_ix (pd_v 1) pd_int) (po_so pd_int) po_no) pds_nil))) (psd_cons (psd_if (pdt_isn (pd_v 2) pd_non) (psd_one (psd_ret pd_non)) psd_nil) (psd_one (psd_ret (pd_tup (pds_cons (pd_ix (pd_ix (pd_v 1) pd_int) pd_int) (pds_cons (pd_v 2) (pds_cons (pd_ix (pd_v 1) pd_int) pds_nil)))))))))), ?_⟩
  rintro c ds Φ hc - ⟨t, rfl, ht, hΦ⟩
  cases c with
  | cons _ _ => cases hc
  | nil =>
  conv => whnf
  refine ⟨t, rfl, ?_⟩
  conv => whnf
  refine ⟨rfl, Nat.le_trans (Nat.add_le_add_right ht 2) (by decide), ?_⟩
  have hlen : ∀ p ∈ Txt.split t " ", p.length ≤ 5000 := fun p hp => Nat.le_trans (split_len (by decide +kernel) (by decide +kernel) hp) ht
  have no : (∀ a b, Txt.split t " " ≠ [a, b]) → sideOf t = none := fun h => by
    unfold sideOf
    split
    · rename_i a b e
      exact absurd e (h a b)
    · rfl
  have yes : ∀ a b, Txt.split t " " = [a, b] → sideOf t = if cutS a none (some 1) ∈ (["x", "y", "z"] : List Str) ∧ b ∈ (["out", "in"] : List Str) then match plusOf (cutS a (some 1) none), atI a.cps.toList 0 with
    | some n, some k => some (k, n, b)
    | _, _ => none else none := fun a b h => by
    unfold sideOf
    rw [h]
  have e0 : Txt.split t (Str.ofString " ") = Txt.split t " " := rfl
  rw [e0]
  generalize Txt.split t " " = ws at *
  have bad : (∀ a b, ws ≠ [a, b]) → Φ .non [] := fun h => by
    rw [no h] at hΦ; exact hΦ
  match ws, hlen, yes, bad with
  | [], _, _, bad =>
    conv => whnf
    exact bad fun _ _ e => by cases e
  | [a], _, _, bad =>
    conv => whnf
    exact bad fun _ _ e => by cases e
  | a :: b :: x :: r, _, _, bad =>
    conv => whnf
    exact bad fun _ _ e => by cases e
  | [a, b], hlen, yes, bad =>
    have ha := hlen a (by simp)
    have hb := hlen b (by simp)
    have yes := yes a b rfl
    conv => whnf
    refine ⟨Nat.le_trans ha (by decide), ?_⟩
    conv => whnf
    refine .inl ⟨_, rfl, rfl, rfl, ?_⟩
    conv => whnf
    split
    · rename_i h1
      have h1 : ¬ cutS a none (some 1) ∈ (["x", "y", "z"] : List Str) := by
        have h1 : (!inF (.str (cutS a none (some 1))) ((["x", "y", "z"] : List Str).map .str)) = true := h1
        rw [inF_strs] at h1
        exact nd_t h1
      rw [yes, if_neg fun z => h1 z.1] at hΦ
      conv => whnf
      exact hΦ
    · rename_i h1
      have h1 : cutS a none (some 1) ∈ (["x", "y", "z"] : List Str) := by
        have h1 : (!inF (.str (cutS a none (some 1))) ((["x", "y", "z"] : List Str).map .str)) = false := h1
        rw [inF_strs] at h1
        exact nd_f h1
      conv => whnf
      refine .inl ⟨_, rfl, rfl, rfl, ?_⟩
      conv => whnf
      split
      · rename_i h2
        have h2 : ¬ b ∈ (["out", "in"] : List Str) := by
          have h2 : (!inF (.str b) ((["out", "in"] : List Str).map .str)) = true := h2
          rw [inF_strs] at h2
          exact nd_t h2
        rw [yes, if_neg fun z => h2 z.2] at hΦ
        conv => whnf
        exact hΦ
      · rename_i h2
        have h2 : b ∈ (["out", "in"] : List Str) := by
          have h2 : (!inF (.str b) ((["out", "in"] : List Str).map .str)) = false := h2
          rw [inF_strs] at h2
          exact nd_f h2
        rw [yes, if_pos ⟨h1, h2⟩] at hΦ
        conv => whnf
        refine ⟨Nat.le_trans ha (by decide), ?_⟩
        conv => whnf
        refine ⟨rfl, rfl, _, rfl, Nat.le_trans (cut_len _ _ _) ha, ?_⟩
        have hk : ∃ k, atI a.cps.toList 0 = some k := at0 (by
          rintro rfl
          revert h1
          decide +kernel)
        obtain ⟨k, hk⟩ := hk
        cases e : plusOf (cutS a (some 1) none) with
        | none =>
          rw [e] at hΦ
          conv => whnf
          exact hΦ
        | some n =>
          rw [e, hk] at hΦ
          conv => whnf
          refine ⟨Nat.le_trans ha (by decide), ?_⟩
          conv => whnf
          rw [hk]
          conv => whnf
          refine ⟨by show 3 ≤ sizeLine; decide, ?_⟩
          conv => whnf
          exact hΦ

end
end K05

namespace K05
open PySem PySem.Spec PyProof.Rows L2 Cw

theorem plus_more {n : Int} (h : -9 ≤ n ∧ n ≤ 9) : plusOf (moreS n) = some n := nine (P := fun n => plusOf (moreS n) = some n) h (by decide +kernel)
theorem more_tl {n : Int} (h : -9 ≤ n ∧ n ≤ 9) : 32 ∉ TL.tl (moreS n) ∧ 44 ∉ TL.tl (moreS n) := nine (P := fun n => 32 ∉ TL.tl (moreS n) ∧ 44 ∉ TL.tl (moreS n)) h (by decide +kernel)
theorem row_join (s : Sh) : s.row = Txt.join " " [one s.l ++ moreS s.n, bendS s.o] := by
  refine TL.ext_tl ?_
  rw [TL.join_eq, TL.tl_join]
  unfold Sh.row
  rw [TL.tl_append, TL.tl_append]
  show (TL.tl _ ++ TL.tl _) ++ TL.tl _ = TL.tl _ ++ (TL.tl _ ++ TL.tl _)
  rw [List.append_assoc]
theorem row_split {s : Sh} (h : s.ok) : Txt.split s.row " " = [one s.l ++ moreS s.n, bendS s.o] := by
  rw [row_join]
  refine TL.split_join (s := 32) (S := []) (by decide +kernel) (by decide +kernel) (by simp) fun p hp => ?_
  rcases List.mem_cons.mp hp with rfl | hp
  · rw [TL.tl_append]
    intro z
    rcases List.mem_append.mp z with z | z
    · have z : 32 ∈ [s.l] := z
      have := List.mem_singleton.mp z
      have := h.1; omega
    · exact (more_tl h.2).1 z
  · rw [List.mem_singleton.mp hp]
    cases s.o <;> decide +kernel
theorem one_cut (l : Nat) (z : Str) : cutS (one l ++ z) none (some 1) = one l ∧ cutS (one l ++ z) (some 1) none = z ∧ atI (one l ++ z).cps.toList 0 = some l := by
  have e : (one l ++ z).cps.toList = l :: z.cps.toList := TL.tl_append (one l) z
  have el : (one l ++ z).length = z.length + 1 := by rw [Str.length_append]; show 1 + _ = _; omega
  refine ⟨TL.ext_tl ?_, TL.ext_tl ?_, ?_⟩
  · show ((((one l ++ z).cps.toList).drop _).take _) = [l]
    rw [e, el]
    show ((l :: z.cps.toList).drop 0).take (min 1 (z.length + 1) - 0) = [l]
    rw [show min 1 (z.length + 1) - 0 = 1 by omega]
    rfl
  · show ((((one l ++ z).cps.toList).drop _).take _) = z.cps.toList
    rw [e, el]
    show ((l :: z.cps.toList).drop (min 1 (z.length + 1))).take ((z.length + 1) - min 1 (z.length + 1)) = z.cps.toList
    rw [show min 1 (z.length + 1) = 1 by omega]
    show z.cps.toList.take (z.length + 1 - 1) = _
    rw [List.take_of_length_le]
    rw [Array.length_toList]
    exact Nat.le_refl _
  · unfold atI ixN
    rw [e, if_pos (by decide), if_pos (by simp)]
    rfl
theorem side_row {s : Sh} (h : s.ok) : sideOf s.row = some (s.l, s.n, bendS s.o) := by
  unfold sideOf
  rw [row_split h]
  obtain ⟨h1, h2, h3⟩ := one_cut s.l (moreS s.n)
  dsimp only
  rw [h1, h2, h3, plus_more h.2, if_pos]
  refine ⟨?_, ?_⟩
  · rcases h.1 with e | e | e <;> rw [e] <;> decide +kernel
  · cases s.o <;> decide +kernel
theorem row_comma {s : Sh} (h : s.ok) : 44 ∉ TL.tl s.row := by
  unfold Sh.row
  rw [TL.tl_append, TL.tl_append, TL.tl_append]
  intro z
  rcases List.mem_append.mp z with z | z
  · rcases List.mem_append.mp z with z | z
    · rcases List.mem_append.mp z with z | z
      · have z : 44 ∈ [s.l] := z
        have := List.mem_singleton.mp z
        have := h.1; omega
      · exact (more_tl h.2).2 z
    · revert z; decide +kernel
  · revert z
    cases s.o <;> decide +kernel
theorem plan_split {ss : List Sh} (h : oks ss) (hn : ss ≠ []) : Txt.split (planS ss) ", " = ss.map Sh.row :=
  TL.split_join (s := 44) (S := [32]) (by decide +kernel) (by decide +kernel) (fun z => hn (List.map_eq_nil_iff.mp z)) fun p hp => by
    obtain ⟨s, hs, rfl⟩ := List.mem_map.mp hp
    exact row_comma (h.2 s hs)
end K05

namespace K05
open PySem PySem.Spec PyProof.Rows L2 Cw

theorem joinL_len (S : List Nat) : ∀ ps : List (List Nat), (TL.joinL S ps).length ≤ (ps.map List.length).sum + ps.length * S.length
  | [] => Nat.zero_le _
  | [p] => by
    show p.length ≤ (p.length + 0) + 1 * S.length
    omega
  | p :: q :: r => by
    have ih := joinL_len S (q :: r)
    show (p ++ (S ++ TL.joinL S (q :: r))).length ≤ (p.length + ((q :: r).map List.length).sum) + ((q :: r).length + 1) * S.length
    rw [List.length_append, List.length_append, Nat.add_mul]
    omega
theorem join_len (y : Str) (ps : List Str) : (Txt.join y ps).length ≤ (ps.map (·.length)).sum + ps.length * y.length := by
  rw [TL.len_tl, TL.join_eq, TL.tl_join]
  have h := joinL_len (TL.tl y) (ps.map TL.tl)
  rw [List.map_map, List.length_map] at h
  have e : ps.map (List.length ∘ TL.tl) = ps.map (·.length) := List.map_congr_left fun p _ => (TL.len_tl p).symm
  rw [e, ← TL.len_tl] at h
  exact h
theorem plan_len {ss : List Sh} (h : oks ss) : (planS ss).length ≤ 200 := by
  have h1 := join_len (", " : Str) (ss.map Sh.row)
  have h2 := rows_len h.2
  have h3 : (", " : Str).length = 2 := by decide
  have h4 := h.1
  rw [List.length_map, h3] at h1
  unfold planS
  omega
def Sh.py (s : Sh) : PyData := .tuple [.str (one s.l), .int s.n, .str (bendS s.o)]
theorem pys_shs : ∀ ss : List Sh, D.pys (ss.map Sh.d) = some (ss.map Sh.py)
  | [] => rfl
  | s :: ss => by
    show (match D.py s.d, D.pys (ss.map Sh.d) with | some p, some ps => some (p :: ps) | _, _ => none) = _
    rw [pys_shs ss]; rfl
theorem lay_shs : ∀ {ss : List Sh}, (∀ s ∈ ss, s.ok) → PyData.canLayAll0 (ss.map Sh.py) = true
  | [], _ => rfl
  | s :: ss, h => by
    have h1 : s.py.canLay0 = true := by
      have hl := (h s List.mem_cons_self).1
      show (PyData.strOk (one s.l) && (true && (PyData.strOk (bendS s.o) && true))) = true
      have e1 : PyData.strOk (one s.l) = true := by rcases hl with e | e | e <;> rw [e] <;> decide +kernel
      have e2 : PyData.strOk (bendS s.o) = true := by cases s.o <;> decide +kernel
      rw [e1, e2]; rfl
    show (s.py.canLay0 && PyData.canLayAll0 (ss.map Sh.py)) = true
    rw [h1, lay_shs fun x hx => h x (List.mem_cons_of_mem s hx)]; rfl
theorem dep_shs : ∀ ss : List Sh, PyData.depthAll (ss.map Sh.py) ≤ 1
  | [] => Nat.zero_le _
  | s :: ss => by
    show max 1 (PyData.depthAll (ss.map Sh.py)) ≤ 1
    have := dep_shs ss
    omega
theorem shaped_shs {ss : List Sh} (h : ∀ s ∈ ss, s.ok) : SeqAt.shaped (.list (ss.map Sh.py)) = true := by
  show (PyData.canLayAll0 (ss.map Sh.py) && decide (PyData.depthAll (ss.map Sh.py) + 1 ≤ 64)) = true
  have := dep_shs ss
  rw [lay_shs h, decide_eq_true (by omega)]; rfl
theorem any_shs (ss : List Sh) : ((ss.map Sh.py).any fun z => PyData.eqv z .none) = false := by
  rw [List.any_eq_false]
  intro x hx
  obtain ⟨s, _, rfl⟩ := List.mem_map.mp hx
  have e : s.py.eqv .none = false := rfl
  rw [e]; decide
def S_sides_of : Pm := fun c ds Φ => ∃ ss, ds = [.str (planS ss)] ∧ oks ss ∧ ss ≠ [] ∧ Φ (shsD ss) c
section
variable {P : Program} {w : World} {K : PySem.W.Frag} {mg : Str → Option Value} {base : Heap}
set_option maxHeartbeats 8000000 in
theorem ok_sides_of (T : Tx K mg) : FnOk P w K mg base CX0 4 T.a_sides_of T.d_sides_of ["text"] (spD K 0 1 S_sides_of) := by
  refine fnD T.F_sides_of sc_sides_of fun cdv A outer s H E hr => ⟨_, (psd_cons (psd_if (pdt_not (pdt_val (pd_isi isi_str (.ty "str") (pd_v 0) (pe_bltn rfl T.n_str (by decide +kernel) rfl) T.n_isinstance))) (psd_one (psd_ret pd_non)) psd_nil) (psd_cons (psd_set (i := 1) sc_sides_of.nd (pd_tuplec (pd_lc (i := 2) rfl sc_sides_of.nd (pid_list (pd_split (pd_v 0) pd_str)) (by kernel_rfl) (fun _ _ _ _ _ => pg_name (i := 2) sc_sides_of.nd rfl (Or.inl rfl)) (fun _ _ _ _ _ => ptd_nil) (fun _ _ _ _ _ => (pd_callP (ok_side_of T) (hr.mono (by decide)) T.g_side_of T.F_side_of.kp T.b_side_of pass0 (pds_cons (pd_v 2) pds_nil)))) T.n_tuple)) (psd_cons (psd_if (PDw.pt (pdw_or (pdt_gt (pd_len (pd_v 1) T.n_len) (pd_gi T.c_MOST_SIDES)) (pdw_or1 (pdt_in hr pd_non (pd_v 1))))) (psd_one (psd_ret pd_non)) psd_nil) (psd_one (psd_ret (pd_v 1)))))), ?_⟩
  rintro c ds Φ hc - ⟨ss, rfl, hs, hn, hΦ⟩
  cases c with
  | cons _ _ => cases hc
  | nil =>
  have hpl := plan_len hs
  conv => whnf
  refine ⟨.str, true, rfl, rfl, ?_⟩
  conv => whnf
  refine ⟨_, rfl, ?_⟩
  conv => whnf
  refine ⟨by decide +kernel, short (by omega), ?_⟩
  conv => whnf
  have e0 : Txt.split (planS ss) (Str.ofString ", ") = ss.map Sh.row := plan_split hs hn
  rw [e0]
  refine lc_map (c := []) (fun d => match d with | .str t => sideD (sideOf t) | _ => .non) rfl _ ?_ ?_ ?_
  · intro d hd
    obtain ⟨t, ht, rfl⟩ := List.mem_map.mp hd
    obtain ⟨s, hs', rfl⟩ := List.mem_map.mp ht
    refine ⟨?_, fun acc Ψ _ h => ?_⟩
    · show okD 0 (sideD (sideOf s.row)) = true
      rw [side_row (hs.2 s hs')]; rfl
    · conv => whnf
      refine ⟨rfl, rfl, ?_⟩
      exact ⟨_, rfl, Nat.le_trans (row_len (hs.2 s hs')) (by decide), h⟩
  · rw [List.length_map, List.length_map]; exact short (by have := hs.1; omega)
  · have e : ((ss.map Sh.row).map D.str).map (fun d => match d with | .str t => sideD (sideOf t) | _ => .non) = ss.map Sh.d := by
      rw [List.map_map, List.map_map]
      refine List.map_congr_left fun s hs' => ?_
      show sideD (sideOf s.row) = s.d
      rw [side_row (hs.2 s hs')]; rfl
    rw [e]
    conv => whnf
    have hle : decide ((12 : Int) < ((ss.map Sh.d).length : Nat)) = false := decide_eq_false (by rw [List.length_map]; have := hs.1; omega)
    split
    · rename_i h
      exact absurd (hle.symm.trans h) (by decide)
    · conv => whnf
      refine .inr ⟨.none, _, _, rfl, rfl, pys_shs ss, by decide, shaped_shs hs.2, ?_⟩
      have e2 := any_shs ss
      conv => whnf
      split
      · rename_i h
        exact absurd (e2.symm.trans h) (by decide)
      · conv => whnf
        exact hΦ

end
end K05

namespace K05
open PySem PySem.Spec PyProof.Rows L2 Cw
abbrev st___init__ : Stmt := inClass (topS 15) 0
abbrev st_text : Stmt := inClass (topS 15) 2
theorem sc_text : FnScope ["self"] ["self"] (defScope st_text) := ⟨rfl, rfl, rfl, by decide +kernel, rfl, by decide +kernel, by decide +kernel⟩
abbrev st_sides : Stmt := inClass (topS 15) 3
theorem sc_sides : FnScope ["self"] ["self"] (defScope st_sides) := ⟨rfl, rfl, rfl, by decide +kernel, rfl, by decide +kernel, by decide +kernel⟩
abbrev st_letters : Stmt := inClass (topS 15) 4
theorem sc_letters : FnScope ["self"] ["self"] (defScope st_letters) := ⟨rfl, rfl, rfl, by decide +kernel, rfl, by decide +kernel, by decide +kernel⟩
abbrev st___eq__ : Stmt := inClass (topS 15) 6
theorem sc___eq__ : FnScope ["self", "other"] ["self", "other"] (defScope st___eq__) := ⟨rfl, rfl, rfl, by decide +kernel, rfl, by decide +kernel, by decide +kernel⟩
abbrev st___str__ : Stmt := inClass (topS 15) 7
theorem sc___str__ : FnScope ["self"] ["self"] (defScope st___str__) := ⟨rfl, rfl, rfl, by decide +kernel, rfl, by decide +kernel, by decide +kernel⟩
abbrev st___len__ : Stmt := inClass (topS 15) 8
theorem sc___len__ : FnScope ["self"] ["self"] (defScope st___len__) := ⟨rfl, rfl, rfl, by decide +kernel, rfl, by decide +kernel, by decide +kernel⟩
def gOwn (C : Addr) : Ty → Option Bool
  | .ins D => if D = C then some true else none
  | _ => none
structure Rx (K : PySem.W.Frag) (mg : Str → Option Value) extends Tx K mg where
  C : Addr
  g_Room : mg "Room" = some (.ref C)
  cl : Cls K C
  na_whole : NoAttr K C "whole"
  na_rows : NoAttr K C "rows"
  na_alphabet : NoAttr K C "alphabet"
  ne_ : PySem.W.findIn K (.ref C) "__ne__" = some (some (.builtin "object.__ne__"))
  mro_ : PySem.W.mroIn K C (.type "object") = some true
  bool_ : PySem.W.findIn K (.ref C) "__bool__" = some none
  i_Room : IsiT K (.ref C) (gOwn C)
  a___init__ : Addr
  d___init__ : FuncData
  F___init__ : Fun K "__init__" "Room.__init__" st___init__ a___init__ d___init__
  b___init__ : Binds K d___init__ ["self", "text"] []
  a_text : Addr
  d_text : FuncData
  F_text : Fun K "text" "Room.text" st_text a_text d_text
  b_text : Binds K d_text ["self"] []
  p_text : Addr
  P_text : PropOf K C "text" p_text a_text
  a_sides : Addr
  d_sides : FuncData
  F_sides : Fun K "sides" "Room.sides" st_sides a_sides d_sides
  b_sides : Binds K d_sides ["self"] []
  p_sides : Addr
  P_sides : PropOf K C "sides" p_sides a_sides
  a_letters : Addr
  d_letters : FuncData
  F_letters : Fun K "letters" "Room.letters" st_letters a_letters d_letters
  b_letters : Binds K d_letters ["self"] []
  p_letters : Addr
  P_letters : PropOf K C "letters" p_letters a_letters
  a___eq__ : Addr
  d___eq__ : FuncData
  F___eq__ : Fun K "__eq__" "Room.__eq__" st___eq__ a___eq__ d___eq__
  b___eq__ : Binds K d___eq__ ["self", "other"] []
  f___eq__ : PySem.W.findIn K (.ref C) "__eq__" = some (some (.ref a___eq__))
  k___eq__ : PySem.W.isFn K (.ref a___eq__) = true
  a___str__ : Addr
  d___str__ : FuncData
  F___str__ : Fun K "__str__" "Room.__str__" st___str__ a___str__ d___str__
  b___str__ : Binds K d___str__ ["self"] []
  f___str__ : PySem.W.findIn K (.ref C) "__str__" = some (some (.ref a___str__))
  k___str__ : PySem.W.isFn K (.ref a___str__) = true
  a___len__ : Addr
  d___len__ : FuncData
  F___len__ : Fun K "__len__" "Room.__len__" st___len__ a___len__ d___len__
  b___len__ : Binds K d___len__ ["self"] []
  f___len__ : PySem.W.findIn K (.ref C) "__len__" = some (some (.ref a___len__))
  k___len__ : PySem.W.isFn K (.ref a___len__) = true
  mkR : Mk K C a___init__
  kb : KBn K d___init__ ["self", "text"] 1 ["text"] (fun us ws => us ++ ws) (fun us ws => us ++ ws)
def roomD (C : Addr) (t : Str) (rows : D) (al : Str) : D := .ins C ["whole", "rows", "alphabet"] [.str t, rows, .str al]
def S_text (C : Addr) : Pm := fun c ds Φ => ∃ t rows al, ds = [roomD C t rows al] ∧ Φ (.str t) c
def S_sides (C : Addr) : Pm := fun c ds Φ => ∃ t rows al, ds = [roomD C t rows al] ∧ okD 0 rows = true ∧ Φ rows c
def S_letters (C : Addr) : Pm := fun c ds Φ => ∃ t rows al, ds = [roomD C t rows al] ∧ Φ (.str al) c
def S___str__ (C : Addr) : Pm := fun c ds Φ => ∃ t rows al, ds = [roomD C t rows al] ∧ Φ (.str t) c
def S___len__ (C : Addr) : Pm := fun c ds Φ => ∃ t rows al, ds = [roomD C t (.tup rows) al] ∧ Φ (.int rows.length) c
def S___eq__ (C : Addr) : Pm := fun c ds Φ => ∃ t rows al t' rows' al', ds = [roomD C t rows al, roomD C t' rows' al'] ∧ Φ (.bl (decide (t = t'))) c
section
variable {P : Program} {w : World} {K : PySem.W.Frag} {mg : Str → Option Value} {base : Heap}
set_option maxHeartbeats 8000000 in
theorem ok_text (T : Rx K mg) : FnOk P w K mg base CX0 1 T.a_text T.d_text ["self"] (spD K 0 1 (S_text T.C)) := by
  refine fnD T.F_text sc_text fun cdv A outer s H E hr => ⟨_, (psd_one (psd_ret (pd_fld T.cl T.na_whole (pd_v 0)))), ?_⟩
  rintro c ds Φ hc - ⟨t, rows, al, rfl, hΦ⟩
  cases c with
  | cons _ _ => cases hc
  | nil =>
  conv => whnf
  refine ⟨rfl, _, rfl, ?_⟩
  conv => whnf
  exact hΦ

set_option maxHeartbeats 8000000 in
theorem ok_sides (T : Rx K mg) : FnOk P w K mg base CX0 1 T.a_sides T.d_sides ["self"] (spD K 0 1 (S_sides T.C)) := by
  refine fnD T.F_sides sc_sides fun cdv A outer s H E hr => ⟨_, (psd_one (psd_ret (pd_fld T.cl T.na_rows (pd_v 0)))), ?_⟩
  rintro c ds Φ hc - ⟨t, rows, al, rfl, hr, hΦ⟩
  cases c with
  | cons _ _ => cases hc
  | nil =>
  conv => whnf
  refine ⟨rfl, _, rfl, ?_⟩
  conv => whnf
  exact hΦ

set_option maxHeartbeats 8000000 in
theorem ok_letters (T : Rx K mg) : FnOk P w K mg base CX0 1 T.a_letters T.d_letters ["self"] (spD K 0 1 (S_letters T.C)) := by
  refine fnD T.F_letters sc_letters fun cdv A outer s H E hr => ⟨_, (psd_one (psd_ret (pd_fld T.cl T.na_alphabet (pd_v 0)))), ?_⟩
  rintro c ds Φ hc - ⟨t, rows, al, rfl, hΦ⟩
  cases c with
  | cons _ _ => cases hc
  | nil =>
  conv => whnf
  refine ⟨rfl, _, rfl, ?_⟩
  conv => whnf
  exact hΦ

set_option maxHeartbeats 8000000 in
theorem ok___eq__ (T : Rx K mg) : FnOk P w K mg base CX0 1 T.a___eq__ T.d___eq__ ["self", "other"] (spD K 0 2 (S___eq__ T.C)) := by
  refine fnD T.F___eq__ sc___eq__ fun cdv A outer s H E hr => ⟨_, (psd_one (psd_ret (pd_and (pd_isi T.i_Room (.own _) (pd_v 1) (pe_glob rfl T.g_Room rfl) T.n_isinstance) (pd_one (pd_eq hr (pd_fld T.cl T.na_whole (pd_v 0)) (pd_fld T.cl T.na_whole (pd_v 1))))))), ?_⟩
  rintro c ds Φ hc - ⟨t, rows, al, t', rows', al', rfl, hΦ⟩
  cases c with
  | cons _ _ => cases hc
  | nil =>
  conv => whnf
  refine ⟨.ins T.C, true, rfl, if_pos rfl, ?_⟩
  conv => whnf
  refine ⟨rfl, _, rfl, ?_⟩
  conv => whnf
  refine ⟨rfl, _, rfl, ?_⟩
  conv => whnf
  exact hΦ

set_option maxHeartbeats 8000000 in
theorem ok___str__ (T : Rx K mg) : FnOk P w K mg base CX0 1 T.a___str__ T.d___str__ ["self"] (spD K 0 1 (S___str__ T.C)) := by
  refine fnD T.F___str__ sc___str__ fun cdv A outer s H E hr => ⟨_, (psd_one (psd_ret (pd_strc (pd_fld T.cl T.na_whole (pd_v 0)) T.n_str))), ?_⟩
  rintro c ds Φ hc - ⟨t, rows, al, rfl, hΦ⟩
  cases c with
  | cons _ _ => cases hc
  | nil =>
  conv => whnf
  refine ⟨rfl, _, rfl, ?_⟩
  conv => whnf
  exact hΦ

set_option maxHeartbeats 8000000 in
theorem ok___len__ (T : Rx K mg) : FnOk P w K mg base CX0 1 T.a___len__ T.d___len__ ["self"] (spD K 0 1 (S___len__ T.C)) := by
  refine fnD T.F___len__ sc___len__ fun cdv A outer s H E hr => ⟨_, (psd_one (psd_ret (pd_len (pd_fld T.cl T.na_rows (pd_v 0)) T.n_len))), ?_⟩
  rintro c ds Φ hc - ⟨t, rows, al, rfl, hΦ⟩
  cases c with
  | cons _ _ => cases hc
  | nil =>
  conv => whnf
  refine ⟨rfl, _, rfl, ?_⟩
  conv => whnf
  exact hΦ

end
end K05

namespace K05
open PySem PySem.Spec PyProof.Rows L2 Cw

def S__law_shown_of (C : Addr) : Pm := fun c ds Φ => ∃ t rows al, ds = [roomD C t (.tup rows) al] ∧ okDs 0 rows = true ∧ rows.length ≤ 12 ∧ rows ≠ [] ∧ Φ (.lst [.str t, .tup rows, .str al, .str t, .int rows.length, .bl true]) c
section
variable {P : Program} {w : World} {K : PySem.W.Frag} {mg : Str → Option Value} {base : Heap}
set_option maxHeartbeats 8000000 in
theorem ok__law_shown_of (T : Rx K mg) : FnOk P w K mg base CX0 5 T.a__law_shown_of T.d__law_shown_of ["_law_mine"] (spD K 0 1 (S__law_shown_of T.C)) := by
  refine fnD T.F__law_shown_of sc__law_shown_of fun cdv A outer s H E hr => ⟨_, (psd_one (psd_ret (pd_lst (pds_cons (pd_prop T.cl T.P_text (ok_text T) (hr.mono (by decide)) T.b_text pass0 (pd_v 0)) (pds_cons (pd_prop T.cl T.P_sides (ok_sides T) (hr.mono (by decide)) T.b_sides pass0 (pd_v 0)) (pds_cons (pd_prop T.cl T.P_letters (ok_letters T) (hr.mono (by decide)) T.b_letters pass0 (pd_v 0)) (pds_cons (pd_strO (ok___str__ T) T.f___str__ T.k___str__ T.b___str__ pass0 (hr.mono (by decide)) (pd_v 0) T.n_str) (pds_cons (pd_lenO (ok___len__ T) T.f___len__ T.k___len__ T.b___len__ pass0 (hr.mono (by decide)) (pd_v 0) T.n_len) (pds_cons (pd_boolO (ok___len__ T) T.bool_ T.f___len__ T.k___len__ T.b___len__ pass0 (hr.mono (by decide)) (pd_v 0) T.n_bool) pds_nil))))))))), ?_⟩
  rintro c ds Φ hc - ⟨t, rows, al, rfl, hok, hl, hne, hΦ⟩
  cases c with
  | cons _ _ => cases hc
  | nil =>
  have ok1 : okDs 0 [roomD T.C t (.tup rows) al] = true := by
    show (okD 0 (.str t) && (okDs 0 rows && (okD 0 (.str al) && true)) && true) = true
    rw [hok]; rfl
  conv => whnf
  refine ⟨⟨_, _, rfl⟩, ok1, t, _, al, rfl, ?_⟩
  conv => whnf
  refine ⟨⟨_, _, rfl⟩, ok1, t, _, al, rfl, hok, ?_⟩
  conv => whnf
  refine ⟨⟨_, _, rfl⟩, ok1, t, _, al, rfl, ?_⟩
  conv => whnf
  refine ⟨⟨_, _, rfl⟩, ok1, t, _, al, rfl, _, rfl, ?_⟩
  conv => whnf
  refine ⟨⟨_, _, rfl⟩, ok1, t, _, al, rfl, ?_⟩
  have hb : (0 : Int) ≤ (rows.length : Nat) ∧ ((rows.length : Nat) : Int) < 2 ^ 63 := ⟨by omega, by omega⟩
  refine ⟨_, rfl, hb, ?_⟩
  conv => whnf
  refine ⟨⟨_, _, rfl⟩, ok1, t, _, al, rfl, _, rfl, hb, ?_⟩
  conv => whnf
  refine ⟨by show 6 ≤ sizeLine; decide, ?_⟩
  have e : (((rows.length : Nat) : Int) != 0) = true := by
    have : rows.length ≠ 0 := fun z => hne (List.length_eq_zero_iff.mp z)
    simp; exact hne
  rw [e]
  exact hΦ

end
end K05

namespace K05
open PySem PySem.Spec PyProof.Rows L2 Cw

theorem mem_joinL {S : List Nat} {x : Nat} : ∀ {ps : List (List Nat)}, x ∈ TL.joinL S ps → x ∈ S ∨ ∃ p ∈ ps, x ∈ p
  | [], h => by cases h
  | [p], h => .inr ⟨p, List.mem_cons_self, h⟩
  | p :: q :: r, h => by
    have h : x ∈ p ++ (S ++ TL.joinL S (q :: r)) := h
    rcases List.mem_append.mp h with h | h
    · exact .inr ⟨p, List.mem_cons_self, h⟩
    · rcases List.mem_append.mp h with h | h
      · exact .inl h
      · exact (mem_joinL h).imp id fun ⟨z, hz, hx⟩ => ⟨z, List.mem_cons_of_mem _ hz, hx⟩
theorem strOk_of {x : Str} (h : ∀ k ∈ TL.tl x, k < 0x110000) : PyData.strOk x = true := by
  unfold PyData.strOk
  rw [← Array.all_toList, List.all_eq_true]
  intro k hk
  exact decide_eq_true (h k hk)
theorem strOk_to {x : Str} (h : PyData.strOk x = true) : ∀ k ∈ TL.tl x, k < 0x110000 := by
  unfold PyData.strOk at h
  rw [← Array.all_toList, List.all_eq_true] at h
  exact fun k hk => of_decide_eq_true (h k hk)
theorem row_ok {s : Sh} (h : s.ok) : ∀ k ∈ TL.tl s.row, k < 0x110000 := by
  unfold Sh.row
  rw [TL.tl_append, TL.tl_append, TL.tl_append]
  intro k hk
  rcases List.mem_append.mp hk with hk | hk
  · rcases List.mem_append.mp hk with hk | hk
    · rcases List.mem_append.mp hk with hk | hk
      · have hk : k ∈ [s.l] := hk
        have := List.mem_singleton.mp hk
        have := h.1; omega
      · exact nine (P := fun n => ∀ k ∈ TL.tl (moreS n), k < 0x110000) h.2 (by decide +kernel) k hk
    · exact strOk_to (x := (" " : Str)) (by decide +kernel) k hk
  · exact strOk_to (x := bendS s.o) (by cases s.o <;> decide +kernel) k hk
theorem plan_ok {ss : List Sh} (h : oks ss) : PyData.strOk (planS ss) = true := strOk_of fun k hk => by
  unfold planS at hk
  rw [TL.join_eq, TL.tl_join] at hk
  rcases mem_joinL hk with hk | ⟨p, hp, hk⟩
  · exact strOk_to (x := (", " : Str)) (by decide +kernel) k hk
  · obtain ⟨t, ht, rfl⟩ := List.mem_map.mp hp
    obtain ⟨s, hs, rfl⟩ := List.mem_map.mp ht
    exact row_ok (h.2 s hs) k hk
theorem letters_ok (ss : List Sh) : PyData.strOk (lettersS ss) = true := strOk_of fun k hk => by
  unfold lettersS at hk
  rw [TL.join_eq, TL.tl_join] at hk
  rcases mem_joinL hk with hk | ⟨p, hp, hk⟩
  · cases hk
  · obtain ⟨t, ht, rfl⟩ := List.mem_map.mp hp
    obtain ⟨l, hl, rfl⟩ := List.mem_map.mp ht
    have hk : k ∈ [l] := hk
    have e := List.mem_singleton.mp hk
    have hl := (List.mem_filter.mp hl).1
    have : l = 120 ∨ l = 121 ∨ l = 122 := by simpa using hl
    omega
theorem letters_len (ss : List Sh) : (lettersS ss).length ≤ 3 := by
  have h1 := join_len ("" : Str) (([120, 121, 122].filter (hasL ss)).map one)
  have h2 : ([120, 121, 122].filter (hasL ss)).length ≤ 3 := List.length_filter_le _ _
  have h3 : ∀ l : List Nat, ((l.map one).map (·.length)).sum = l.length := fun l => by
    induction l with
    | nil => rfl
    | cons a l ih =>
      show (1 : Nat) + ((l.map one).map (·.length)).sum = l.length + 1
      rw [ih]; omega
  rw [h3, show ("" : Str).length = 0 from rfl] at h1
  unfold lettersS
  omega
def duePy (ss : List Sh) : PyData := .list [.str (planS ss), .tuple (ss.map Sh.py), .str (lettersS ss), .str (planS ss), .int ss.length, .bool true]
theorem py_due (ss : List Sh) : D.py (dueD ss) = some (duePy ss) := by
  show (D.pys [.str (planS ss), shsD ss, .str (lettersS ss), .str (planS ss), .int ss.length, .bl true]).map PyData.list = _
  have e : D.py (shsD ss) = some (.tuple (ss.map Sh.py)) := by
    show (D.pys (ss.map Sh.d)).map PyData.tuple = _
    rw [pys_shs]; rfl
  simp only [D.pys, D.py, e]
  rfl
theorem show_shs : ∀ {ss : List Sh}, (∀ s ∈ ss, s.ok) → PyData.showableAll (ss.map Sh.py) = true ∧ PyData.intsShortAll 13 (ss.map Sh.py) = true ∧ PyData.weightAll (ss.map Sh.py) ≤ 12 * ss.length
  | [], _ => ⟨rfl, rfl, Nat.le_refl _⟩
  | s :: ss, h => by
    obtain ⟨h1, h2, h3⟩ := show_shs fun x hx => h x (List.mem_cons_of_mem s hx)
    have hn := (h s List.mem_cons_self).2
    refine ⟨?_, ?_, ?_⟩
    · show ((true && (decide (s.n.natAbs.log2 < 1920) && (true && true))) && PyData.showableAll (ss.map Sh.py)) = true
      rw [h1, decide_eq_true (tos_small hn)]; rfl
    · show ((true && (decide ((PyData.shown (.int s.n)).length ≤ 13) && (true && true))) && PyData.intsShortAll 13 (ss.map Sh.py)) = true
      rw [h2, decide_eq_true (nine (P := fun n => (PyData.shown (.int n)).length ≤ 13) hn (by decide +kernel))]; rfl
    · have hb : (bendS s.o).length ≤ 3 := by cases s.o <;> decide
      have hb' : (bendS s.o).cps.size ≤ 3 := hb
      have hw : PyData.weight (.int s.n) ≤ 4 := nine (P := fun n => PyData.weight (.int n) ≤ 4) hn (by decide +kernel)
      show (((1 : Nat) + 1 + (PyData.weight (.int s.n) + 1 + ((bendS s.o).cps.size + 1 + 0))) + 1 + PyData.weightAll (ss.map Sh.py)) ≤ 12 * (ss.length + 1)
      omega
theorem len12 {n : Nat} (h : n ≤ 12) {P : Int → Prop} (hp : ∀ i : Fin 13, P (i.val : Int)) : P (n : Int) := hp ⟨n, by omega⟩
theorem due_showy {ss : List Sh} (h : oks ss) : Showy (duePy ss) := by
  obtain ⟨h1, h2, h3⟩ := show_shs h.2
  have hp := plan_ok h
  have hl := letters_ok ss
  have hpl : (planS ss).cps.size ≤ 200 := plan_len h
  have hll : (lettersS ss).cps.size ≤ 3 := letters_len ss
  have hw : PyData.weight (.int (ss.length : Nat)) ≤ 5 := len12 h.1 (P := fun n => PyData.weight (.int n) ≤ 5) (by decide +kernel)
  have hs : decide ((ss.length : Int).natAbs.log2 < 1920) = true := decide_eq_true (len12 h.1 (P := fun n => n.natAbs.log2 < 1920) (by decide +kernel))
  have hi : decide ((PyData.shown (.int (ss.length : Nat))).length ≤ 13) = true := decide_eq_true (len12 h.1 (P := fun n => (PyData.shown (.int n)).length ≤ 13) (by decide +kernel))
  have hlay := lay_shs h.2
  have hdep := dep_shs ss
  have hh := h.1
  have can : PyData.canLay0 (duePy ss) = true := by
    show (PyData.strOk (planS ss) && (PyData.canLayAll0 (ss.map Sh.py) && (PyData.strOk (lettersS ss) && (PyData.strOk (planS ss) && (true && (true && true)))))) = true
    rw [hp, hlay, hl]; rfl
  have dep : PyData.depth (duePy ss) ≤ 3 := by
    show max 0 (max (PyData.depthAll (ss.map Sh.py) + 1) (max 0 (max 0 (max 0 (max 0 0))))) + 1 ≤ 3
    omega
  have hints : PyData.intsShort 13 (duePy ss) = true := by
    show (true && (PyData.intsShortAll 13 (ss.map Sh.py) && (true && (true && (decide ((PyData.shown (.int (ss.length : Nat))).length ≤ 13) && (true && true)))))) = true
    rw [h2, hi]; rfl
  refine ⟨?_, PyData.hasDict_of_canLay _ can, by omega, ?_⟩
  · show (true && (PyData.showableAll (ss.map Sh.py) && (true && (true && (decide ((ss.length : Int).natAbs.log2 < 1920) && (true && true)))))) = true
    rw [h1, hs]; rfl
  · refine Nat.le_trans (shown_le13 ?_ hints) (by decide)
    show (PyData.canLay0 (duePy ss) && decide (PyData.depth (duePy ss) ≤ 64) && decide (PyData.weight (duePy ss) ≤ 2 ^ 20)) = true
    rw [can, decide_eq_true (by omega), decide_eq_true]
    · rfl
    · show (planS ss).cps.size + 1 + (PyData.weightAll (ss.map Sh.py) + 1 + ((lettersS ss).cps.size + 1 + ((planS ss).cps.size + 1 + (PyData.weight (.int (ss.length : Nat)) + 1 + (0 + 1 + 0))))) ≤ 2 ^ 20
      omega
end K05

namespace K05
open PySem PySem.Spec PyProof.Rows L2 Cw

theorem b5 (q : Bool) : Showy (.list [.bool true, .bool false, .bool q, .bool (!q), .bool q]) := by
  cases q <;> exact ⟨by decide +kernel, by decide +kernel, by decide +kernel, by decide +kernel⟩
theorem py5 (t u : Str) : D.py (.lst [.bl (false ^^ decide (t = t)), .bl (true ^^ decide (t = t)), .bl (false ^^ decide (t = u)), .bl (true ^^ decide (t = u)), .bl (false ^^ decide (u = t))]) = some (.list [.bool true, .bool false, .bool (decide (t = u)), .bool (!decide (t = u)), .bool (decide (t = u))]) := by
  have e1 : decide (t = t) = true := decide_eq_true rfl
  have e2 : decide (u = t) = decide (t = u) := by
    by_cases h : t = u
    · rw [decide_eq_true h, decide_eq_true h.symm]
    · rw [decide_eq_false h, decide_eq_false fun z => h z.symm]
  rw [e1, e2]
  cases decide (t = u) <;> rfl
def S_init (C : Addr) : Pm := fun c ds Φ => ∃ ss, c = [.obj C [] []] ∧ ds = [.cell 0, .str (planS ss)] ∧ oks ss ∧ ss ≠ [] ∧ Φ .non [.obj C ["whole", "rows", "alphabet"] [.str (planS ss), shsD ss, .str (lettersS ss)]]
theorem shuts_call {a b k r lim : Int} {rest : List Cell} {Φ : D → List Cell → Prop} (hB : B3 a b k lim) (hl : lim ≤ 900) (hr : 1 ≤ r ∧ r ≤ 3)
    (h : ∀ ss a' b' k', oks ss → ss ≠ [] → B3 a' b' k' (lim + 49) → Φ (shsD ss) (spr a' b' k' :: rest)) : callM S__law_shuts [.cell 0, .int 12, .int r, .int 9] (spr a b k :: rest) Φ :=
  ⟨spr a b k, rfl, rfl, rfl, a, b, k, r, rfl, rfl, ⟨hB.1, hB.2.1, hB.2.2.1, by have := hB.2.2.2; omega⟩, hr, fun ss a' b' k' h1 h2 h3 => ⟨rfl, by show okDs 0 _ = true; exact shs_ok ss, h ss a' b' k' h1 h2 ⟨h3.1, h3.2.1, h3.2.2.1, by have := h3.2.2.2; have := hB.2.2.2; omega⟩⟩⟩
theorem turned {ss : List Sh} (h : oks ss) (hn : ss ≠ []) : ∃ ms, oks ms ∧ ms ≠ [] ∧ Cw.cutD (ss.map Sh.d) (some 1) none ++ Cw.cutD (ss.map Sh.d) none (some 1) = ms.map Sh.d := by
  cases ss with
  | nil => exact absurd rfl hn
  | cons s r =>
    refine ⟨r ++ [s], ⟨by rw [List.length_append]; exact h.1, fun x hx => h.2 x ?_⟩, by simp, ?_⟩
    · rcases List.mem_append.mp hx with hx | hx
      · exact List.mem_cons_of_mem _ hx
      · rw [List.mem_singleton.mp hx]; exact List.mem_cons_self
    · unfold Cw.cutD
      have e1 : HT.sIx ((s :: r).map Sh.d).length 0 (some 1) = 1 := by
        show min 1 ((s :: r).map Sh.d).length = 1
        rw [List.length_map, List.length_cons]; omega
      have e2 : HT.sIx ((s :: r).map Sh.d).length ((s :: r).map Sh.d).length (some 1) = 1 := e1
      have e3 : HT.sIx ((s :: r).map Sh.d).length ((s :: r).map Sh.d).length none = ((s :: r).map Sh.d).length := rfl
      have e4 : HT.sIx ((s :: r).map Sh.d).length 0 none = 0 := rfl
      rw [e1, e2, e3, e4, List.map_append]
      congr 1
      show (r.map Sh.d).take (((s :: r).map Sh.d).length - 1) = r.map Sh.d
      rw [List.take_of_length_le]
      rw [List.length_map, List.length_map, List.length_cons]; omega
def S__law_right : Pm := fun c ds Φ => ∃ a b k, c = [spr a b k] ∧ ds = [.cell 0] ∧ B3 a b k 0 ∧ ∀ a' b' k', Φ (.bl true) [spr a' b' k']
section
variable {P : Program} {w : World} {K : PySem.W.Frag} {mg : Str → Option Value} {base : Heap}
set_option maxHeartbeats 8000000 in
theorem ok__law_right (T : Rx K mg) (hI : FnOk P w K mg base CX0 6 T.a___init__ T.d___init__ ["self", "text"] (spD K 1 2 (S_init T.C))) : FnG P w K mg base 9 T.a__law_right T.d__law_right ["_law_spring_here"] (spD K 1 1 S__law_right) := by
  refine fnGD T.F__law_right sc__law_right fun cdv A outer s H E hgu hr => ⟨_, (psd_cons (psd_par (i := 1) (j := 2) rfl sc__law_right.nd (pd_callM (ok__law_shuts T.toTx) (hr.mono (by decide)) T.g__law_shuts T.F__law_shuts.kp T.b__law_shuts pass0 (pds_cons (pd_v 0) (pds_cons pd_int (pds_cons (pd_add pd_int (pd_callM (ok__law_take T.toTx) (hr.mono (by decide)) T.g__law_take T.F__law_take.kp T.b__law_take pass0 (pds_cons (pd_v 0) (pds_cons pd_int pds_nil)))) (pds_cons pd_int pds_nil))))) (pd_callM (ok__law_shuts T.toTx) (hr.mono (by decide)) T.g__law_shuts T.F__law_shuts.kp T.b__law_shuts pass0 (pds_cons (pd_v 0) (pds_cons pd_int (pds_cons pd_int (pds_cons pd_int pds_nil)))))) (psd_cons (psd_if (pdt_eq hr (pd_callM (ok__law_take T.toTx) (hr.mono (by decide)) T.g__law_take T.F__law_take.kp T.b__law_take pass0 (pds_cons (pd_v 0) (pds_cons pd_int pds_nil))) pd_int) (psd_one (psd_set (i := 2) sc__law_right.nd (pd_add (pd_sl (pd_v 1) (po_so pd_int) po_no) (pd_sl (pd_v 1) po_no (po_so pd_int))))) psd_nil) (psd_cons (psd_par (i := 3) (j := 4) rfl sc__law_right.nd (pd_callP (ok__law_plan T.toTx) (hr.mono (by decide)) T.g__law_plan T.F__law_plan.kp T.b__law_plan pass0 (pds_cons (pd_v 1) pds_nil)) (pd_callP (ok__law_plan T.toTx) (hr.mono (by decide)) T.g__law_plan T.F__law_plan.kp T.b__law_plan pass0 (pds_cons (pd_v 2) pds_nil))) (psd_cons (psd_par3 (i := 5) (j := 6) (l := 7) rfl sc__law_right.nd (pd_make T.mkR hI (hr.mono (by decide)) T.g_Room T.b___init__ pass0 (pds_cons (pd_v 3) pds_nil)) (pd_makeK T.mkR hI (hr.mono (by decide)) T.g_Room T.kb pass0 (pdk_cons (pd_v 3) pdk_nil)) (pd_make T.mkR hI (hr.mono (by decide)) T.g_Room T.b___init__ pass0 (pds_cons (pd_v 4) pds_nil))) (psd_cons (psd_for PassesOwn.never rfl (pid_list (pd_lst (pds_cons (pd_callP (ok__law_shown_of T) (hr.mono (by decide)) T.g__law_shown_of T.F__law_shown_of.kp T.b__law_shown_of pass0 (pds_cons (pd_v 5) pds_nil)) (pds_cons (pd_callP (ok__law_shown_of T) (hr.mono (by decide)) T.g__law_shown_of T.F__law_shown_of.kp T.b__law_shown_of pass0 (pds_cons (pd_v 6) pds_nil)) pds_nil)))) (pgd_name (i := 8) sc__law_right.nd) (psd_one (psd_if (pdt_ne hr (pd_repr hgu hr.units (pd_v 8) T.n_repr) (pd_repr hgu hr.units (pd_callP (ok__law_due_of T.toTx) (hr.mono (by decide)) T.g__law_due_of T.F__law_due_of.kp T.b__law_due_of pass0 (pds_cons (pd_v 1) pds_nil)) T.n_repr)) (psd_one (psd_ret pd_bl)) psd_nil))) (psd_cons (psd_set (i := 9) sc__law_right.nd (pd_eq hr (pd_v 3) (pd_v 4))) (psd_cons (psd_set (i := 8) sc__law_right.nd (pd_lst (pds_cons (pd_eqO (ok___eq__ T) T.f___eq__ T.k___eq__ T.b___eq__ pass0 (hr.mono (by decide)) (pd_v 5) (pd_v 6)) (pds_cons (pd_neO (ok___eq__ T) T.f___eq__ T.ne_ T.mro_ T.k___eq__ T.b___eq__ pass0 (hr.mono (by decide)) (pd_v 5) (pd_v 6)) (pds_cons (pd_eqO (ok___eq__ T) T.f___eq__ T.k___eq__ T.b___eq__ pass0 (hr.mono (by decide)) (pd_v 5) (pd_v 7)) (pds_cons (pd_neO (ok___eq__ T) T.f___eq__ T.ne_ T.mro_ T.k___eq__ T.b___eq__ pass0 (hr.mono (by decide)) (pd_v 5) (pd_v 7)) (pds_cons (pd_eqO (ok___eq__ T) T.f___eq__ T.k___eq__ T.b___eq__ pass0 (hr.mono (by decide)) (pd_v 7) (pd_v 5)) pds_nil))))))) (psd_cons (psd_if (pdt_ne hr (pd_repr hgu hr.units (pd_v 8) T.n_repr) (pd_repr hgu hr.units (pd_lst (pds_cons pd_bl (pds_cons pd_bl (pds_cons (pd_v 9) (pds_cons (pd_not (pd_v 9)) (pds_cons (pd_v 9) pds_nil)))))) T.n_repr)) (psd_one (psd_ret pd_bl)) psd_nil) (psd_one (psd_ret (pd_eq hr (pd_repr hgu hr.units (pd_callP (ok__law_shown_of T) (hr.mono (by decide)) T.g__law_shown_of T.F__law_shown_of.kp T.b__law_shown_of pass0 (pds_cons (pd_v 7) pds_nil)) T.n_repr) (pd_repr hgu hr.units (pd_callP (ok__law_due_of T.toTx) (hr.mono (by decide)) T.g__law_due_of T.F__law_due_of.kp T.b__law_due_of pass0 (pds_cons (pd_v 2) pds_nil)) T.n_repr)))))))))))), ?_⟩
  rintro c ds Φ hc - ⟨a, b, k, rfl, rfl, hB, hΦ⟩
  conv => whnf
  refine ⟨rfl, ?_⟩
  refine take_call (rest := []) hB (by decide) (by decide) fun v a1 b1 v1 v2 hB1 => ?_
  conv => whnf
  refine ⟨rfl, ?_⟩
  refine shuts_call (rest := []) hB1 (by decide) (by omega) fun ss a2 b2 k2 hs hn hB2 => ?_
  conv => whnf
  refine ⟨rfl, ?_⟩
  refine shuts_call (rest := []) hB2 (by decide) (by decide) fun ms0 a3 b3 k3 hms0 hmn0 hB3 => ?_
  conv => whnf
  refine ⟨rfl, ?_⟩
  refine take_call (rest := []) hB3 (by decide) (by decide) fun w a4 b4 w1 w2 hB4 => ?_
  conv => whnf
  have okT : ∀ ss : List Sh, okDs 0 [.str (planS ss), shsD ss, .str (lettersS ss)] = true := fun ss => by
    show (true && (okDs 0 (ss.map Sh.d) && (true && true))) = true
    rw [shs_ok]; rfl
  have okR : ∀ ss : List Sh, okDs 0 [roomD T.C (planS ss) (shsD ss) (lettersS ss)] = true := fun ss => by
    show (okDs 0 [.str (planS ss), shsD ss, .str (lettersS ss)] && true) = true
    rw [okT]; rfl
  have rl : ∀ {ss : List Sh}, oks ss → (ss.map Sh.d).length ≤ 12 := fun h => by rw [List.length_map]; exact h.1
  have rn : ∀ {ss : List Sh}, ss ≠ [] → ss.map Sh.d ≠ [] := fun h z => h (List.map_eq_nil_iff.mp z)
  have pyS : ∀ ss : List Sh, D.py (.lst [.str (planS ss), .tup (ss.map Sh.d), .str (lettersS ss), .str (planS ss), .int ((ss.map Sh.d).length : Nat), .bl true]) = some (duePy ss) := fun ss => by
    rw [List.length_map]; exact py_due ss
  have okR2 : ∀ ss ms : List Sh, okDs 0 [roomD T.C (planS ss) (shsD ss) (lettersS ss), roomD T.C (planS ms) (shsD ms) (lettersS ms)] = true := fun ss ms => by
    show (okDs 0 [.str (planS ss), shsD ss, .str (lettersS ss)] && (okDs 0 [.str (planS ms), shsD ms, .str (lettersS ms)] && true)) = true
    rw [okT, okT]; rfl
  split
  case' h_1 =>
    obtain ⟨ms, hms, hmn, e⟩ := turned hs hn
    conv => whnf
    refine ⟨short ?_, ?_⟩
    · have : (Cw.cutD (ss.map Sh.d) (some 1) none ++ Cw.cutD (ss.map Sh.d) none (some 1)).length ≤ 1000 := by
        rw [e, List.length_map]; have := hms.1; omega
      rw [List.length_append] at this
      exact this
    rw [e]
  case' h_2 =>
    obtain ⟨ms, hms, hmn, rfl⟩ : ∃ ms, oks ms ∧ ms ≠ [] ∧ ms = ms0 := ⟨ms0, hms0, hmn0, rfl⟩
  all_goals
    conv => whnf
    refine ⟨rfl, shsD_ok ss, ss, rfl, hs, ?_⟩
    conv => whnf
    refine ⟨rfl, shsD_ok ms, ms, rfl, hms, ?_⟩
    conv => whnf
    refine ⟨rfl, rfl, ss, rfl, rfl, hs, hn, rfl, rfl, okT ss, ?_⟩
    conv => whnf
    refine ⟨rfl, rfl, rfl, ss, rfl, rfl, hs, hn, rfl, rfl, okT ss, ?_⟩
    conv => whnf
    refine ⟨rfl, rfl, ms, rfl, rfl, hms, hmn, rfl, rfl, okT ms, ?_⟩
    conv => whnf
    refine ⟨rfl, okR ss, planS ss, ss.map Sh.d, lettersS ss, rfl, shs_ok ss, rl hs, rn hn, ?_⟩
    conv => whnf
    refine ⟨rfl, okR ss, planS ss, ss.map Sh.d, lettersS ss, rfl, shs_ok ss, rl hs, rn hn, ?_⟩
    conv => whnf
    refine ⟨by show 2 ≤ sizeLine; decide, ?_⟩
    conv => whnf
    refine ⟨duePy ss, pyS ss, due_showy hs, ?_⟩
    conv => whnf
    refine ⟨rfl, shsD_ok ss, ss, rfl, hs, ?_⟩
    conv => whnf
    refine ⟨duePy ss, py_due ss, due_showy hs, ?_⟩
    conv => whnf
    split
    · rename_i h
      exact absurd ((nd_t h) rfl) id
    conv => whnf
    refine ⟨duePy ss, pyS ss, due_showy hs, ?_⟩
    conv => whnf
    refine ⟨rfl, shsD_ok ss, ss, rfl, hs, ?_⟩
    conv => whnf
    refine ⟨duePy ss, py_due ss, due_showy hs, ?_⟩
    conv => whnf
    split
    · rename_i h
      exact absurd ((nd_t h) rfl) id
    conv => whnf
    refine ⟨⟨_, _, rfl⟩, ⟨_, _, rfl⟩, okR2 ss ss, planS ss, _, _, planS ss, _, _, rfl, _, rfl, ?_⟩
    conv => whnf
    refine ⟨⟨_, _, rfl⟩, ⟨_, _, rfl⟩, okR2 ss ss, planS ss, _, _, planS ss, _, _, rfl, _, rfl, ?_⟩
    conv => whnf
    refine ⟨⟨_, _, rfl⟩, ⟨_, _, rfl⟩, okR2 ss ms, planS ss, _, _, planS ms, _, _, rfl, _, rfl, ?_⟩
    conv => whnf
    refine ⟨⟨_, _, rfl⟩, ⟨_, _, rfl⟩, okR2 ss ms, planS ss, _, _, planS ms, _, _, rfl, _, rfl, ?_⟩
    conv => whnf
    refine ⟨⟨_, _, rfl⟩, ⟨_, _, rfl⟩, okR2 ms ss, planS ms, _, _, planS ss, _, _, rfl, _, rfl, ?_⟩
    conv => whnf
    refine ⟨by show 5 ≤ sizeLine; decide, ?_⟩
    conv => whnf
    refine ⟨_, py5 (planS ss) (planS ms), b5 _, ?_⟩
    conv => whnf
    refine ⟨by show 5 ≤ sizeLine; decide, ?_⟩
    conv => whnf
    refine ⟨_, rfl, b5 (decide (planS ss = planS ms)), ?_⟩
    conv => whnf
    split
    · rename_i h
      exact absurd ((nd_t h) rfl) id
    conv => whnf
    refine ⟨rfl, okR ms, planS ms, ms.map Sh.d, lettersS ms, rfl, shs_ok ms, rl hms, rn hmn, ?_⟩
    conv => whnf
    refine ⟨duePy ms, pyS ms, due_showy hms, ?_⟩
    conv => whnf
    refine ⟨rfl, shsD_ok ms, ms, rfl, hms, ?_⟩
    conv => whnf
    refine ⟨duePy ms, py_due ms, due_showy hms, ?_⟩
    conv => whnf
    have e9 : (if false = true then !decide ((duePy ms).shown = (duePy ms).shown) else decide ((duePy ms).shown = (duePy ms).shown)) = true := by
      rw [if_neg (by decide)]
      exact decide_eq_true rfl
    rw [e9]
    exact hΦ _ _ _

end
end K05

namespace K05
open PySem PySem.Spec PyProof.Rows L2 Cw

theorem inner_more {acc : List D} {y : D} {ex : List Cell} {Q : List Cell → Prop} (ha : okDs 0 acc = true) (hy : okD 1 y = true) (q : Q []) : inner 0 acc y (.lst acc :: ex) Q := by
  refine ⟨rfl, ?_⟩
  cases ex with
  | nil => exact q
  | cons e r =>
    refine ⟨?_, hy, q⟩
    show (okDs 1 acc && true) = true
    rw [show okDs 1 acc = true from okDs_up _ ha]; rfl
theorem lc_fresh {i : Nat} {te : TD} {ρ : Cw.Env} {Φ : List D → List Cell → Prop} (f : D → D) : ∀ (ds acc : List D),
    (∀ d ∈ ds, okD 0 (f d) = true ∧ ∀ acc (Ψ : D → List Cell → Prop), (∀ ex, Ψ (f d) (.lst acc :: ex)) → te (ρ.set i (some d)) [.lst acc] Ψ) →
    okDs 0 acc = true → acc.length + ds.length ≤ sizeLine → Φ (acc ++ ds.map f) [] → lcD i dYes te ds acc ρ [] Φ
  | [], acc, _, h, _, q => ⟨rfl, h, by simpa using q⟩
  | d :: ds, acc, he, h, hl, q => by
    have hl' : acc.length + (ds.length + 1) ≤ sizeLine := hl
    obtain ⟨hk, ht⟩ := he d List.mem_cons_self
    show te _ _ _
    refine ht acc _ fun ex => ⟨by omega, inner_more h (okD_up _ hk) ?_⟩
    refine lc_fresh f ds _ (fun x hx => he x (List.mem_cons_of_mem _ hx)) (okDs_app h (okDs_one hk)) (by rw [List.length_append]; show acc.length + 1 + ds.length ≤ _; omega) ?_
    simpa using q
theorem oki : ∀ ns : List Int, okDs 0 (ns.map D.int) = true
  | [] => rfl
  | n :: ns => by
    show (true && okDs 0 (ns.map D.int)) = true
    rw [oki ns]; rfl
theorem bls_true : ∀ ds : List D, Cw.bls (ds.map fun _ => D.bl true) = some (ds.map fun _ => true)
  | [] => rfl
  | d :: ds => by
    have ih := bls_true ds
    show (Cw.bls (D.bl true :: ds.map fun _ => D.bl true)) = _
    simp only [Cw.bls, ih]
    rfl
theorem all_true (ds : List D) : (ds.map fun _ => true).all id = true := by simp
def S_law : Pm := fun c ds Φ => ∃ ns, ds = [intsD ns] ∧ ns.length ≤ 63 ∧ Φ (.bl true) c
section
variable {P : Program} {w : World} {K : PySem.W.Frag} {mg : Str → Option Value} {base : Heap}
set_option maxHeartbeats 8000000 in
theorem ok_law (T : Rx K mg) (hI : FnOk P w K mg base CX0 6 T.a___init__ T.d___init__ ["self", "text"] (spD K 1 2 (S_init T.C))) : FnG P w K mg base 10 T.a_law T.d_law ["_law_cells"] (spD K 0 1 S_law) := by
  refine fnGD T.F_law sc_law fun cdv A outer s H E hgu hr => ⟨_, (psd_one (psd_ret (pd_all rfl (pd_lc (i := 1) rfl sc_law.nd (pid_range1 (pd_max rfl pd_int (pd_min rfl (pd_len (pd_v 0) T.n_len) pd_int T.n_min) T.n_max) T.n_range) (by kernel_rfl) (fun _ _ _ _ _ => pg_name (i := 1) sc_law.nd rfl (Or.inl rfl)) (fun _ _ _ _ _ => ptd_nil) (fun _ _ _ _ _ => (pd_callMG (ok__law_right T hI) hgu (hr.mono (by decide)) T.g__law_right T.F__law_right.kp T.b__law_right pass0 (pds_cons (pd_callN (ok__law_spring T.toTx) (hr.mono (by decide)) T.g__law_spring T.F__law_spring.kp T.b__law_spring pass0 (pds_cons (pd_v 0) (pds_cons (pd_v 1) pds_nil))) pds_nil)))) T.n_all))), ?_⟩
  rintro c ds Φ hc - ⟨ns, rfl, hl, hΦ⟩
  cases c with
  | cons _ _ => cases hc
  | nil =>
  conv => whnf
  have hnl : ((ns.map D.int).length : Int) ≤ 63 := by rw [List.length_map]; omega
  generalize hM : (if (if 6 < ((ns.map D.int).length : Int) then 6 else ((ns.map D.int).length : Int)) > 2 then (if 6 < ((ns.map D.int).length : Int) then 6 else ((ns.map D.int).length : Int)) else 2) = M
  have hM' : 0 ≤ M ∧ M ≤ 6 := by
    subst hM
    split <;> split <;> omega
  refine ⟨by omega, ?_⟩
  refine lc_fresh (fun _ => .bl true) _ [] ?_ rfl ?_ ?_
  · intro d hd
    obtain ⟨j, hj, rfl⟩ := List.mem_map.mp hd
    have hj := List.mem_range.mp hj
    refine ⟨rfl, fun acc Ψ h => ?_⟩
    conv => whnf
    refine ⟨rfl, ?_, ns, _, rfl, ⟨by omega, by omega⟩, hl, fun a b ha hb => ?_⟩
    · show (okDs 0 (ns.map D.int) && (true && true)) = true
      rw [oki]; rfl
    · conv => whnf
      exact ⟨rfl, spr a b 0, rfl, rfl, rfl, a, b, 0, rfl, rfl, ⟨ha, hb, by decide, by decide⟩, fun a' b' k' => ⟨rfl, rfl, h [spr a' b' k']⟩⟩
  · show 0 + (rng 0 M.toNat).length ≤ _
    rw [rng_len]; exact short (by omega)
  · conv => whnf
    refine ⟨_, bls_true _, ?_⟩
    rw [all_true]
    exact hΦ

end
end K05

namespace K05
open PySem PySem.Spec PyProof.Rows L2 Cw

theorem own_is {C D : Addr} {b : Bool} (h : gOwn C (.ins D) = some b) : D = C := by
  have h : (if D = C then some true else none) = some b := h
  by_cases e : D = C
  · exact e
  · rw [if_neg e] at h; cases h
theorem own_kit {K : PySem.W.Frag} {C : Addr} (t : Ty) (b : Bool) (h : gOwn C t = some b) : PySem.W.kitOne K t.val (.ref C) = some b := by
  cases t <;> first | cases h; done | skip
  rename_i D
  have e := own_is h
  subst e
  have h : (if D = D then some true else none) = some b := h
  rw [if_pos rfl] at h
  cases h
  show PySem.W.kitOne K (.ref D) (.ref D) = some true
  unfold PySem.W.kitOne
  rw [if_pos (by simp)]
def mkRx {K : PySem.W.Frag} {h : Heap} {mg : Str → Option Value} (X : K.In h) (G : h.Ns mainGlobals mg) {t_DIGITS : Tok} {t_MOST_SIDES : Tok} {t_MOST_PLUS : Tok} {p_SIDE_LETTERS : Addr} {n_SIDE_LETTERS : Nat} {q_SIDE_LETTERS_0 : Tok} {q_SIDE_LETTERS_1 : Tok} {q_SIDE_LETTERS_2 : Tok} {dd_SIDE_LETTERS : Option Addr} {sl_SIDE_LETTERS : Array (Option Value)} {p_TURNS : Addr} {n_TURNS : Nat} {q_TURNS_0 : Tok} {q_TURNS_1 : Tok} {dd_TURNS : Option Addr} {sl_TURNS : Array (Option Value)} {f_number_of : Addr} {oc_number_of kV_number_of dc_number_of pm_number_of cd_number_of ct_number_of : Value} {od_number_of an_number_of : Option Addr} {sl_number_of : Array (Option Value)} {f_plus_of : Addr} {oc_plus_of kV_plus_of dc_plus_of pm_plus_of cd_plus_of ct_plus_of : Value} {od_plus_of an_plus_of : Option Addr} {sl_plus_of : Array (Option Value)} {f_side_of : Addr} {oc_side_of kV_side_of dc_side_of pm_side_of cd_side_of ct_side_of : Value} {od_side_of an_side_of : Option Addr} {sl_side_of : Array (Option Value)} {f_sides_of : Addr} {oc_sides_of kV_sides_of dc_sides_of pm_sides_of cd_sides_of ct_sides_of : Value} {od_sides_of an_sides_of : Option Addr} {sl_sides_of : Array (Option Value)} {f__law_spring : Addr} {oc__law_spring kV__law_spring dc__law_spring pm__law_spring cd__law_spring ct__law_spring : Value} {od__law_spring an__law_spring : Option Addr} {sl__law_spring : Array (Option Value)} {f__law_take : Addr} {oc__law_take kV__law_take dc__law_take pm__law_take cd__law_take ct__law_take : Value} {od__law_take an__law_take : Option Addr} {sl__law_take : Array (Option Value)} {f__law_shuts : Addr} {oc__law_shuts kV__law_shuts dc__law_shuts pm__law_shuts cd__law_shuts ct__law_shuts : Value} {od__law_shuts an__law_shuts : Option Addr} {sl__law_shuts : Array (Option Value)} {f__law_shut_row : Addr} {oc__law_shut_row kV__law_shut_row dc__law_shut_row pm__law_shut_row cd__law_shut_row ct__law_shut_row : Value} {od__law_shut_row an__law_shut_row : Option Addr} {sl__law_shut_row : Array (Option Value)} {f__law_plan : Addr} {oc__law_plan kV__law_plan dc__law_plan pm__law_plan cd__law_plan ct__law_plan : Value} {od__law_plan an__law_plan : Option Addr} {sl__law_plan : Array (Option Value)} {f__law_letters : Addr} {oc__law_letters kV__law_letters dc__law_letters pm__law_letters cd__law_letters ct__law_letters : Value} {od__law_letters an__law_letters : Option Addr} {sl__law_letters : Array (Option Value)} {f__law_shown_of : Addr} {oc__law_shown_of kV__law_shown_of dc__law_shown_of pm__law_shown_of cd__law_shown_of ct__law_shown_of : Value} {od__law_shown_of an__law_shown_of : Option Addr} {sl__law_shown_of : Array (Option Value)} {f__law_due_of : Addr} {oc__law_due_of kV__law_due_of dc__law_due_of pm__law_due_of cd__law_due_of ct__law_due_of : Value} {od__law_due_of an__law_due_of : Option Addr} {sl__law_due_of : Array (Option Value)} {f__law_right : Addr} {oc__law_right kV__law_right dc__law_right pm__law_right cd__law_right ct__law_right : Value} {od__law_right an__law_right : Option Addr} {sl__law_right : Array (Option Value)} {f_law : Addr} {oc_law kV_law dc_law pm_law cd_law ct_law : Value} {od_law an_law : Option Addr} {sl_law : Array (Option Value)} {C : Addr} {f___init__ : Addr} {oc___init__ kV___init__ dc___init__ pm___init__ cd___init__ ct___init__ : Value} {od___init__ an___init__ : Option Addr} {sl___init__ : Array (Option Value)} {p_text : Addr} {rest_text : List Value} {f_text : Addr} {oc_text kV_text dc_text pm_text cd_text ct_text : Value} {od_text an_text : Option Addr} {sl_text : Array (Option Value)} {p_sides : Addr} {rest_sides : List Value} {f_sides : Addr} {oc_sides kV_sides dc_sides pm_sides cd_sides ct_sides : Value} {od_sides an_sides : Option Addr} {sl_sides : Array (Option Value)} {p_letters : Addr} {rest_letters : List Value} {f_letters : Addr} {oc_letters kV_letters dc_letters pm_letters cd_letters ct_letters : Value} {od_letters an_letters : Option Addr} {sl_letters : Array (Option Value)} {f___eq__ : Addr} {oc___eq__ kV___eq__ dc___eq__ pm___eq__ cd___eq__ ct___eq__ : Value} {od___eq__ an___eq__ : Option Addr} {sl___eq__ : Array (Option Value)} {f___str__ : Addr} {oc___str__ kV___str__ dc___str__ pm___str__ cd___str__ ct___str__ : Value} {od___str__ an___str__ : Option Addr} {sl___str__ : Array (Option Value)} {f___len__ : Addr} {oc___len__ kV___len__ dc___len__ pm___len__ cd___len__ ct___len__ : Value} {od___len__ an___len__ : Option Addr} {sl___len__ : Array (Option Value)}
    (z_len : PySem.W.nsIn K mainGlobals "len" = some none)
    (z_int : PySem.W.nsIn K mainGlobals "int" = some none)
    (z_divmod : PySem.W.nsIn K mainGlobals "divmod" = some none)
    (z_range : PySem.W.nsIn K mainGlobals "range" = some none)
    (z_tuple : PySem.W.nsIn K mainGlobals "tuple" = some none)
    (z_str : PySem.W.nsIn K mainGlobals "str" = some none)
    (z_isinstance : PySem.W.nsIn K mainGlobals "isinstance" = some none)
    (z_repr : PySem.W.nsIn K mainGlobals "repr" = some none)
    (z_sorted : PySem.W.nsIn K mainGlobals "sorted" = some none)
    (z_bool : PySem.W.nsIn K mainGlobals "bool" = some none)
    (z_abs : PySem.W.nsIn K mainGlobals "abs" = some none)
    (z_max : PySem.W.nsIn K mainGlobals "max" = some none)
    (z_min : PySem.W.nsIn K mainGlobals "min" = some none)
    (z_all : PySem.W.nsIn K mainGlobals "all" = some none)
    (s_DIGITS : PySem.W.nsIn K mainGlobals "DIGITS" = some (some (.str "0123456789" t_DIGITS)))
    (s_MOST_SIDES : PySem.W.nsIn K mainGlobals "MOST_SIDES" = some (some (.int 12 t_MOST_SIDES)))
    (s_MOST_PLUS : PySem.W.nsIn K mainGlobals "MOST_PLUS" = some (some (.int 9 t_MOST_PLUS)))
    (s_SIDE_LETTERS : PySem.W.nsIn K mainGlobals "SIDE_LETTERS" = some (some (.ref p_SIDE_LETTERS)))
    (l_SIDE_LETTERS : K.lookup p_SIDE_LETTERS = some { cls := .type "tuple", dict := dd_SIDE_LETTERS, data := .seq #[.str "x" q_SIDE_LETTERS_0, .str "y" q_SIDE_LETTERS_1, .str "z" q_SIDE_LETTERS_2] n_SIDE_LETTERS, slots := sl_SIDE_LETTERS })
    (s_TURNS : PySem.W.nsIn K mainGlobals "TURNS" = some (some (.ref p_TURNS)))
    (l_TURNS : K.lookup p_TURNS = some { cls := .type "tuple", dict := dd_TURNS, data := .seq #[.str "out" q_TURNS_0, .str "in" q_TURNS_1] n_TURNS, slots := sl_TURNS })
    (a_number_of : PySem.W.nsIn K mainGlobals "number_of" = some (some (.ref f_number_of)))
    (l_number_of : K.lookup f_number_of = some ⟨oc_number_of, od_number_of, .func (PySem.W.fnOf "number_of" "number_of" (defArgs st_number_of) (defBody st_number_of) (defScope st_number_of) .none kV_number_of dc_number_of pm_number_of an_number_of cd_number_of ct_number_of), sl_number_of⟩)
    (c_number_of : PySem.W.codeIn K cd_number_of "number_of" = true)
    (k_number_of : PySem.W.keepIn K (.ref f_number_of) = true)
    (a_plus_of : PySem.W.nsIn K mainGlobals "plus_of" = some (some (.ref f_plus_of)))
    (l_plus_of : K.lookup f_plus_of = some ⟨oc_plus_of, od_plus_of, .func (PySem.W.fnOf "plus_of" "plus_of" (defArgs st_plus_of) (defBody st_plus_of) (defScope st_plus_of) .none kV_plus_of dc_plus_of pm_plus_of an_plus_of cd_plus_of ct_plus_of), sl_plus_of⟩)
    (c_plus_of : PySem.W.codeIn K cd_plus_of "plus_of" = true)
    (k_plus_of : PySem.W.keepIn K (.ref f_plus_of) = true)
    (a_side_of : PySem.W.nsIn K mainGlobals "side_of" = some (some (.ref f_side_of)))
    (l_side_of : K.lookup f_side_of = some ⟨oc_side_of, od_side_of, .func (PySem.W.fnOf "side_of" "side_of" (defArgs st_side_of) (defBody st_side_of) (defScope st_side_of) .none kV_side_of dc_side_of pm_side_of an_side_of cd_side_of ct_side_of), sl_side_of⟩)
    (c_side_of : PySem.W.codeIn K cd_side_of "side_of" = true)
    (k_side_of : PySem.W.keepIn K (.ref f_side_of) = true)
    (a_sides_of : PySem.W.nsIn K mainGlobals "sides_of" = some (some (.ref f_sides_of)))
    (l_sides_of : K.lookup f_sides_of = some ⟨oc_sides_of, od_sides_of, .func (PySem.W.fnOf "sides_of" "sides_of" (defArgs st_sides_of) (defBody st_sides_of) (defScope st_sides_of) .none kV_sides_of dc_sides_of pm_sides_of an_sides_of cd_sides_of ct_sides_of), sl_sides_of⟩)
    (c_sides_of : PySem.W.codeIn K cd_sides_of "sides_of" = true)
    (k_sides_of : PySem.W.keepIn K (.ref f_sides_of) = true)
    (a__law_spring : PySem.W.nsIn K mainGlobals "_law_spring" = some (some (.ref f__law_spring)))
    (l__law_spring : K.lookup f__law_spring = some ⟨oc__law_spring, od__law_spring, .func (PySem.W.fnOf "_law_spring" "_law_spring" (defArgs st__law_spring) (defBody st__law_spring) (defScope st__law_spring) .none kV__law_spring dc__law_spring pm__law_spring an__law_spring cd__law_spring ct__law_spring), sl__law_spring⟩)
    (c__law_spring : PySem.W.codeIn K cd__law_spring "_law_spring" = true)
    (k__law_spring : PySem.W.keepIn K (.ref f__law_spring) = true)
    (a__law_take : PySem.W.nsIn K mainGlobals "_law_take" = some (some (.ref f__law_take)))
    (l__law_take : K.lookup f__law_take = some ⟨oc__law_take, od__law_take, .func (PySem.W.fnOf "_law_take" "_law_take" (defArgs st__law_take) (defBody st__law_take) (defScope st__law_take) .none kV__law_take dc__law_take pm__law_take an__law_take cd__law_take ct__law_take), sl__law_take⟩)
    (c__law_take : PySem.W.codeIn K cd__law_take "_law_take" = true)
    (k__law_take : PySem.W.keepIn K (.ref f__law_take) = true)
    (a__law_shuts : PySem.W.nsIn K mainGlobals "_law_shuts" = some (some (.ref f__law_shuts)))
    (l__law_shuts : K.lookup f__law_shuts = some ⟨oc__law_shuts, od__law_shuts, .func (PySem.W.fnOf "_law_shuts" "_law_shuts" (defArgs st__law_shuts) (defBody st__law_shuts) (defScope st__law_shuts) .none kV__law_shuts dc__law_shuts pm__law_shuts an__law_shuts cd__law_shuts ct__law_shuts), sl__law_shuts⟩)
    (c__law_shuts : PySem.W.codeIn K cd__law_shuts "_law_shuts" = true)
    (k__law_shuts : PySem.W.keepIn K (.ref f__law_shuts) = true)
    (a__law_shut_row : PySem.W.nsIn K mainGlobals "_law_shut_row" = some (some (.ref f__law_shut_row)))
    (l__law_shut_row : K.lookup f__law_shut_row = some ⟨oc__law_shut_row, od__law_shut_row, .func (PySem.W.fnOf "_law_shut_row" "_law_shut_row" (defArgs st__law_shut_row) (defBody st__law_shut_row) (defScope st__law_shut_row) .none kV__law_shut_row dc__law_shut_row pm__law_shut_row an__law_shut_row cd__law_shut_row ct__law_shut_row), sl__law_shut_row⟩)
    (c__law_shut_row : PySem.W.codeIn K cd__law_shut_row "_law_shut_row" = true)
    (k__law_shut_row : PySem.W.keepIn K (.ref f__law_shut_row) = true)
    (a__law_plan : PySem.W.nsIn K mainGlobals "_law_plan" = some (some (.ref f__law_plan)))
    (l__law_plan : K.lookup f__law_plan = some ⟨oc__law_plan, od__law_plan, .func (PySem.W.fnOf "_law_plan" "_law_plan" (defArgs st__law_plan) (defBody st__law_plan) (defScope st__law_plan) .none kV__law_plan dc__law_plan pm__law_plan an__law_plan cd__law_plan ct__law_plan), sl__law_plan⟩)
    (c__law_plan : PySem.W.codeIn K cd__law_plan "_law_plan" = true)
    (k__law_plan : PySem.W.keepIn K (.ref f__law_plan) = true)
    (a__law_letters : PySem.W.nsIn K mainGlobals "_law_letters" = some (some (.ref f__law_letters)))
    (l__law_letters : K.lookup f__law_letters = some ⟨oc__law_letters, od__law_letters, .func (PySem.W.fnOf "_law_letters" "_law_letters" (defArgs st__law_letters) (defBody st__law_letters) (defScope st__law_letters) .none kV__law_letters dc__law_letters pm__law_letters an__law_letters cd__law_letters ct__law_letters), sl__law_letters⟩)
    (c__law_letters : PySem.W.codeIn K cd__law_letters "_law_letters" = true)
    (k__law_letters : PySem.W.keepIn K (.ref f__law_letters) = true)
    (a__law_shown_of : PySem.W.nsIn K mainGlobals "_law_shown_of" = some (some (.ref f__law_shown_of)))
    (l__law_shown_of : K.lookup f__law_shown_of = some ⟨oc__law_shown_of, od__law_shown_of, .func (PySem.W.fnOf "_law_shown_of" "_law_shown_of" (defArgs st__law_shown_of) (defBody st__law_shown_of) (defScope st__law_shown_of) .none kV__law_shown_of dc__law_shown_of pm__law_shown_of an__law_shown_of cd__law_shown_of ct__law_shown_of), sl__law_shown_of⟩)
    (c__law_shown_of : PySem.W.codeIn K cd__law_shown_of "_law_shown_of" = true)
    (k__law_shown_of : PySem.W.keepIn K (.ref f__law_shown_of) = true)
    (a__law_due_of : PySem.W.nsIn K mainGlobals "_law_due_of" = some (some (.ref f__law_due_of)))
    (l__law_due_of : K.lookup f__law_due_of = some ⟨oc__law_due_of, od__law_due_of, .func (PySem.W.fnOf "_law_due_of" "_law_due_of" (defArgs st__law_due_of) (defBody st__law_due_of) (defScope st__law_due_of) .none kV__law_due_of dc__law_due_of pm__law_due_of an__law_due_of cd__law_due_of ct__law_due_of), sl__law_due_of⟩)
    (c__law_due_of : PySem.W.codeIn K cd__law_due_of "_law_due_of" = true)
    (k__law_due_of : PySem.W.keepIn K (.ref f__law_due_of) = true)
    (a__law_right : PySem.W.nsIn K mainGlobals "_law_right" = some (some (.ref f__law_right)))
    (l__law_right : K.lookup f__law_right = some ⟨oc__law_right, od__law_right, .func (PySem.W.fnOf "_law_right" "_law_right" (defArgs st__law_right) (defBody st__law_right) (defScope st__law_right) .none kV__law_right dc__law_right pm__law_right an__law_right cd__law_right ct__law_right), sl__law_right⟩)
    (c__law_right : PySem.W.codeIn K cd__law_right "_law_right" = true)
    (k__law_right : PySem.W.keepIn K (.ref f__law_right) = true)
    (a_law : PySem.W.nsIn K mainGlobals "law" = some (some (.ref f_law)))
    (l_law : K.lookup f_law = some ⟨oc_law, od_law, .func (PySem.W.fnOf "law" "law" (defArgs st_law) (defBody st_law) (defScope st_law) .none kV_law dc_law pm_law an_law cd_law ct_law), sl_law⟩)
    (c_law : PySem.W.codeIn K cd_law "law" = true)
    (k_law : PySem.W.keepIn K (.ref f_law) = true)
    (aC : PySem.W.nsIn K mainGlobals "Room" = some (some (.ref C)))
    (pg : PySem.W.plainGet K C Str.empty = true)
    (hd : PySem.W.hasDictIn K C = true)
    (po : PySem.W.plainOver K C = true)
    (sa : PySem.W.findIn K (.ref C) "__setattr__" = some (some (.builtin "object.__setattr__")))
    (mk : PySem.W.makesIn K C = true)
    (kc : PySem.W.keepIn K (.ref C) = true)
    (n1 : PySem.W.findIn K (.ref C) "whole" = some none)
    (n2 : PySem.W.findIn K (.ref C) "rows" = some none)
    (n3 : PySem.W.findIn K (.ref C) "alphabet" = some none)
    (ne_ : PySem.W.findIn K (.ref C) "__ne__" = some (some (.builtin "object.__ne__")))
    (mro_ : PySem.W.mroIn K C (.type "object") = some true)
    (bool_ : PySem.W.findIn K (.ref C) "__bool__" = some none)
    (hcl : PySem.W.findIn K (.ref C) "__class__" = some (some (.builtin "object.__class__")))
    (hsp : PySem.W.specialIn K (.builtin "object.__class__") "__get__" = some (some (.builtin "getset_descriptor.__get__")))
    (htk : PySem.W.takesIn K (.builtin "object.__class__") = some true)
    (e___init__ : PySem.W.findIn K (.ref C) "__init__" = some (some (.ref f___init__)))
    (i___init__ : PySem.W.isFn K (.ref f___init__) = true)
    (l___init__ : K.lookup f___init__ = some ⟨oc___init__, od___init__, .func (PySem.W.fnOf "__init__" "Room.__init__" (defArgs st___init__) (defBody st___init__) (defScope st___init__) .none kV___init__ dc___init__ pm___init__ an___init__ cd___init__ ct___init__), sl___init__⟩)
    (c___init__ : PySem.W.codeIn K cd___init__ "Room.__init__" = true)
    (k___init__ : PySem.W.keepIn K (.ref f___init__) = true)
    (e_text : PySem.W.findIn K (.ref C) "text" = some (some (.ref p_text)))
    (g_text : PySem.W.specialIn K (.ref p_text) "__get__" = some (some (.builtin "property.__get__")))
    (tk_text : PySem.W.takesIn K (.ref p_text) = some true)
    (r_text : PySem.W.recIn K p_text "property" = some (.ref f_text :: rest_text))
    (l_text : K.lookup f_text = some ⟨oc_text, od_text, .func (PySem.W.fnOf "text" "Room.text" (defArgs st_text) (defBody st_text) (defScope st_text) .none kV_text dc_text pm_text an_text cd_text ct_text), sl_text⟩)
    (c_text : PySem.W.codeIn K cd_text "Room.text" = true)
    (k_text : PySem.W.keepIn K (.ref f_text) = true)
    (e_sides : PySem.W.findIn K (.ref C) "sides" = some (some (.ref p_sides)))
    (g_sides : PySem.W.specialIn K (.ref p_sides) "__get__" = some (some (.builtin "property.__get__")))
    (tk_sides : PySem.W.takesIn K (.ref p_sides) = some true)
    (r_sides : PySem.W.recIn K p_sides "property" = some (.ref f_sides :: rest_sides))
    (l_sides : K.lookup f_sides = some ⟨oc_sides, od_sides, .func (PySem.W.fnOf "sides" "Room.sides" (defArgs st_sides) (defBody st_sides) (defScope st_sides) .none kV_sides dc_sides pm_sides an_sides cd_sides ct_sides), sl_sides⟩)
    (c_sides : PySem.W.codeIn K cd_sides "Room.sides" = true)
    (k_sides : PySem.W.keepIn K (.ref f_sides) = true)
    (e_letters : PySem.W.findIn K (.ref C) "letters" = some (some (.ref p_letters)))
    (g_letters : PySem.W.specialIn K (.ref p_letters) "__get__" = some (some (.builtin "property.__get__")))
    (tk_letters : PySem.W.takesIn K (.ref p_letters) = some true)
    (r_letters : PySem.W.recIn K p_letters "property" = some (.ref f_letters :: rest_letters))
    (l_letters : K.lookup f_letters = some ⟨oc_letters, od_letters, .func (PySem.W.fnOf "letters" "Room.letters" (defArgs st_letters) (defBody st_letters) (defScope st_letters) .none kV_letters dc_letters pm_letters an_letters cd_letters ct_letters), sl_letters⟩)
    (c_letters : PySem.W.codeIn K cd_letters "Room.letters" = true)
    (k_letters : PySem.W.keepIn K (.ref f_letters) = true)
    (e___eq__ : PySem.W.findIn K (.ref C) "__eq__" = some (some (.ref f___eq__)))
    (i___eq__ : PySem.W.isFn K (.ref f___eq__) = true)
    (l___eq__ : K.lookup f___eq__ = some ⟨oc___eq__, od___eq__, .func (PySem.W.fnOf "__eq__" "Room.__eq__" (defArgs st___eq__) (defBody st___eq__) (defScope st___eq__) .none kV___eq__ dc___eq__ pm___eq__ an___eq__ cd___eq__ ct___eq__), sl___eq__⟩)
    (c___eq__ : PySem.W.codeIn K cd___eq__ "Room.__eq__" = true)
    (k___eq__ : PySem.W.keepIn K (.ref f___eq__) = true)
    (e___str__ : PySem.W.findIn K (.ref C) "__str__" = some (some (.ref f___str__)))
    (i___str__ : PySem.W.isFn K (.ref f___str__) = true)
    (l___str__ : K.lookup f___str__ = some ⟨oc___str__, od___str__, .func (PySem.W.fnOf "__str__" "Room.__str__" (defArgs st___str__) (defBody st___str__) (defScope st___str__) .none kV___str__ dc___str__ pm___str__ an___str__ cd___str__ ct___str__), sl___str__⟩)
    (c___str__ : PySem.W.codeIn K cd___str__ "Room.__str__" = true)
    (k___str__ : PySem.W.keepIn K (.ref f___str__) = true)
    (e___len__ : PySem.W.findIn K (.ref C) "__len__" = some (some (.ref f___len__)))
    (i___len__ : PySem.W.isFn K (.ref f___len__) = true)
    (l___len__ : K.lookup f___len__ = some ⟨oc___len__, od___len__, .func (PySem.W.fnOf "__len__" "Room.__len__" (defArgs st___len__) (defBody st___len__) (defScope st___len__) .none kV___len__ dc___len__ pm___len__ an___len__ cd___len__ ct___len__), sl___len__⟩)
    (c___len__ : PySem.W.codeIn K cd___len__ "Room.__len__" = true)
    (k___len__ : PySem.W.keepIn K (.ref f___len__) = true) : Rx K mg where
  n_len := PySem.W.mg_none_of X G z_len
  n_int := PySem.W.mg_none_of X G z_int
  n_divmod := PySem.W.mg_none_of X G z_divmod
  n_range := PySem.W.mg_none_of X G z_range
  n_tuple := PySem.W.mg_none_of X G z_tuple
  n_str := PySem.W.mg_none_of X G z_str
  n_isinstance := PySem.W.mg_none_of X G z_isinstance
  n_repr := PySem.W.mg_none_of X G z_repr
  n_sorted := PySem.W.mg_none_of X G z_sorted
  n_bool := PySem.W.mg_none_of X G z_bool
  n_abs := PySem.W.mg_none_of X G z_abs
  n_max := PySem.W.mg_none_of X G z_max
  n_min := PySem.W.mg_none_of X G z_min
  n_all := PySem.W.mg_none_of X G z_all
  c_DIGITS := ⟨_, PySem.W.mg_of X G s_DIGITS⟩
  c_MOST_SIDES := ⟨_, PySem.W.mg_of X G s_MOST_SIDES⟩
  c_MOST_PLUS := ⟨_, PySem.W.mg_of X G s_MOST_PLUS⟩
  c_SIDE_LETTERS := ⟨_, PySem.W.mg_of X G s_SIDE_LETTERS, fun H => .inr ⟨_, _, _, l_SIDE_LETTERS, rfl, rfl, by show 3 ≤ sizeLine; decide, .cons ⟨_, rfl⟩ (.cons ⟨_, rfl⟩ (.cons ⟨_, rfl⟩ (.nil)))⟩⟩
  c_TURNS := ⟨_, PySem.W.mg_of X G s_TURNS, fun H => .inr ⟨_, _, _, l_TURNS, rfl, rfl, by show 2 ≤ sizeLine; decide, .cons ⟨_, rfl⟩ (.cons ⟨_, rfl⟩ (.nil))⟩⟩
  a_number_of := f_number_of
  d_number_of := PySem.W.fnOf "number_of" "number_of" (defArgs st_number_of) (defBody st_number_of) (defScope st_number_of) .none kV_number_of dc_number_of pm_number_of an_number_of cd_number_of ct_number_of
  F_number_of := fun_mk (st := st_number_of) l_number_of c_number_of k_number_of
  b_number_of := (fun_mk (st := st_number_of) l_number_of c_number_of k_number_of).binds (ps := ["text", "least", "most"]) fun _ _ _ _ _ _ us hl => match us, hl with | [_, _, _], _ => rfl
  g_number_of := PySem.W.mg_of X G a_number_of
  a_plus_of := f_plus_of
  d_plus_of := PySem.W.fnOf "plus_of" "plus_of" (defArgs st_plus_of) (defBody st_plus_of) (defScope st_plus_of) .none kV_plus_of dc_plus_of pm_plus_of an_plus_of cd_plus_of ct_plus_of
  F_plus_of := fun_mk (st := st_plus_of) l_plus_of c_plus_of k_plus_of
  b_plus_of := (fun_mk (st := st_plus_of) l_plus_of c_plus_of k_plus_of).binds (ps := ["text"]) fun _ _ _ _ _ _ us hl => match us, hl with | [_], _ => rfl
  g_plus_of := PySem.W.mg_of X G a_plus_of
  a_side_of := f_side_of
  d_side_of := PySem.W.fnOf "side_of" "side_of" (defArgs st_side_of) (defBody st_side_of) (defScope st_side_of) .none kV_side_of dc_side_of pm_side_of an_side_of cd_side_of ct_side_of
  F_side_of := fun_mk (st := st_side_of) l_side_of c_side_of k_side_of
  b_side_of := (fun_mk (st := st_side_of) l_side_of c_side_of k_side_of).binds (ps := ["text"]) fun _ _ _ _ _ _ us hl => match us, hl with | [_], _ => rfl
  g_side_of := PySem.W.mg_of X G a_side_of
  a_sides_of := f_sides_of
  d_sides_of := PySem.W.fnOf "sides_of" "sides_of" (defArgs st_sides_of) (defBody st_sides_of) (defScope st_sides_of) .none kV_sides_of dc_sides_of pm_sides_of an_sides_of cd_sides_of ct_sides_of
  F_sides_of := fun_mk (st := st_sides_of) l_sides_of c_sides_of k_sides_of
  b_sides_of := (fun_mk (st := st_sides_of) l_sides_of c_sides_of k_sides_of).binds (ps := ["text"]) fun _ _ _ _ _ _ us hl => match us, hl with | [_], _ => rfl
  g_sides_of := PySem.W.mg_of X G a_sides_of
  a__law_spring := f__law_spring
  d__law_spring := PySem.W.fnOf "_law_spring" "_law_spring" (defArgs st__law_spring) (defBody st__law_spring) (defScope st__law_spring) .none kV__law_spring dc__law_spring pm__law_spring an__law_spring cd__law_spring ct__law_spring
  F__law_spring := fun_mk (st := st__law_spring) l__law_spring c__law_spring k__law_spring
  b__law_spring := (fun_mk (st := st__law_spring) l__law_spring c__law_spring k__law_spring).binds (ps := ["_law_cells", "_law_at"]) fun _ _ _ _ _ _ us hl => match us, hl with | [_, _], _ => rfl
  g__law_spring := PySem.W.mg_of X G a__law_spring
  a__law_take := f__law_take
  d__law_take := PySem.W.fnOf "_law_take" "_law_take" (defArgs st__law_take) (defBody st__law_take) (defScope st__law_take) .none kV__law_take dc__law_take pm__law_take an__law_take cd__law_take ct__law_take
  F__law_take := fun_mk (st := st__law_take) l__law_take c__law_take k__law_take
  b__law_take := (fun_mk (st := st__law_take) l__law_take c__law_take k__law_take).binds (ps := ["_law_spring_here", "_law_much"]) fun _ _ _ _ _ _ us hl => match us, hl with | [_, _], _ => rfl
  g__law_take := PySem.W.mg_of X G a__law_take
  a__law_shuts := f__law_shuts
  d__law_shuts := PySem.W.fnOf "_law_shuts" "_law_shuts" (defArgs st__law_shuts) (defBody st__law_shuts) (defScope st__law_shuts) .none kV__law_shuts dc__law_shuts pm__law_shuts an__law_shuts cd__law_shuts ct__law_shuts
  F__law_shuts := fun_mk (st := st__law_shuts) l__law_shuts c__law_shuts k__law_shuts
  b__law_shuts := (fun_mk (st := st__law_shuts) l__law_shuts c__law_shuts k__law_shuts).binds (ps := ["_law_spring_here", "_law_most_here", "_law_reach", "_law_lean"]) fun _ _ _ _ _ _ us hl => match us, hl with | [_, _, _, _], _ => rfl
  g__law_shuts := PySem.W.mg_of X G a__law_shuts
  a__law_shut_row := f__law_shut_row
  d__law_shut_row := PySem.W.fnOf "_law_shut_row" "_law_shut_row" (defArgs st__law_shut_row) (defBody st__law_shut_row) (defScope st__law_shut_row) .none kV__law_shut_row dc__law_shut_row pm__law_shut_row an__law_shut_row cd__law_shut_row ct__law_shut_row
  F__law_shut_row := fun_mk (st := st__law_shut_row) l__law_shut_row c__law_shut_row k__law_shut_row
  b__law_shut_row := (fun_mk (st := st__law_shut_row) l__law_shut_row c__law_shut_row k__law_shut_row).binds (ps := ["_law_shut"]) fun _ _ _ _ _ _ us hl => match us, hl with | [_], _ => rfl
  g__law_shut_row := PySem.W.mg_of X G a__law_shut_row
  a__law_plan := f__law_plan
  d__law_plan := PySem.W.fnOf "_law_plan" "_law_plan" (defArgs st__law_plan) (defBody st__law_plan) (defScope st__law_plan) .none kV__law_plan dc__law_plan pm__law_plan an__law_plan cd__law_plan ct__law_plan
  F__law_plan := fun_mk (st := st__law_plan) l__law_plan c__law_plan k__law_plan
  b__law_plan := (fun_mk (st := st__law_plan) l__law_plan c__law_plan k__law_plan).binds (ps := ["_law_shuts_here"]) fun _ _ _ _ _ _ us hl => match us, hl with | [_], _ => rfl
  g__law_plan := PySem.W.mg_of X G a__law_plan
  a__law_letters := f__law_letters
  d__law_letters := PySem.W.fnOf "_law_letters" "_law_letters" (defArgs st__law_letters) (defBody st__law_letters) (defScope st__law_letters) .none kV__law_letters dc__law_letters pm__law_letters an__law_letters cd__law_letters ct__law_letters
  F__law_letters := fun_mk (st := st__law_letters) l__law_letters c__law_letters k__law_letters
  b__law_letters := (fun_mk (st := st__law_letters) l__law_letters c__law_letters k__law_letters).binds (ps := ["_law_shuts_here"]) fun _ _ _ _ _ _ us hl => match us, hl with | [_], _ => rfl
  g__law_letters := PySem.W.mg_of X G a__law_letters
  a__law_shown_of := f__law_shown_of
  d__law_shown_of := PySem.W.fnOf "_law_shown_of" "_law_shown_of" (defArgs st__law_shown_of) (defBody st__law_shown_of) (defScope st__law_shown_of) .none kV__law_shown_of dc__law_shown_of pm__law_shown_of an__law_shown_of cd__law_shown_of ct__law_shown_of
  F__law_shown_of := fun_mk (st := st__law_shown_of) l__law_shown_of c__law_shown_of k__law_shown_of
  b__law_shown_of := (fun_mk (st := st__law_shown_of) l__law_shown_of c__law_shown_of k__law_shown_of).binds (ps := ["_law_mine"]) fun _ _ _ _ _ _ us hl => match us, hl with | [_], _ => rfl
  g__law_shown_of := PySem.W.mg_of X G a__law_shown_of
  a__law_due_of := f__law_due_of
  d__law_due_of := PySem.W.fnOf "_law_due_of" "_law_due_of" (defArgs st__law_due_of) (defBody st__law_due_of) (defScope st__law_due_of) .none kV__law_due_of dc__law_due_of pm__law_due_of an__law_due_of cd__law_due_of ct__law_due_of
  F__law_due_of := fun_mk (st := st__law_due_of) l__law_due_of c__law_due_of k__law_due_of
  b__law_due_of := (fun_mk (st := st__law_due_of) l__law_due_of c__law_due_of k__law_due_of).binds (ps := ["_law_shuts_here"]) fun _ _ _ _ _ _ us hl => match us, hl with | [_], _ => rfl
  g__law_due_of := PySem.W.mg_of X G a__law_due_of
  a__law_right := f__law_right
  d__law_right := PySem.W.fnOf "_law_right" "_law_right" (defArgs st__law_right) (defBody st__law_right) (defScope st__law_right) .none kV__law_right dc__law_right pm__law_right an__law_right cd__law_right ct__law_right
  F__law_right := fun_mk (st := st__law_right) l__law_right c__law_right k__law_right
  b__law_right := (fun_mk (st := st__law_right) l__law_right c__law_right k__law_right).binds (ps := ["_law_spring_here"]) fun _ _ _ _ _ _ us hl => match us, hl with | [_], _ => rfl
  g__law_right := PySem.W.mg_of X G a__law_right
  a_law := f_law
  d_law := PySem.W.fnOf "law" "law" (defArgs st_law) (defBody st_law) (defScope st_law) .none kV_law dc_law pm_law an_law cd_law ct_law
  F_law := fun_mk (st := st_law) l_law c_law k_law
  b_law := (fun_mk (st := st_law) l_law c_law k_law).binds (ps := ["_law_cells"]) fun _ _ _ _ _ _ us hl => match us, hl with | [_], _ => rfl
  g_law := PySem.W.mg_of X G a_law
  a___init__ := f___init__
  d___init__ := PySem.W.fnOf "__init__" "Room.__init__" (defArgs st___init__) (defBody st___init__) (defScope st___init__) .none kV___init__ dc___init__ pm___init__ an___init__ cd___init__ ct___init__
  F___init__ := fun_mk (st := st___init__) l___init__ c___init__ k___init__
  b___init__ := (fun_mk (st := st___init__) l___init__ c___init__ k___init__).binds (ps := ["self", "text"]) fun _ _ _ _ _ _ us hl => match us, hl with | [_, _], _ => rfl
  p_text := p_text
  P_text := ⟨e_text, g_text, tk_text, ⟨_, r_text⟩⟩
  a_text := f_text
  d_text := PySem.W.fnOf "text" "Room.text" (defArgs st_text) (defBody st_text) (defScope st_text) .none kV_text dc_text pm_text an_text cd_text ct_text
  F_text := fun_mk (st := st_text) l_text c_text k_text
  b_text := (fun_mk (st := st_text) l_text c_text k_text).binds (ps := ["self"]) fun _ _ _ _ _ _ us hl => match us, hl with | [_], _ => rfl
  p_sides := p_sides
  P_sides := ⟨e_sides, g_sides, tk_sides, ⟨_, r_sides⟩⟩
  a_sides := f_sides
  d_sides := PySem.W.fnOf "sides" "Room.sides" (defArgs st_sides) (defBody st_sides) (defScope st_sides) .none kV_sides dc_sides pm_sides an_sides cd_sides ct_sides
  F_sides := fun_mk (st := st_sides) l_sides c_sides k_sides
  b_sides := (fun_mk (st := st_sides) l_sides c_sides k_sides).binds (ps := ["self"]) fun _ _ _ _ _ _ us hl => match us, hl with | [_], _ => rfl
  p_letters := p_letters
  P_letters := ⟨e_letters, g_letters, tk_letters, ⟨_, r_letters⟩⟩
  a_letters := f_letters
  d_letters := PySem.W.fnOf "letters" "Room.letters" (defArgs st_letters) (defBody st_letters) (defScope st_letters) .none kV_letters dc_letters pm_letters an_letters cd_letters ct_letters
  F_letters := fun_mk (st := st_letters) l_letters c_letters k_letters
  b_letters := (fun_mk (st := st_letters) l_letters c_letters k_letters).binds (ps := ["self"]) fun _ _ _ _ _ _ us hl => match us, hl with | [_], _ => rfl
  f___eq__ := e___eq__
  k___eq__ := i___eq__
  a___eq__ := f___eq__
  d___eq__ := PySem.W.fnOf "__eq__" "Room.__eq__" (defArgs st___eq__) (defBody st___eq__) (defScope st___eq__) .none kV___eq__ dc___eq__ pm___eq__ an___eq__ cd___eq__ ct___eq__
  F___eq__ := fun_mk (st := st___eq__) l___eq__ c___eq__ k___eq__
  b___eq__ := (fun_mk (st := st___eq__) l___eq__ c___eq__ k___eq__).binds (ps := ["self", "other"]) fun _ _ _ _ _ _ us hl => match us, hl with | [_, _], _ => rfl
  f___str__ := e___str__
  k___str__ := i___str__
  a___str__ := f___str__
  d___str__ := PySem.W.fnOf "__str__" "Room.__str__" (defArgs st___str__) (defBody st___str__) (defScope st___str__) .none kV___str__ dc___str__ pm___str__ an___str__ cd___str__ ct___str__
  F___str__ := fun_mk (st := st___str__) l___str__ c___str__ k___str__
  b___str__ := (fun_mk (st := st___str__) l___str__ c___str__ k___str__).binds (ps := ["self"]) fun _ _ _ _ _ _ us hl => match us, hl with | [_], _ => rfl
  f___len__ := e___len__
  k___len__ := i___len__
  a___len__ := f___len__
  d___len__ := PySem.W.fnOf "__len__" "Room.__len__" (defArgs st___len__) (defBody st___len__) (defScope st___len__) .none kV___len__ dc___len__ pm___len__ an___len__ cd___len__ ct___len__
  F___len__ := fun_mk (st := st___len__) l___len__ c___len__ k___len__
  b___len__ := (fun_mk (st := st___len__) l___len__ c___len__ k___len__).binds (ps := ["self"]) fun _ _ _ _ _ _ us hl => match us, hl with | [_], _ => rfl
  C := C
  g_Room := PySem.W.mg_of X G aC
  cl := ⟨pg, hd, po, sa⟩
  na_whole := n1
  na_rows := n2
  na_alphabet := n3
  ne_ := ne_
  mro_ := mro_
  bool_ := bool_
  i_Room := ⟨fun t b h => own_kit t b h, fun D b h => by rw [own_is h]; exact ⟨⟨pg, hd, po, sa⟩, hcl, hsp, htk, mro_⟩⟩
  mkR := ⟨mk, e___init__, i___init__, kc⟩
  kb := ⟨fun s us ws X l1 l2 => match us, ws, l1, l2 with | [_], [_], _, _ => .of_eq rfl, fun r1 r2 => r1.append r2⟩
end K05

namespace K05
open PySem PySem.Spec PyProof.Rows L2 Cw
theorem sc___init__ : FnScope ["self", "text", "sides", "side"] ["self", "text"] (defScope st___init__) := ⟨rfl, rfl, rfl, by decide +kernel, rfl, by decide +kernel, by decide +kernel⟩
theorem sort3 {ss : List Sh} (h : oks ss) {zs : List Str} (h1 : zs.Nodup) (h2 : sortedS zs = true) (h3 : ∀ x, x ∈ zs ↔ x ∈ ss.map fun s => one s.l) : zs = ([120, 121, 122].filter (hasL ss)).map one := by
  have e : hasL ss = fun k => decide (one k ∈ zs) := by
    funext k
    unfold hasL
    by_cases hk : one k ∈ zs
    · rw [decide_eq_true hk, decide_eq_true ((h3 _).mp hk)]
    · rw [decide_eq_false hk, decide_eq_false fun z => hk ((h3 _).mpr z)]
  have hk : ∀ x ∈ zs, x = one 120 ∨ x = one 121 ∨ x = one 122 := fun x hx => by
    obtain ⟨s, hs, rfl⟩ := List.mem_map.mp ((h3 x).mp hx)
    rcases (h.2 s hs).1 with e | e | e <;> rw [e] <;> simp
  rw [e]
  clear h3 e
  match zs, h1, h2, hk with
  | [], _, _, _ => decide +kernel
  | [a], h1, h2, hk =>
    rcases hk a (by simp) with rfl | rfl | rfl <;> decide +kernel
  | [a, b], h1, h2, hk =>
    rcases hk a (by simp) with rfl | rfl | rfl <;> rcases hk b (by simp) with rfl | rfl | rfl <;> first | decide +kernel | exact absurd h2 (by decide +kernel) | exact absurd h1 (by decide +kernel)
  | [a, b, c], h1, h2, hk =>
    rcases hk a (by simp) with rfl | rfl | rfl <;> rcases hk b (by simp) with rfl | rfl | rfl <;> rcases hk c (by simp) with rfl | rfl | rfl <;> first | decide +kernel | exact absurd h2 (by decide +kernel) | exact absurd h1 (by decide +kernel)
  | a :: b :: c :: d :: r, h1, _, hk =>
    exfalso
    have n1 := (List.nodup_cons.mp h1)
    have n2 := (List.nodup_cons.mp n1.2)
    have n3 := (List.nodup_cons.mp n2.2)
    have m1 : b ≠ a := fun z => n1.1 (by simp [z])
    have m2 : c ≠ a := fun z => n1.1 (by simp [z])
    have m3 : d ≠ a := fun z => n1.1 (by simp [z])
    have m4 : c ≠ b := fun z => n2.1 (by simp [z])
    have m5 : d ≠ b := fun z => n2.1 (by simp [z])
    have m6 : d ≠ c := fun z => n3.1 (by simp [z])
    rcases hk a (by simp) with rfl | rfl | rfl <;> rcases hk b (by simp) with rfl | rfl | rfl <;> first | exact m1 rfl | skip
    all_goals rcases hk c (by simp) with rfl | rfl | rfl <;> first | exact m2 rfl | exact m4 rfl | skip
    all_goals rcases hk d (by simp) with rfl | rfl | rfl <;> first | exact m3 rfl | exact m5 rfl | exact m6 rfl
section
variable {P : Program} {w : World} {K : PySem.W.Frag} {mg : Str → Option Value} {base : Heap}
set_option maxHeartbeats 8000000 in
theorem ok___init__ (T : Rx K mg) : FnOk P w K mg base CX0 6 T.a___init__ T.d___init__ ["self", "text"] (spD K 1 2 (S_init T.C)) := by
  refine fnD T.F___init__ sc___init__ fun cdv A outer s H E hr => ⟨_, (psd_cons (psd_set (i := 2) sc___init__.nd (pd_callP (ok_sides_of T.toTx) (hr.mono (by decide)) T.g_sides_of T.F_sides_of.kp T.b_sides_of pass0 (pds_cons (pd_v 1) pds_nil)))
    (psd_cons (psd_if (pdt_isn (pd_v 2) pd_non) (psd_one psd_never) psd_nil)
    (psd_cons (psd_stf T.cl T.na_whole (pd_v 0) (pd_v 1)) (psd_cons (psd_stf T.cl T.na_rows (pd_v 0) (pd_v 2))
    (psd_one (psd_stf T.cl T.na_alphabet (pd_v 0) (pd_join pd_str (pd_sortSet T.n_sorted rfl sc___init__.nd (pid_tup (pd_v 2)) (by kernel_rfl) (fun _ _ _ _ _ => pg_name (i := 3) sc___init__.nd rfl (Or.inl rfl)) (fun _ _ _ _ _ => (pd_ix (pd_v 3) pd_int)))))))))), ?_⟩
  rintro c ds Φ hc - ⟨ss, rfl, rfl, hs, hn, hΦ⟩
  conv => whnf
  refine ⟨rfl, rfl, ss, rfl, hs, hn, ?_⟩
  conv => whnf
  refine ⟨0, [], [], rfl, rfl, by decide, ?_⟩
  conv => whnf
  refine ⟨0, _, _, rfl, rfl, by show (1 : Nat) < 1000; decide, ?_⟩
  conv => whnf
  refine ⟨_, rfl, ?_⟩
  conv => whnf
  refine ⟨ss.map fun s => one s.l, by rw [List.length_map, List.length_map], by rw [List.length_map]; have := hs.1; omega, ?_, fun zs hz1 hz2 hz3 => ?_⟩
  · intro j d y hd hy Ψ h
    rw [List.getElem?_map] at hd hy
    cases e : ss[j]? with
    | none => rw [e] at hd; cases hd
    | some s =>
      rw [e] at hd hy
      cases hd; cases hy
      exact h
  · have ez : zs = ([120, 121, 122].filter (hasL ss)).map one := sort3 hs hz1 hz2 hz3
    conv => whnf
    refine ⟨zs, txts_strs zs, ?_, ?_⟩
    · have h2 : ([120, 121, 122].filter (hasL ss)).length ≤ 3 := List.length_filter_le _ _
      have h3 : ∀ l : List Nat, ((l.map one).map (·.length)).sum = l.length := fun l => by
        induction l with
        | nil => rfl
        | cons a l ih =>
          show (1 : Nat) + ((l.map one).map (·.length)).sum = l.length + 1
          rw [ih]; omega
      rw [ez, h3, List.length_map, show (Str.ofString "").length = 0 from rfl]
      omega
    · have e1 : Txt.join (Str.ofString "") zs = lettersS ss := by rw [ez]; rfl
      rw [e1]
      conv => whnf
      refine ⟨0, _, _, rfl, rfl, by show (2 : Nat) < 1000; decide, ?_⟩
      conv => whnf
      exact hΦ

end
end K05

namespace K05
open PySem PySem.Spec PyProof.Rows L2 Cw
theorem law_in {K : PySem.W.Frag} {H : Hp} {a : Addr} {ns : List Int} (hl : ns.length ≤ 63) (h : SqL K H a (ns.map V.int)) : spD K 0 1 S_law [.ref a] H (fun v _ => v = .bl true) fun _ _ _ => False := by
  have e : hid ⟨[], []⟩ H = H := by funext b; unfold hid; simp
  have ri : ∀ ns : List Int, RL K [] H (ns.map D.int) (ns.map V.int) := fun ns => by
    induction ns with
    | nil => rfl
    | cons n ns ih => exact ⟨_, _, rfl, rfl, ih⟩
  refine ⟨⟨[], []⟩, [], [intsD ns], fun d _ => d = .bl true, rfl, rfl, ⟨rfl, List.nodup_nil, fun k ce e => by simp at e, fun b hb => absurd (show b ∈ ([] : List Addr) from hb) (by simp), fun b hb => absurd (show b ∈ ([] : List Addr) from hb) (by simp)⟩, ?_, ⟨ns, rfl, hl, rfl⟩, fun d c' w H' hd _ r _ => ?_⟩
  · show RL K [] (hid ⟨[], []⟩ H) [intsD ns] [.ref a]
    rw [e]
    exact ⟨.ref a, [], rfl, ⟨a, _, rfl, h, ri ns⟩, rfl⟩
  · subst hd
    exact r
theorem fin {l : PySem.W.OpenLaw} {w : World} {K : PySem.W.Frag} {mg : Str → Option Value} {fa : Addr} (T : Rx K mg) (hb : ∀ (s : Shared) (v : Value), BindsTo s T.d_law ⟨[v], []⟩ [("_law_cells", v)]) (hfa : mg "law" = some (.ref fa)) :
    ∃ fd : FuncData, (∀ (s : Shared) (v : Value), BindsTo s fd ⟨[v], []⟩ [("_law_cells", v)]) ∧ ∀ base : Heap, K.In base → base.Ns mainGlobals mg → FnG l.prog w K mg base 10 fa fd ["_law_cells"] (spD K 0 1 S_law) := by
  have e := hfa.symm.trans T.g_law
  have e : fa = T.a_law := by injection e with e; injection e
  subst e
  exact ⟨T.d_law, hb, fun base _ _ => ok_law T (ok___init__ T)⟩
theorem walk5 {l : PySem.W.OpenLaw} {q : Program} {loose : List Str} {XP : (Str → Option Value) → Heap → Prop} {YP : World → Heap → Prop} {d : DefRec} {K : Params → PySem.W.Frag} (hn : l.most = some 63) (hdf : d.params.defaults = [])
    (hY : ∀ (w : World) (h : Heap), YP w h → (K w.params).In h)
    (F : ∀ (w : World) (mg : Str → Option Value) (fa : Addr) (h : Heap), (K w.params).In h → h.Ns mainGlobals mg → mg d.name = some (.ref fa) →
      ∃ fd : FuncData, (∀ (s : Shared) (u : Value), BindsTo s fd ⟨[u], []⟩ [("_law_cells", u)]) ∧ ∀ base : Heap, (K w.params).In base → base.Ns mainGlobals mg → FnG l.prog w (K w.params) mg base 10 fa fd ["_law_cells"] (spD (K w.params) 0 1 S_law)) :
    PySem.W.WalkO q loose XP YP l.row.toRowW d [] (fun f vs => PySem.call f vs) :=
  walkG (n := 63) (k := 10) (x := "_law_cells") (sp := fun w => spD (K w.params) 0 1 S_law) hn (by decide) hdf ⟨rfl, by decide, by decide⟩ hY F fun _ _ _ _ _ hl _ _ hS => law_in hl hS
end K05
open PySem PySem.W PyProof.Rows
set_option maxRecDepth 100000 in
set_option maxHeartbeats 0 in
theorem PySem.Challenge.cw_cornerways_k05_rooms_made_holds : PySem.Challenge.rw_cornerways_k05_rooms_made.Holds := by
  w_on; o_law; k_head; (case hw => w_witness2)
  k_fill
  refine K05.walk5 (l := PySem.Challenge.rw_cornerways_k05_rooms_made) rfl rfl (fun w h Y => PySem.W.kIn_of Y) ?F
  case F =>
    intro w mg fa h KX G hmg
    refine' K05.fin (K05.mkRx KX G ?z_len ?z_int ?z_divmod ?z_range ?z_tuple ?z_str ?z_isinstance ?z_repr ?z_sorted ?z_bool ?z_abs ?z_max ?z_min ?z_all ?s_DIGITS ?s_MOST_SIDES ?s_MOST_PLUS ?s_SIDE_LETTERS ?l_SIDE_LETTERS ?s_TURNS ?l_TURNS ?a_number_of ?l_number_of ?c_number_of ?k_number_of ?a_plus_of ?l_plus_of ?c_plus_of ?k_plus_of ?a_side_of ?l_side_of ?c_side_of ?k_side_of ?a_sides_of ?l_sides_of ?c_sides_of ?k_sides_of ?a__law_spring ?l__law_spring ?c__law_spring ?k__law_spring ?a__law_take ?l__law_take ?c__law_take ?k__law_take ?a__law_shuts ?l__law_shuts ?c__law_shuts ?k__law_shuts ?a__law_shut_row ?l__law_shut_row ?c__law_shut_row ?k__law_shut_row ?a__law_plan ?l__law_plan ?c__law_plan ?k__law_plan ?a__law_letters ?l__law_letters ?c__law_letters ?k__law_letters ?a__law_shown_of ?l__law_shown_of ?c__law_shown_of ?k__law_shown_of ?a__law_due_of ?l__law_due_of ?c__law_due_of ?k__law_due_of ?a__law_right ?l__law_right ?c__law_right ?k__law_right ?a_law ?l_law ?c_law ?k_law ?aC ?pg ?hd ?po ?sa ?mk ?kc ?n1 ?n2 ?n3 ?ne_ ?mro_ ?bool_ ?hcl ?hsp ?htk ?e___init__ ?i___init__ ?l___init__ ?c___init__ ?k___init__ ?e_text ?g_text ?tk_text ?r_text ?l_text ?c_text ?k_text ?e_sides ?g_sides ?tk_sides ?r_sides ?l_sides ?c_sides ?k_sides ?e_letters ?g_letters ?tk_letters ?r_letters ?l_letters ?c_letters ?k_letters ?e___eq__ ?i___eq__ ?l___eq__ ?c___eq__ ?k___eq__ ?e___str__ ?i___str__ ?l___str__ ?c___str__ ?k___str__ ?e___len__ ?i___len__ ?l___len__ ?c___len__ ?k___len__) ?hbb hmg
    (case z_len => k_is)
    (case z_int => k_is)
    (case z_divmod => k_is)
    (case z_range => k_is)
    (case z_tuple => k_is)
    (case z_str => k_is)
    (case z_isinstance => k_is)
    (case z_repr => k_is)
    (case z_sorted => k_is)
    (case z_bool => k_is)
    (case z_abs => k_is)
    (case z_max => k_is)
    (case z_min => k_is)
    (case z_all => k_is)
    (case s_DIGITS => k_is)
    (case s_MOST_SIDES => k_is)
    (case s_MOST_PLUS => k_is)
    (case s_SIDE_LETTERS => k_is)
    (case l_SIDE_LETTERS => k_is)
    (case s_TURNS => k_is)
    (case l_TURNS => k_is)
    (case a_number_of => k_is)
    (case l_number_of => k_is)
    (case c_number_of => k_is)
    (case k_number_of => k_is)
    (case a_plus_of => k_is)
    (case l_plus_of => k_is)
    (case c_plus_of => k_is)
    (case k_plus_of => k_is)
    (case a_side_of => k_is)
    (case l_side_of => k_is)
    (case c_side_of => k_is)
    (case k_side_of => k_is)
    (case a_sides_of => k_is)
    (case l_sides_of => k_is)
    (case c_sides_of => k_is)
    (case k_sides_of => k_is)
    (case a__law_spring => k_is)
    (case l__law_spring => k_is)
    (case c__law_spring => k_is)
    (case k__law_spring => k_is)
    (case a__law_take => k_is)
    (case l__law_take => k_is)
    (case c__law_take => k_is)
    (case k__law_take => k_is)
    (case a__law_shuts => k_is)
    (case l__law_shuts => k_is)
    (case c__law_shuts => k_is)
    (case k__law_shuts => k_is)
    (case a__law_shut_row => k_is)
    (case l__law_shut_row => k_is)
    (case c__law_shut_row => k_is)
    (case k__law_shut_row => k_is)
    (case a__law_plan => k_is)
    (case l__law_plan => k_is)
    (case c__law_plan => k_is)
    (case k__law_plan => k_is)
    (case a__law_letters => k_is)
    (case l__law_letters => k_is)
    (case c__law_letters => k_is)
    (case k__law_letters => k_is)
    (case a__law_shown_of => k_is)
    (case l__law_shown_of => k_is)
    (case c__law_shown_of => k_is)
    (case k__law_shown_of => k_is)
    (case a__law_due_of => k_is)
    (case l__law_due_of => k_is)
    (case c__law_due_of => k_is)
    (case k__law_due_of => k_is)
    (case a__law_right => k_is)
    (case l__law_right => k_is)
    (case c__law_right => k_is)
    (case k__law_right => k_is)
    (case a_law => k_is)
    (case l_law => k_is)
    (case c_law => k_is)
    (case k_law => k_is)
    (case aC => k_is)
    (case pg => k_is)
    (case hd => k_is)
    (case po => k_is)
    (case sa => k_is)
    (case mk => k_is)
    (case kc => k_is)
    (case n1 => k_is)
    (case n2 => k_is)
    (case n3 => k_is)
    (case ne_ => k_is)
    (case mro_ => k_is)
    (case bool_ => k_is)
    (case hcl => k_is)
    (case hsp => k_is)
    (case htk => k_is)
    (case e___init__ => k_is)
    (case i___init__ => k_is)
    (case l___init__ => k_is)
    (case c___init__ => k_is)
    (case k___init__ => k_is)
    (case e_text => k_is)
    (case g_text => k_is)
    (case tk_text => k_is)
    (case r_text => k_is)
    (case l_text => k_is)
    (case c_text => k_is)
    (case k_text => k_is)
    (case e_sides => k_is)
    (case g_sides => k_is)
    (case tk_sides => k_is)
    (case r_sides => k_is)
    (case l_sides => k_is)
    (case c_sides => k_is)
    (case k_sides => k_is)
    (case e_letters => k_is)
    (case g_letters => k_is)
    (case tk_letters => k_is)
    (case r_letters => k_is)
    (case l_letters => k_is)
    (case c_letters => k_is)
    (case k_letters => k_is)
    (case e___eq__ => k_is)
    (case i___eq__ => k_is)
    (case l___eq__ => k_is)
    (case c___eq__ => k_is)
    (case k___eq__ => k_is)
    (case e___str__ => k_is)
    (case i___str__ => k_is)
    (case l___str__ => k_is)
    (case c___str__ => k_is)
    (case k___str__ => k_is)
    (case e___len__ => k_is)
    (case i___len__ => k_is)
    (case l___len__ => k_is)
    (case c___len__ => k_is)
    (case k___len__ => k_is)
    case hbb => exact fun s v => .of_eq rfl
