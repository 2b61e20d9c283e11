import PyProof.Rows.All
import Wide.All
import OpenK.AllK
import Wide.FinOn
import HandS.ForMost
import HandS.TupAny
import HandS.Property
import HandS.RaiseMore
import HandS.IsInst
import HandS.MakeKw
import HandS.Deep
import HandS.OwnEq
import HandS.NamedTupSort
import HandS.Small
import KE.KFmtOwn
import KE.KCallOwn
import KE.KFromBytes
import PyProof.ReprRoads
import HandS.MakeKwOnly
import HandS.Style
import HandS.SetTxt0
import HandS.SetBool
import HandS.TupSets
import HandS.Strs
import HandS.TryOnly
import HandS.FStr
import HandS.Defaults
import HandS.Text
import PyProof.StrBlock2
import PyProof.Rows.StrMul
import HandS.Zip
import HandS.DictComp
import HandS.TupMul
import HandS.Iter
import HandS.WideBits
import PyProof.NoPylong
import KE.KEqDict
import HandS.Conv
import PySem.Challenge.RW_cornerways_k20_whole_calendars
set_option Elab.async false
set_option linter.all false
set_option maxRecDepth 100000
set_option maxHeartbeats 1000000
/-! # Values as plain data, mutable objects as numbered cells: readings over data alone -/
namespace Cw
open PySem PySem.Spec PyProof.Rows L2

/-- plain data; `cell k` is the k-th mutable object at hand -/
inductive D where
  | non | bl (b : Bool) | int (i : Int) | str (x : Str)
  | tup (ds : List D) | lst (ds : List D) | fl (ds : List D) | cell (k : Nat)
  | ins (C : Addr) (ns : List Str) (ds : List D)
  | dct (ks : List Key) (ds : List D)
  | dcT (ks : List (List Key)) (ds : List D)
  | raw (v : V)

/-- a mutable object's content -/
inductive Cell where
  | lst (ds : List D)
  | obj (C : Addr) (ns : List Str) (ds : List D)
  | dct (ks : List Key) (ds : List D)
  | dcT (ks : List (List Key)) (ds : List D)

/-- where the cells stand; what the callers hide -/
structure Ad where
  ix : List Addr
  hd : List Addr
/-- the heap without the mutable objects -/
def hid (m : Ad) (H : Hp) : Hp := fun b => if b ∈ m.ix ∨ b ∈ m.hd then none else H b
theorem hid_some {m : Ad} {H : Hp} {b : Addr} {o : HO} (h : hid m H b = some o) : (b ∉ m.ix ∧ b ∉ m.hd) ∧ H b = some o := by
  unfold hid at h
  by_cases hb : b ∈ m.ix ∨ b ∈ m.hd
  · rw [if_pos hb] at h; cases h
  · rw [if_neg hb] at h; exact ⟨⟨fun z => hb (.inl z), fun z => hb (.inr z)⟩, h⟩
theorem hid_of {m : Ad} {H : Hp} {b : Addr} (h : b ∉ m.ix ∧ b ∉ m.hd) : hid m H b = H b := by
  unfold hid; rw [if_neg (fun z => z.elim h.1 h.2)]

def Ex (H H' : Hp) : Prop := ∀ a o, H a = some o → H' a = some o
theorem Ex.refl (H : Hp) : Ex H H := fun _ _ h => h
theorem Ex.trans {H H1 H2 : Hp} (a : Ex H H1) (b : Ex H1 H2) : Ex H H2 := fun x o h => b x o (a x o h)
theorem Ex.new {H : Hp} {p : Addr} {o : HO} (h : H p = none) : Ex H (upd H p o) := fun a u e => by
  rw [upd_ne (ne_of_none e h)]; exact e
theorem ex_rd {H H' : Hp} {a : Addr} {u : HO} (e : Ex H H') (h : Rd H a u) : Rd H' a u := by
  rcases h with h | ⟨o, h⟩
  · exact .inl (e a _ h)
  · exact .inr ⟨o, e a _ h⟩
theorem ex_l {K : PySem.W.Frag} {H H' : Hp} {a : Addr} {xs : List V} (e : Ex H H') (h : SqL K H a xs) : SqL K H' a xs := by
  rcases h with h | h
  · exact .inl (ex_rd e h)
  · exact .inr h
theorem ex_t {K : PySem.W.Frag} {H H' : Hp} {a : Addr} {xs : List V} (e : Ex H H') (h : SqT K H a xs) : SqT K H' a xs := by
  rcases h with h | h
  · exact .inl (ex_rd e h)
  · exact .inr h
theorem ex_hid (m : Ad) (H : Hp) : Ex (hid m H) H := fun _ _ h => (hid_some h).2

/-! ### which value is which data -/
section
variable (K : PySem.W.Frag) (m : List Addr) (H : Hp)
mutual
def R : D → V → Prop
  | .non, v => v = .non
  | .bl b, v => v = .bl b
  | .int i, v => v = .int i
  | .str x, v => v = .str x
  | .tup ds, v => ∃ a xs, v = .ref a ∧ SqT K H a xs ∧ RL ds xs
  | .lst ds, v => ∃ a xs, v = .ref a ∧ H a = some (.lst xs) ∧ RL ds xs
  | .fl ds, v => ∃ a xs, v = .ref a ∧ SqL K H a xs ∧ RL ds xs
  | .cell k, v => ∃ a, m[k]? = some a ∧ v = .ref a
  | .ins C ns ds, v => ∃ a dx fs, v = .ref a ∧ H a = some (.ins C dx fs) ∧ fs.map (·.1) = ns ∧ RL ds (fs.map (·.2))
  | .dct ks ds, v => ∃ a kvs, v = .ref a ∧ Rd H a (.dK kvs) ∧ kvs.map (·.1) = ks ∧ RL ds (kvs.map (·.2))
  | .dcT ks ds, v => ∃ a kvs, v = .ref a ∧ H a = some (.dT kvs) ∧ kvs.map (·.1) = ks ∧ RL ds (kvs.map (·.2))
  | .raw w, v => v = w
def RL : List D → List V → Prop
  | [], xs => xs = []
  | d :: ds, xs => ∃ x r, xs = x :: r ∧ R d x ∧ RL ds r
end
end
section
variable {K : PySem.W.Frag} {m m' : List Addr} {H H' : Hp}
mutual
theorem R.mono (e : Ex H H') (p : ∀ (k : Nat) a, m[k]? = some a → m'[k]? = some a) : ∀ (d : D) (v : V), R K m H d v → R K m' H' d v
  | .non, _, h => h
  | .bl _, _, h => h
  | .int _, _, h => h
  | .str _, _, h => h
  | .tup ds, _, ⟨a, xs, e1, h1, h2⟩ => ⟨a, xs, e1, ex_t e h1, RL.mono e p ds xs h2⟩
  | .lst ds, _, ⟨a, xs, e1, h1, h2⟩ => ⟨a, xs, e1, e a _ h1, RL.mono e p ds xs h2⟩
  | .fl ds, _, ⟨a, xs, e1, h1, h2⟩ => ⟨a, xs, e1, ex_l e h1, RL.mono e p ds xs h2⟩
  | .cell k, _, ⟨a, h1, h2⟩ => ⟨a, p k a h1, h2⟩
  | .ins _ _ ds, _, ⟨a, dx, fs, e1, h1, h2, h3⟩ => ⟨a, dx, fs, e1, e a _ h1, h2, RL.mono e p ds _ h3⟩
  | .dct _ ds, _, ⟨a, kvs, e1, h1, h2, h3⟩ => ⟨a, kvs, e1, ex_rd e h1, h2, RL.mono e p ds _ h3⟩
  | .dcT _ ds, _, ⟨a, kvs, e1, h1, h2, h3⟩ => ⟨a, kvs, e1, e a _ h1, h2, RL.mono e p ds _ h3⟩
  | .raw _, _, h => h
theorem RL.mono (e : Ex H H') (p : ∀ (k : Nat) a, m[k]? = some a → m'[k]? = some a) : ∀ (ds : List D) (xs : List V), RL K m H ds xs → RL K m' H' ds xs
  | [], _, h => h
  | d :: ds, _, ⟨x, r, e1, h1, h2⟩ => ⟨x, r, e1, R.mono e p d x h1, RL.mono e p ds r h2⟩
end
theorem RL.length : ∀ {ds : List D} {xs : List V}, RL K m H ds xs → ds.length = xs.length
  | [], _, h => by cases (show _ = [] from h); rfl
  | d :: ds, _, ⟨x, r, e1, h1, h2⟩ => by subst e1; simp [RL.length h2]
theorem RL.get : ∀ {ds : List D} {xs : List V} {i : Nat} {d : D}, RL K m H ds xs → ds[i]? = some d → ∃ x, xs[i]? = some x ∧ R K m H d x
  | [], _, _, _, _, e => by simp at e
  | d :: ds, _, 0, _, ⟨x, r, e1, h1, h2⟩, e => by subst e1; simp at e; subst e; exact ⟨x, rfl, h1⟩
  | d :: ds, _, i + 1, _, ⟨x, r, e1, h1, h2⟩, e => by
    subst e1
    obtain ⟨y, h3, h4⟩ := RL.get (i := i) h2 (by simpa using e)
    exact ⟨y, by simpa using h3, h4⟩
theorem RL.append : ∀ {ds es : List D} {xs ys : List V}, RL K m H ds xs → RL K m H es ys → RL K m H (ds ++ es) (xs ++ ys)
  | [], _, _, _, h, h' => by cases (show _ = [] from h); exact h'
  | d :: ds, _, _, _, ⟨x, r, e1, h1, h2⟩, h' => by subst e1; exact ⟨x, r ++ _, rfl, h1, RL.append h2 h'⟩
theorem RL.take : ∀ {ds : List D} {xs : List V} (n : Nat), RL K m H ds xs → RL K m H (ds.take n) (xs.take n)
  | [], _, n, h => by cases (show _ = [] from h); simp; exact rfl
  | d :: ds, _, 0, ⟨x, r, e1, h1, h2⟩ => by subst e1; exact rfl
  | d :: ds, _, n + 1, ⟨x, r, e1, h1, h2⟩ => by subst e1; exact ⟨x, r.take n, rfl, h1, RL.take n h2⟩
theorem RL.drop : ∀ {ds : List D} {xs : List V} (n : Nat), RL K m H ds xs → RL K m H (ds.drop n) (xs.drop n)
  | [], _, n, h => by cases (show _ = [] from h); simp; exact rfl
  | d :: ds, _, 0, h => h
  | d :: ds, _, n + 1, ⟨x, r, e1, h1, h2⟩ => by subst e1; exact RL.drop n h2
theorem RL.set {d : D} {x : V} (hx : R K m H d x) : ∀ {ds : List D} {xs : List V} (n : Nat), RL K m H ds xs → RL K m H (ds.set n d) (xs.set n x)
  | [], _, n, h => by cases (show _ = [] from h); exact rfl
  | d :: ds, _, 0, ⟨y, r, e1, h1, h2⟩ => by subst e1; exact ⟨x, r, rfl, hx, h2⟩
  | d :: ds, _, n + 1, ⟨y, r, e1, h1, h2⟩ => by subst e1; exact ⟨y, r.set n x, rfl, h1, RL.set hx n h2⟩
end

/-! ### the mutable objects and the slots -/
abbrev RR (K : PySem.W.Frag) (H : Hp) (m : Ad) (d : D) (v : V) : Prop := R K m.ix (hid m H) d v
abbrev RRL (K : PySem.W.Frag) (H : Hp) (m : Ad) (ds : List D) (vs : List V) : Prop := RL K m.ix (hid m H) ds vs
def CellAt (K : PySem.W.Frag) (m : Ad) (H : Hp) (a : Addr) : Cell → Prop
  | .lst ds => ∃ xs, H a = some (.lst xs) ∧ RRL K H m ds xs
  | .obj C ns ds => ∃ dx fs, H a = some (.ins C dx fs) ∧ fs.map (·.1) = ns ∧ RRL K H m ds (fs.map (·.2))
  | .dct ks ds => ∃ kvs, H a = some (.dK kvs) ∧ kvs.map (·.1) = ks ∧ RRL K H m ds (kvs.map (·.2))
  | .dcT ks ds => ∃ kvs, H a = some (.dT kvs) ∧ kvs.map (·.1) = ks ∧ RRL K H m ds (kvs.map (·.2))
/-- no tuple -/
def Mu (o : HO) : Prop := ∀ xs, o ≠ .tup xs
structure CR (K : PySem.W.Frag) (H : Hp) (m : Ad) (c : List Cell) : Prop where
  len : m.ix.length = c.length
  nd : m.ix.Nodup
  at_ : ∀ (k : Nat) ce, c[k]? = some ce → ∃ a, m.ix[k]? = some a ∧ CellAt K m H a ce
  hs : ∀ b ∈ m.hd, ∃ o, H b = some o ∧ Mu o
  dj : ∀ a ∈ m.ix, a ∉ m.hd
/-- the slots: none says nothing -/
abbrev Env := List (Option D)
structure SR (K : PySem.W.Frag) (σ : L2.St) (H : Hp) (m : Ad) (ρ : Env) (c : List Cell) : Prop where
  cr : CR K H m c
  len : ρ.length = σ.length
  sl : ∀ (i : Nat) d, ρ[i]? = some (some d) → ∃ v, σ[i]? = some (some v) ∧ RR K H m d v
/-- what is kept -/
structure Le (m : Ad) (H : Hp) (m' : Ad) (H' : Hp) : Prop where
  pre : ∀ (k : Nat) a, m.ix[k]? = some a → m'.ix[k]? = some a
  ex : Ex (hid m H) (hid m' H')
  hd : m'.hd = m.hd
  hk : ∀ b ∈ m.hd, H' b = H b
  fr : ∀ a ∈ m'.ix, a ∈ m.ix ∨ H a = none
  al : ∀ a, H' a = none → H a = none
theorem upd_none {H : Hp} {p a : Addr} {o : HO} (h : upd H p o a = none) : H a = none := by
  by_cases e : a = p
  · subst e; rw [upd_same] at h; cases h
  · rw [upd_ne e] at h; exact h
section
variable {K : PySem.W.Frag} {m m' m2 : Ad} {H H' H2 : Hp} {σ : L2.St} {ρ : Env} {c c' : List Cell}
theorem Le.refl (m : Ad) (H : Hp) : Le m H m H := ⟨fun _ _ h => h, Ex.refl _, rfl, fun _ _ => rfl, fun _ h => .inl h, fun _ h => h⟩
theorem Le.trans (a : Le m H m' H') (b : Le m' H' m2 H2) : Le m H m2 H2 := ⟨fun k x h => b.pre k x (a.pre k x h), a.ex.trans b.ex, b.hd.trans a.hd, fun x hx => (b.hk x (by rw [a.hd]; exact hx)).trans (a.hk x hx), fun x hx => (b.fr x hx).elim (a.fr x) fun z => .inr (a.al x z), fun x h => a.al x (b.al x h)⟩
theorem Le.r {d : D} {v : V} (a : Le m H m' H') (h : RR K H m d v) : RR K H' m' d v := R.mono a.ex a.pre d v h
theorem Le.rl {ds : List D} {vs : List V} (a : Le m H m' H') (h : RRL K H m ds vs) : RRL K H' m' ds vs := RL.mono a.ex a.pre ds vs h
theorem SR.step (s : SR K σ H m ρ c) (a : Le m H m' H') (h : CR K H' m' c') : SR K σ H' m' ρ c' :=
  ⟨h, s.len, fun i d e => let ⟨v, h1, h2⟩ := s.sl i d e; ⟨v, h1, a.r h2⟩⟩
theorem CR.some_at {k : Nat} {a : Addr} (C : CR K H m c) (h : m.ix[k]? = some a) : ∃ ce, c[k]? = some ce ∧ CellAt K m H a ce := by
  have hk : k < c.length := by rw [← C.len]; exact (List.getElem?_eq_some_iff.mp h).1
  obtain ⟨b, h1, h2⟩ := C.at_ k c[k] (List.getElem?_eq_getElem hk)
  rw [h] at h1; cases h1
  exact ⟨_, List.getElem?_eq_getElem hk, h2⟩
theorem CellAt.obj {a : Addr} {ce : Cell} (h : CellAt K m H a ce) : ∃ o, H a = some o := by
  cases ce with
  | lst ds => obtain ⟨xs, h, _⟩ := h; exact ⟨_, h⟩
  | obj C ns ds => obtain ⟨dx, fs, h, _⟩ := h; exact ⟨_, h⟩
  | dct ks ds => obtain ⟨kvs, h, _⟩ := h; exact ⟨_, h⟩
  | dcT ks ds => obtain ⟨kvs, h, _⟩ := h; exact ⟨_, h⟩
theorem CellAt.mu {a : Addr} {ce : Cell} (h : CellAt K m H a ce) : ∃ o, H a = some o ∧ Mu o := by
  cases ce with
  | lst ds => obtain ⟨xs, h, _⟩ := h; exact ⟨_, h, fun _ z => nomatch z⟩
  | obj C ns ds => obtain ⟨dx, fs, h, _⟩ := h; exact ⟨_, h, fun _ z => nomatch z⟩
  | dct ks ds => obtain ⟨kvs, h, _⟩ := h; exact ⟨_, h, fun _ z => nomatch z⟩
  | dcT ks ds => obtain ⟨kvs, h, _⟩ := h; exact ⟨_, h, fun _ z => nomatch z⟩
/-- a new object, not mutable -/
theorem hid_new {p : Addr} (h : H p = none) (c1 : CR K H m c) : p ∉ m.ix ∧ p ∉ m.hd := by
  refine ⟨fun hp => ?_, fun hp => ?_⟩
  · obtain ⟨k, e⟩ := List.mem_iff_getElem?.mp hp
    obtain ⟨ce, _, h2⟩ := c1.some_at e
    obtain ⟨o, h3⟩ := h2.obj
    rw [h] at h3; cases h3
  · obtain ⟨o, h3, _⟩ := c1.hs p hp
    rw [h] at h3; cases h3
theorem hid_upd {p : Addr} {o : HO} (hp : p ∉ m.ix ∧ p ∉ m.hd) : hid m (upd H p o) = upd (hid m H) p o := by
  funext b
  unfold hid upd
  by_cases hb : b = p
  · subst hb; simp [hp.1, hp.2]
  · simp [hb]
theorem hid_mut {p : Addr} {o : HO} (hp : p ∈ m.ix) : hid m (upd H p o) = hid m H := by
  funext b
  unfold hid upd
  by_cases hb : b = p
  · subst hb; simp [hp]
  · simp [hb]
theorem CellAt.step {a : Addr} {ce : Cell} (l : Le m H m' H') (k : ∀ o, H a = some o → H' a = some o) (h : CellAt K m H a ce) : CellAt K m' H' a ce := by
  cases ce with
  | lst ds => obtain ⟨xs, h1, h2⟩ := h; exact ⟨xs, k _ h1, l.rl h2⟩
  | obj C ns ds => obtain ⟨dx, fs, h1, h2, h3⟩ := h; exact ⟨dx, fs, k _ h1, h2, l.rl h3⟩
  | dct ks ds => obtain ⟨kvs, h1, h2, h3⟩ := h; exact ⟨kvs, k _ h1, h2, l.rl h3⟩
  | dcT ks ds => obtain ⟨kvs, h1, h2, h3⟩ := h; exact ⟨kvs, k _ h1, h2, l.rl h3⟩
theorem Le.new {p : Addr} {o : HO} (h : H p = none) (c1 : CR K H m c) : Le m H m (upd H p o) := by
  have hp := hid_new h c1
  refine ⟨fun _ _ e => e, ?_, rfl, fun b hb => upd_ne fun e => hp.2 (by rw [← e]; exact hb), fun _ h => .inl h, fun _ h => upd_none h⟩
  rw [hid_upd hp]
  exact Ex.new (by rw [hid_of hp]; exact h)
theorem CR.new {p : Addr} {o : HO} (h : H p = none) (c1 : CR K H m c) : CR K (upd H p o) m c :=
  ⟨c1.len, c1.nd, fun k ce e => let ⟨a, h1, h2⟩ := c1.at_ k ce e; ⟨a, h1, h2.step (Le.new h c1) fun o' e' => by rw [upd_ne (ne_of_none e' h)]; exact e'⟩,
    fun b hb => let ⟨o', h3, h4⟩ := c1.hs b hb; ⟨o', by rw [upd_ne (ne_of_none h3 h)]; exact h3, h4⟩, c1.dj⟩
theorem new_at {p : Addr} {o : HO} (h : H p = none) (c1 : CR K H m c) : hid m (upd H p o) p = some o := by
  rw [hid_of (hid_new h c1), upd_same]
end

/-! ### readings over data -/
/-- an expression: which data and which cells come out -/
abbrev TD := Env → List Cell → (D → List Cell → Prop) → Prop
abbrev TDs := Env → List Cell → (List D → List Cell → Prop) → Prop
abbrev TDt := Env → List Cell → (Bool → List Cell → Prop) → Prop
def lift (K : PySem.W.Frag) (t : TD) : TE := fun σ H Q => ∃ (m : Ad) (ρ : Env) (c : List Cell) (Φ : D → List Cell → Prop), SR K σ H m ρ c ∧ t ρ c Φ ∧
  ∀ d c' v H' m', Φ d c' → CR K H' m' c' → RR K H' m' d v → Le m H m' H' → Q v H'
def liftA (K : PySem.W.Frag) (t : TDs) : TA := fun σ H Q => ∃ (m : Ad) (ρ : Env) (c : List Cell) (Φ : List D → List Cell → Prop), SR K σ H m ρ c ∧ t ρ c Φ ∧
  ∀ ds c' vs H' m', Φ ds c' → CR K H' m' c' → RRL K H' m' ds vs → Le m H m' H' → Q vs H'
def liftT (K : PySem.W.Frag) (t : TDt) : TT := fun σ H Q => ∃ (m : Ad) (ρ : Env) (c : List Cell) (Φ : Bool → List Cell → Prop), SR K σ H m ρ c ∧ t ρ c Φ ∧
  ∀ b c' H' m', Φ b c' → CR K H' m' c' → Le m H m' H' → Q b H'
abbrev PD (X : Cx) (e : Expr) (t : TD) : Prop := PE X e (lift X.K t)
abbrev PDs (X : Cx) (es : List Expr) (t : TDs) : Prop := PA X es (liftA X.K t)
abbrev PDt (X : Cx) (e : Expr) (t : TDt) : Prop := PT X e (liftT X.K t)
theorem PE.imp {X : Cx} {e : Expr} {t t' : TE} (h : PE X e t) (i : ∀ σ H Q, t' σ H Q → t σ H Q) : PE X e t' := ⟨fun pins s σ H Q I w => h.run pins s σ H Q I (i σ H Q w)⟩
theorem PT.imp {X : Cx} {e : Expr} {t t' : TT} (h : PT X e t) (i : ∀ σ H Q, t' σ H Q → t σ H Q) : PT X e t' := ⟨fun pins s σ H Q I w => h.run pins s σ H Q I (i σ H Q w)⟩
theorem PW.imp {X : Cx} {e : Expr} {t t' : TT} (h : PW X e t) (i : ∀ σ H Q, t' σ H Q → t σ H Q) : PW X e t' := ⟨fun wh pins s σ H Q I w => h.run wh pins s σ H Q I (i σ H Q w)⟩
theorem PA.imp {X : Cx} {es : List Expr} {t t' : TA} (h : PA X es t) (i : ∀ σ H Q, t' σ H Q → t σ H Q) : PA X es t' := ⟨fun pos pins s σ H Q I w => h.run pos pins s σ H Q I (i σ H Q w)⟩
theorem PS.imp {X : Cx} {st : Stmt} {t t' : TS} (h : PS X st t) (i : ∀ D σ H, t' D σ H → t D σ H) : PS X st t' := ⟨fun pins s σ H D I w => h.run pins s σ H D I (i D σ H w)⟩
theorem PSs.imp {X : Cx} {st : List Stmt} {t t' : TS} (h : PSs X st t) (i : ∀ D σ H, t' D σ H → t D σ H) : PSs X st t' := ⟨fun pins s σ H D I w => h.run pins s σ H D I (i D σ H w)⟩
end Cw

namespace Cw
open PySem PySem.Spec PyProof.Rows L2

/-! ### a mutable object as what it holds now -/
def vw (c : List Cell) : D → D
  | .cell k => match c[k]? with
    | some (.lst ds) => .lst ds
    | some (.obj C ns ds) => .ins C ns ds
    | some (.dct ks ds) => .dct ks ds
    | some (.dcT ks ds) => .dcT ks ds
    | none => .cell k
  | d => d
def W (K : PySem.W.Frag) (H : Hp) (m : Ad) : D → V → Prop
  | .lst ds, v => ∃ a xs, v = .ref a ∧ H a = some (.lst xs) ∧ RRL K H m ds xs
  | .ins C ns ds, v => ∃ a dx fs, v = .ref a ∧ H a = some (.ins C dx fs) ∧ fs.map (·.1) = ns ∧ RRL K H m ds (fs.map (·.2))
  | .dct ks ds, v => ∃ a kvs, v = .ref a ∧ Rd H a (.dK kvs) ∧ kvs.map (·.1) = ks ∧ RRL K H m ds (kvs.map (·.2))
  | .dcT ks ds, v => ∃ a kvs, v = .ref a ∧ H a = some (.dT kvs) ∧ kvs.map (·.1) = ks ∧ RRL K H m ds (kvs.map (·.2))
  | d, v => RR K H m d v
section
variable {K : PySem.W.Frag} {m : Ad} {H : Hp} {c : List Cell}
theorem W.of : ∀ {d : D} {v : V}, RR K H m d v → W K H m d v
  | .non, _, h => h
  | .bl _, _, h => h
  | .int _, _, h => h
  | .str _, _, h => h
  | .tup _, _, h => h
  | .lst _, _, ⟨a, xs, e1, h1, h2⟩ => ⟨a, xs, e1, ex_hid m H a _ h1, h2⟩
  | .fl _, _, h => h
  | .cell _, _, h => h
  | .ins _ _ _, _, ⟨a, dx, fs, e1, h1, h2, h3⟩ => ⟨a, dx, fs, e1, ex_hid m H a _ h1, h2, h3⟩
  | .dct _ _, _, ⟨a, kvs, e1, h1, h2, h3⟩ => ⟨a, kvs, e1, ex_rd (ex_hid m H) h1, h2, h3⟩
  | .dcT _ _, _, ⟨a, kvs, e1, h1, h2, h3⟩ => ⟨a, kvs, e1, ex_hid m H a _ h1, h2, h3⟩
  | .raw _, _, h => h
theorem W.vw (C : CR K H m c) {d : D} {v : V} (h : RR K H m d v) : W K H m (vw c d) v := by
  cases d with
  | cell k =>
    obtain ⟨a, h1, h2⟩ := h
    cases e : c[k]? with
    | none =>
      have z : Cw.vw c (.cell k) = .cell k := by simp [Cw.vw, e]
      rw [z]; exact ⟨a, h1, h2⟩
    | some ce =>
      obtain ⟨b, h3, h4⟩ := C.at_ k ce e
      rw [h1] at h3; cases h3
      cases ce with
      | lst ds =>
        have z : Cw.vw c (.cell k) = .lst ds := by simp [Cw.vw, e]
        rw [z]
        obtain ⟨xs, h5, h6⟩ := h4; exact ⟨a, xs, h2, h5, h6⟩
      | obj C ns ds =>
        have z : Cw.vw c (.cell k) = .ins C ns ds := by simp [Cw.vw, e]
        rw [z]
        obtain ⟨dx, fs, h5, h6, h7⟩ := h4; exact ⟨a, dx, fs, h2, h5, h6, h7⟩
      | dct ks ds =>
        have z : Cw.vw c (.cell k) = .dct ks ds := by simp [Cw.vw, e]
        rw [z]
        obtain ⟨kvs, h5, h6, h7⟩ := h4; exact ⟨a, kvs, h2, .inl h5, h6, h7⟩
      | dcT ks ds =>
        have z : Cw.vw c (.cell k) = .dcT ks ds := by simp [Cw.vw, e]
        rw [z]
        obtain ⟨kvs, h5, h6, h7⟩ := h4; exact ⟨a, kvs, h2, h5, h6, h7⟩
  | _ => exact W.of h
end

/-! ### operators -/
abbrev F2 := D → D → List Cell → (D → List Cell → Prop) → Prop
abbrev F1 := D → List Cell → (D → List Cell → Prop) → Prop
abbrev Fs := List D → List Cell → (D → List Cell → Prop) → Prop
abbrev KQ (K : PySem.W.Frag) (H : Hp) (m : Ad) (Φ : D → List Cell → Prop) (Q : VK) : Prop :=
  ∀ d c' w H' m', Φ d c' → CR K H' m' c' → RR K H' m' d w → Le m H m' H' → Q w H'
/-- r does on values what f does on data -/
def L2f (K : PySem.W.Frag) (f : F2) (r : R2) : Prop := ∀ x y c Φ, f x y c Φ → ∀ H m u v, CR K H m c → W K H m x u → W K H m y v → ∀ Q, KQ K H m Φ Q → r u v H Q
def L1f (K : PySem.W.Frag) (f : F1) (r : V → Hp → VK → Prop) : Prop := ∀ x c Φ, f x c Φ → ∀ H m u, CR K H m c → W K H m x u → ∀ Q, KQ K H m Φ Q → r u H Q
def Lsf (K : PySem.W.Frag) (f : Fs) (r : List V → Hp → VK → Prop) : Prop := ∀ xs c Φ, f xs c Φ → ∀ H m us, CR K H m c → Paired (W K H m) xs us → ∀ Q, KQ K H m Φ Q → r us H Q
def dBin (f : F2) (ta tb : TD) : TD := fun ρ c Φ => ta ρ c fun x c1 => tb ρ c1 fun y c2 => f (vw c2 x) (vw c2 y) c2 Φ
def dUn (f : F1) (ta : TD) : TD := fun ρ c Φ => ta ρ c fun x c1 => f (vw c1 x) c1 Φ
def dCB (f : Fs) (ta : TDs) : TD := fun ρ c Φ => ta ρ c fun xs c1 => f (xs.map (vw c1)) c1 Φ
section
variable {K : PySem.W.Frag} {f : F2} {f1 : F1} {fs : Fs} {r : R2} {ta tb : TD} {tas : TDs} {σ : L2.St} {H : Hp} {Q : VK}
theorem lift_bin (l : L2f K f r) (h : lift K (dBin f ta tb) σ H Q) : tOp r (lift K ta) (lift K tb) σ H Q := by
  obtain ⟨m, ρ, c, Φ, S, h, q⟩ := h
  exact ⟨m, ρ, c, _, S, h, fun x c1 u H1 m1 hx C1 R1 L1 => ⟨m1, ρ, c1, _, S.step L1 C1, hx, fun y c2 v H2 m2 hy C2 R2 L2 =>
    l _ _ c2 Φ hy H2 m2 u v C2 (W.vw C2 (L2.r R1)) (W.vw C2 R2) Q fun d c' w H' m' hd C' R' L' => q d c' w H' m' hd C' R' (L1.trans (L2.trans L'))⟩⟩
theorem lift_un {r : V → Hp → VK → Prop} (l : L1f K f1 r) (h : lift K (dUn f1 ta) σ H Q) : tUn r (lift K ta) σ H Q := by
  obtain ⟨m, ρ, c, Φ, S, h, q⟩ := h
  exact ⟨m, ρ, c, _, S, h, fun x c1 u H1 m1 hx C1 R1 L1 => l _ c1 Φ hx H1 m1 u C1 (W.vw C1 R1) Q fun d c' w H' m' hd C' R' L' => q d c' w H' m' hd C' R' (L1.trans L')⟩
theorem paired_vw {m : Ad} {c : List Cell} (C : CR K H m c) : ∀ {ds : List D} {vs : List V}, RRL K H m ds vs → Paired (W K H m) (ds.map (vw c)) vs
  | [], _, h => by cases (show _ = [] from h); exact .nil
  | d :: ds, _, ⟨x, r, e1, h1, h2⟩ => by subst e1; exact .cons (W.vw C h1) (paired_vw C h2)
theorem lift_cb {r : List V → Hp → VK → Prop} (l : Lsf K fs r) (h : lift K (dCB fs tas) σ H Q) : tCB r (liftA K tas) σ H Q := by
  obtain ⟨m, ρ, c, Φ, S, h, q⟩ := h
  exact ⟨m, ρ, c, _, S, h, fun x c1 u H1 m1 hx C1 R1 L1 => l _ c1 Φ hx H1 m1 u C1 (paired_vw C1 R1) Q fun d c' w H' m' hd C' R' L' => q d c' w H' m' hd C' R' (L1.trans L')⟩
end

/-! ### names, constants -/
def dVar (i : Nat) : TD := fun ρ c Φ => match ρ[i]? with
  | some (some d) => Φ d c
  | _ => False
def dC (d : D) : TD := fun _ c Φ => Φ d c
section
variable {X : Cx} {e a b : Expr} {es : List Expr} {ta tb : TD} {tas : TDs} {pos : Pos}
theorem pd_pv {i : Nat} (h : PE X e (tVar i)) : PD X e (dVar i) := PE.imp h fun σ H Q ⟨m, ρ, c, Φ, S, h, q⟩ => by
  unfold dVar at h
  cases e1 : ρ[i]? with
  | none => rw [e1] at h; exact h.elim
  | some o =>
    cases o with
    | none => rw [e1] at h; exact h.elim
    | some d =>
      rw [e1] at h
      obtain ⟨v, h1, h2⟩ := S.sl i d e1
      exact ⟨v, h1, q d c v H m h S.cr h2 (Le.refl _ _)⟩
theorem pd_c {v : V} {d : D} (h : PE X e (tC v)) (r : ∀ m H, R X.K m H d v) : PD X e (dC d) := PE.imp h fun σ H Q ⟨m, ρ, c, Φ, S, h, q⟩ => q d c v H m h S.cr (r _ _) (Le.refl _ _)
theorem pd_v (i : Nat) {x : Str} (hN : X.N[i]? = some x := by rfl) (hv : Vis X.env.scope x := by first | exact Or.inl rfl | exact Or.inr (Or.inl rfl) | exact Or.inr (Or.inr rfl)) (hd : (x == ("__debug__" : Str)) = false := by decide)
    (hcd : (x == ("__classdict__" : Str)) = false := by decide) : PD X (.Name x pos) (dVar i) := pd_pv (pe_var hN hv hd hcd)
theorem pd_int {i j} : PD X (.Constant (.int i) j pos) (dC (.int i)) := pd_c pe_int fun _ _ => rfl
theorem pd_bl {b j} : PD X (.Constant (.bool b) j pos) (dC (.bl b)) := pd_c pe_bl fun _ _ => rfl
theorem pd_non {j} : PD X (.Constant .none j pos) (dC .non) := pd_c pe_non fun _ _ => rfl
theorem pd_str {x j} : PD X (.Constant (.str x) j pos) (dC (.str x)) := pd_c pe_str fun _ _ => rfl

/-! ### arguments, displays -/
def dNil : TDs := fun _ c Φ => Φ [] c
def dCons (ta : TD) (tr : TDs) : TDs := fun ρ c Φ => ta ρ c fun x c1 => tr ρ c1 fun xs c2 => Φ (x :: xs) c2
theorem pds_nil : PDs X [] dNil := PA.imp pa_nil fun σ H Q ⟨m, ρ, c, Φ, S, h, q⟩ => q [] c [] H m h S.cr rfl (Le.refl _ _)
theorem pds_cons (h1 : PD X e ta) (h2 : PDs X es tas) (hs : starEach (e :: es) X.env = (false, eval e X.env) :: starEach es X.env := by rfl) : PDs X (e :: es) (dCons ta tas) :=
  PA.imp (pa_cons h1 h2 hs) fun σ H Q ⟨m, ρ, c, Φ, S, h, q⟩ => ⟨m, ρ, c, _, S, h, fun x c1 u H1 m1 hx C1 R1 L1 => ⟨m1, ρ, c1, _, S.step L1 C1, hx, fun xs c2 us H2 m2 hy C2 R2 L2 =>
    q (x :: xs) c2 (u :: us) H2 m2 hy C2 ⟨u, us, rfl, L2.r R1, R2⟩ (L1.trans L2)⟩⟩
def dTup (t : TDs) : TD := fun ρ c Φ => t ρ c fun xs c1 => xs.length ≤ sizeLine ∧ Φ (.tup xs) c1
def dLst (t : TDs) : TD := fun ρ c Φ => t ρ c fun xs c1 => xs.length ≤ sizeLine ∧ Φ (.lst xs) c1
theorem RR.newT {m : Ad} {H : Hp} {c : List Cell} {p : Addr} {xs : List D} {us : List V} (C1 : CR X.K H m c) (hp : H p = none) (r : RRL X.K H m xs us) : RR X.K (upd H p (.tup us)) m (.tup xs) (.ref p) :=
  ⟨p, us, rfl, .inl (.inl (new_at hp C1)), (Le.new hp C1).rl r⟩
theorem RR.newL {m : Ad} {H : Hp} {c : List Cell} {p : Addr} {xs : List D} {us : List V} (C1 : CR X.K H m c) (hp : H p = none) (r : RRL X.K H m xs us) : RR X.K (upd H p (.lst us)) m (.lst xs) (.ref p) :=
  ⟨p, us, rfl, new_at hp C1, (Le.new hp C1).rl r⟩
theorem pd_tup {x1} (h : PDs X es tas) : PD X (.Tuple es x1 pos) (dTup tas) := PE.imp (pe_tup h) fun σ H Q ⟨m, ρ, c, Φ, S, h, q⟩ =>
  ⟨m, ρ, c, _, S, h, fun xs c1 us H1 m1 ⟨hl, hx⟩ C1 R1 L1 => ⟨by rw [← RL.length R1]; exact hl, fun p hp => q _ c1 _ _ m1 hx (C1.new hp) (RR.newT C1 hp R1) (L1.trans (Le.new hp C1))⟩⟩
theorem pd_lst (h : PDs X es tas) : PD X (.List es pos) (dLst tas) := PE.imp (pe_lst h) fun σ H Q ⟨m, ρ, c, Φ, S, h, q⟩ =>
  ⟨m, ρ, c, _, S, h, fun xs c1 us H1 m1 ⟨hl, hx⟩ C1 R1 L1 => ⟨by rw [← RL.length R1]; exact hl, fun p hp => q _ c1 _ _ m1 hx (C1.new hp) (RR.newL C1 hp R1) (L1.trans (Le.new hp C1))⟩⟩
/-- a list that will be changed: a new cell -/
def dLstM (t : TDs) : TD := fun ρ c Φ => t ρ c fun xs c1 => xs.length ≤ sizeLine ∧ Φ (.cell c1.length) (c1 ++ [.lst xs])
def Ad.push (m : Ad) (p : Addr) : Ad := ⟨m.ix ++ [p], m.hd⟩
theorem push_pre {m : Ad} {p : Addr} (k : Nat) (a : Addr) (e : m.ix[k]? = some a) : (m.push p).ix[k]? = some a := by
  show (m.ix ++ [p])[k]? = some a
  rw [List.getElem?_append_left (List.getElem?_eq_some_iff.mp e).1]; exact e
theorem hid_app {m : Ad} {H : Hp} {p : Addr} {o : HO} (hp : H p = none) : hid (m.push p) (upd H p o) = hid m H := by
  funext b
  unfold hid upd Ad.push
  by_cases hb : b = p
  · subst hb; simp [hp]
  · simp [hb]
theorem cell_new {K : PySem.W.Frag} {m : Ad} {H : Hp} {c : List Cell} {p : Addr} {o : HO} {ce : Cell} (C1 : CR K H m c) (hp : H p = none)
    (hc : CellAt K (m.push p) (upd H p o) p ce) : CR K (upd H p o) (m.push p) (c ++ [ce]) ∧ Le m H (m.push p) (upd H p o) ∧ RR K (upd H p o) (m.push p) (.cell c.length) (.ref p) := by
  have hn := hid_new hp C1
  have l : Le m H (m.push p) (upd H p o) := ⟨push_pre, by rw [hid_app hp]; exact Ex.refl _, rfl, fun b hb => upd_ne fun e => hn.2 (by rw [← e]; exact hb), fun a ha => (List.mem_append.mp (show a ∈ m.ix ++ [p] from ha)).elim .inl fun z => .inr (by
    have : a = p := by simpa using z
    subst this; exact hp), fun _ h => upd_none h⟩
  have last : (m.push p).ix[c.length]? = some p := by
    show (m.ix ++ [p])[c.length]? = some p
    rw [← C1.len]; simp
  refine ⟨⟨by simp [Ad.push, C1.len], ?_, fun k ce' e => ?_, fun b hb => ?_, fun a ha => ?_⟩, l, p, last, rfl⟩
  · show (m.ix ++ [p]).Nodup
    rw [List.nodup_append]
    refine ⟨C1.nd, by simp, fun a ha b hb e => ?_⟩
    have : b = p := by simpa using hb
    subst this; subst e
    exact hn.1 ha
  · by_cases hk : k < c.length
    · rw [List.getElem?_append_left hk] at e
      obtain ⟨a, h1, h2⟩ := C1.at_ k ce' e
      refine ⟨a, push_pre k a h1, h2.step l fun o' e' => ?_⟩
      rw [upd_ne (ne_of_none e' hp)]; exact e'
    · have hk' : k = c.length := by
        have := (List.getElem?_eq_some_iff.mp e).1
        simp at this; omega
      subst hk'
      simp at e; subst e
      exact ⟨p, last, hc⟩
  · obtain ⟨o', h3, h4⟩ := C1.hs b hb
    exact ⟨o', by rw [upd_ne (ne_of_none h3 hp)]; exact h3, h4⟩
  · rcases List.mem_append.mp (show a ∈ m.ix ++ [p] from ha) with z | z
    · exact C1.dj a z
    · have : a = p := by simpa using z
      subst this
      exact hn.2
theorem pd_lstM (h : PDs X es tas) : PD X (.List es pos) (dLstM tas) := PE.imp (pe_lst h) fun σ H Q ⟨m, ρ, c, Φ, S, h, q⟩ =>
  ⟨m, ρ, c, _, S, h, fun xs c1 us H1 m1 ⟨hl, hx⟩ C1 R1 L1 => ⟨by rw [← RL.length R1]; exact hl, fun p hp => by
    have z := cell_new (ce := .lst xs) (o := .lst us) C1 hp ⟨us, upd_same, by
      show RL _ _ (hid (m1.push p) _) _ _
      rw [hid_app hp]; exact RL.mono (Ex.refl _) push_pre _ _ R1⟩
    exact q _ _ _ _ _ hx z.1 z.2.2 (L1.trans z.2.1)⟩⟩
end
end Cw

namespace Cw
open PySem PySem.Spec PyProof.Rows L2

/-! ### data to the library's plain data -/
mutual
def D.py : D → Option PyData
  | .non => some .none
  | .bl b => some (.bool b)
  | .int i => some (.int i)
  | .str x => some (.str x)
  | .tup ds => (D.pys ds).map .tuple
  | .lst ds => (D.pys ds).map .list
  | .fl ds => (D.pys ds).map .list
  | .cell _ => none
  | .ins _ _ _ => none
  | .dct _ _ => none
  | .dcT _ _ => none
  | .raw _ => none
def D.pys : List D → Option (List PyData)
  | [] => some []
  | d :: ds => match D.py d, D.pys ds with
    | some p, some ps => some (p :: ps)
    | _, _ => none
end
section
variable {K : PySem.W.Frag} {m : List Addr} {H : Hp}
mutual
theorem R.dp : ∀ (d : D) (v : V) (p : PyData), R K m H d v → D.py d = some p → Dp K H v p
  | .non, _, _, h, e => by cases e; cases (show _ = V.non from h); exact .non
  | .bl b, _, _, h, e => by cases e; cases (show _ = V.bl b from h); exact .bl b
  | .int i, _, _, h, e => by cases e; cases (show _ = V.int i from h); exact .int i
  | .str x, _, _, h, e => by cases e; cases (show _ = V.str x from h); exact .str x
  | .tup ds, _, p, ⟨a, xs, e1, h1, h2⟩, e => by
    subst e1
    rw [show D.py (.tup ds) = (D.pys ds).map .tuple by rw [D.py]] at e
    cases e2 : D.pys ds with
    | none => rw [e2] at e; cases e
    | some ps => rw [e2] at e; cases e; exact .tup h1 (RL.dp ds xs ps h2 e2)
  | .lst ds, _, p, ⟨a, xs, e1, h1, h2⟩, e => by
    subst e1
    rw [show D.py (.lst ds) = (D.pys ds).map .list by rw [D.py]] at e
    cases e2 : D.pys ds with
    | none => rw [e2] at e; cases e
    | some ps => rw [e2] at e; cases e; exact .lst (SqL.of h1) (RL.dp ds xs ps h2 e2)
  | .fl ds, _, p, ⟨a, xs, e1, h1, h2⟩, e => by
    subst e1
    rw [show D.py (.fl ds) = (D.pys ds).map .list by rw [D.py]] at e
    cases e2 : D.pys ds with
    | none => rw [e2] at e; cases e
    | some ps => rw [e2] at e; cases e; exact .lst h1 (RL.dp ds xs ps h2 e2)
  | .cell _, _, _, _, e => by rw [D.py] at e; cases e
  | .ins _ _ _, _, _, _, e => by rw [D.py] at e; cases e
  | .dct _ _, _, _, _, e => by rw [D.py] at e; cases e
  | .dcT _ _, _, _, _, e => by rw [D.py] at e; cases e
  | .raw _, _, _, _, e => by rw [D.py] at e; cases e
theorem RL.dp : ∀ (ds : List D) (vs : List V) (ps : List PyData), RL K m H ds vs → D.pys ds = some ps → DpAll K H vs ps
  | [], _, _, h, e => by cases (show _ = [] from h); rw [D.pys] at e; cases e; exact .nil
  | d :: ds, _, ps, ⟨x, r, e1, h1, h2⟩, e => by
    subst e1
    rw [D.pys] at e
    cases e2 : D.py d with
    | none => rw [e2] at e; cases e
    | some p =>
      cases e3 : D.pys ds with
      | none => rw [e2, e3] at e; cases e
      | some qs => rw [e2, e3] at e; cases e; exact .cons (R.dp d x p h1 e2) (RL.dp ds r qs h2 e3)
end
theorem DpAll.mono' {H H' : Hp} (e : Ex H H') : ∀ {v : V} {d : PyData}, Dp K H v d → Dp K H' v d := by
  intro v d h
  refine Dp.rec (motive_1 := fun v d _ => Dp K H' v d) (motive_2 := fun vs ds _ => DpAll K H' vs ds) .non .bl .int .str (fun h1 _ i => .lst (ex_l e h1) i) (fun h1 _ i => .tup (ex_t e h1) i) .nil (fun _ _ i1 i2 => .cons i1 i2) h
theorem DpAll.mono2 {H H' : Hp} (e : Ex H H') : ∀ {vs : List V} {ds : List PyData}, DpAll K H vs ds → DpAll K H' vs ds
  | _, _, .nil => .nil
  | _, _, .cons h1 h2 => .cons (DpAll.mono' e h1) (DpAll.mono2 e h2)
end
section
variable {K : PySem.W.Frag} {m : Ad} {H : Hp}
theorem W.dp : ∀ {d : D} {v : V} {p : PyData}, W K H m d v → D.py d = some p → Dp K H v p
  | .non, _, _, h, e => DpAll.mono' (ex_hid m H) (R.dp (m := m.ix) .non _ _ h e)
  | .bl b, _, _, h, e => DpAll.mono' (ex_hid m H) (R.dp (m := m.ix) (.bl b) _ _ h e)
  | .int i, _, _, h, e => DpAll.mono' (ex_hid m H) (R.dp (m := m.ix) (.int i) _ _ h e)
  | .str x, _, _, h, e => DpAll.mono' (ex_hid m H) (R.dp (m := m.ix) (.str x) _ _ h e)
  | .tup ds, _, _, h, e => DpAll.mono' (ex_hid m H) (R.dp (m := m.ix) (.tup ds) _ _ h e)
  | .fl ds, _, _, h, e => DpAll.mono' (ex_hid m H) (R.dp (m := m.ix) (.fl ds) _ _ h e)
  | .lst ds, _, p, ⟨a, xs, e1, h1, h2⟩, e => by
    subst e1
    rw [show D.py (.lst ds) = (D.pys ds).map .list by rw [D.py]] at e
    cases e2 : D.pys ds with
    | none => rw [e2] at e; cases e
    | some ps => rw [e2] at e; cases e; exact .lst (SqL.of h1) (DpAll.mono2 (ex_hid m H) (RL.dp ds xs ps h2 e2))
  | .cell _, _, _, _, e => by rw [D.py] at e; cases e
  | .ins _ _ _, _, _, _, e => by rw [D.py] at e; cases e
  | .dct _ _, _, _, _, e => by rw [D.py] at e; cases e
  | .dcT _ _, _, _, _, e => by rw [D.py] at e; cases e
  | .raw _, _, _, _, e => by rw [D.py] at e; cases e
theorem W.list {ds : List D} {v : V} (h : W K H m (.lst ds) v ∨ W K H m (.fl ds) v) : ∃ a xs, v = .ref a ∧ SqL K H a xs ∧ RRL K H m ds xs := by
  rcases h with ⟨a, xs, e, h1, h2⟩ | ⟨a, xs, e, h1, h2⟩
  · exact ⟨a, xs, e, SqL.of h1, h2⟩
  · exact ⟨a, xs, e, ex_l (ex_hid m H) h1, h2⟩
end

/-- the same data, the same heap -/
theorem KQ.pure {K : PySem.W.Frag} {H : Hp} {m : Ad} {c : List Cell} {Φ : D → List Cell → Prop} {Q : VK} {d : D} {w : V} (k : KQ K H m Φ Q) (C : CR K H m c) (h : Φ d c) (r : RR K H m d w) : Q w H := k d c w H m h C r (Le.refl _ _)
theorem KQ.newT {X : Cx} {H : Hp} {m : Ad} {c : List Cell} {Φ : D → List Cell → Prop} {Q : VK} {ds : List D} {ws : List V} (k : KQ X.K H m Φ Q) (C : CR X.K H m c) (h : Φ (.tup ds) c) (r : RRL X.K H m ds ws) {p : Addr} (hp : H p = none) : Q (.ref p) (upd H p (.tup ws)) :=
  k _ c _ _ m h (C.new hp) (RR.newT (X := X) C hp r) (Le.new hp C)
theorem KQ.newL {X : Cx} {H : Hp} {m : Ad} {c : List Cell} {Φ : D → List Cell → Prop} {Q : VK} {ds : List D} {ws : List V} (k : KQ X.K H m Φ Q) (C : CR X.K H m c) (h : Φ (.lst ds) c) (r : RRL X.K H m ds ws) {p : Addr} (hp : H p = none) : Q (.ref p) (upd H p (.lst ws)) :=
  k _ c _ _ m h (C.new hp) (RR.newL (X := X) C hp r) (Le.new hp C)

/-! ### + - * // % -/
def fAdd : F2
  | .int i, .int j, c, Φ => Φ (.int (i + j)) c
  | .str x, .str y, c, Φ => x.length + y.length ≤ sizeLine ∧ Φ (.str (x ++ y)) c
  | .lst xs, .lst ys, c, Φ => xs.length + ys.length ≤ sizeLine ∧ Φ (.lst (xs ++ ys)) c
  | .tup xs, .tup ys, c, Φ => xs.length + ys.length ≤ sizeLine ∧ Φ (.tup (xs ++ ys)) c
  | _, _, _, _ => False
def fSub : F2
  | .int i, .int j, c, Φ => Φ (.int (i - j)) c
  | _, _, _, _ => False
def fMul : F2
  | .int i, .int j, c, Φ => ((-(2 ^ 64) < i ∧ i < 2 ^ 64) ∨ (-(2 ^ 64) < j ∧ j < 2 ^ 64)) ∧ Φ (.int (i * j)) c
  | _, _, _, _ => False
def fDiv : F2
  | .int i, .int j, c, Φ => (0 < j ∧ j < 1073741824) ∧ Φ (.int (i / j)) c
  | _, _, _, _ => False
def fMod : F2
  | .int i, .int j, c, Φ => 0 < j ∧ Φ (.int (i % j)) c
  | _, _, _, _ => False
def fPow : F2
  | .int i, .int j, c, Φ => (0 ≤ j ∧ j ≤ 1000000 ∧ i.natAbs < 2 ^ 64) ∧ Φ (.int (i ^ j.toNat)) c
  | _, _, _, _ => False
section
variable {X : Cx} {a b : Expr} {ta tb : TD} {pos : Pos}
/-- a rule over two ints -/
theorem int2 {K : PySem.W.Frag} {C : Int → Int → Prop} {g : Int → Int → Int} {f : F2} (h1 : ∀ i j c Φ, f (.int i) (.int j) c Φ → C i j ∧ Φ (.int (g i j)) c) (h2 : ∀ x y c Φ, f x y c Φ → ∃ i j, x = .int i ∧ y = .int j) : L2f K f (rI C fun i j => .int (g i j)) := by
  intro x y c Φ h H m u v Cc r1 r2 Q k
  obtain ⟨i, j, rfl, rfl⟩ := h2 x y c Φ h
  cases (show _ = V.int i from r1); cases (show _ = V.int j from r2)
  obtain ⟨hc, hq⟩ := h1 i j c Φ h
  exact ⟨i, j, rfl, rfl, hc, k.pure Cc hq rfl⟩
theorem pd_sub (ha : PD X a ta) (hb : PD X b tb) : PD X (.BinOp a .Sub b pos) (dBin fSub ta tb) := PE.imp (pe_op op_sub ha hb) fun σ H Q h => lift_bin (by
  intro x y c Φ h H m u v Cc r1 r2 Q k
  cases x <;> cases y <;> first | exact h.elim | skip
  cases r1; cases r2
  exact ⟨_, _, rfl, rfl, k.pure Cc h rfl⟩) h
theorem pd_mul (ha : PD X a ta) (hb : PD X b tb) : PD X (.BinOp a .Mult b pos) (dBin fMul ta tb) := PE.imp (pe_op op_mul ha hb) fun σ H Q h => lift_bin (by
  intro x y c Φ h H m u v Cc r1 r2 Q k
  cases x <;> cases y <;> first | exact h.elim | skip
  cases r1; cases r2
  exact ⟨_, _, rfl, rfl, h.1, k.pure Cc h.2 rfl⟩) h
theorem pd_div (ha : PD X a ta) (hb : PD X b tb) : PD X (.BinOp a .FloorDiv b pos) (dBin fDiv ta tb) := PE.imp (pe_op op_fdiv ha hb) fun σ H Q h => lift_bin (by
  intro x y c Φ h H m u v Cc r1 r2 Q k
  cases x <;> cases y <;> first | exact h.elim | skip
  cases r1; cases r2
  exact ⟨_, _, rfl, rfl, h.1, k.pure Cc h.2 rfl⟩) h
theorem pd_mod (ha : PD X a ta) (hb : PD X b tb) : PD X (.BinOp a .Mod b pos) (dBin fMod ta tb) := PE.imp (pe_op op_mod ha hb) fun σ H Q h => lift_bin (by
  intro x y c Φ h H m u v Cc r1 r2 Q k
  cases x <;> cases y <;> first | exact h.elim | skip
  cases r1; cases r2
  exact ⟨_, _, rfl, rfl, h.1, k.pure Cc h.2 rfl⟩) h
theorem pd_pow (ha : PD X a ta) (hb : PD X b tb) : PD X (.BinOp a .Pow b pos) (dBin fPow ta tb) := PE.imp (pe_op op_pow ha hb) fun σ H Q h => lift_bin (by
  intro x y c Φ h H m u v Cc r1 r2 Q k
  cases x <;> cases y <;> first | exact h.elim | skip
  cases r1; cases r2
  exact ⟨_, _, rfl, rfl, h.1, k.pure Cc h.2 rfl⟩) h
theorem rlen {K : PySem.W.Frag} {m : List Addr} {H : Hp} {ds : List D} {xs : List V} (h : RL K m H ds xs) : xs.length = ds.length := (RL.length h).symm
theorem pd_add (ha : PD X a ta) (hb : PD X b tb) : PD X (.BinOp a .Add b pos) (dBin fAdd ta tb) :=
  PE.imp (pe_op (op_add.or (op_add_str.or (op_cat.or op_catA))) ha hb) fun σ H Q h => lift_bin (by
  intro x y c Φ h H m u v Cc r1 r2 Q k
  cases x <;> cases y <;> first | exact h.elim | skip
  · cases r1; cases r2
    exact .inl ⟨_, _, rfl, rfl, k.pure Cc h rfl⟩
  · cases r1; cases r2
    exact .inr (.inl ⟨_, _, rfl, rfl, h.1, k.pure Cc h.2 rfl⟩)
  · rename_i xs ys
    obtain ⟨p, us, rfl, hp, ru⟩ := r1
    obtain ⟨q, ws, rfl, hq, rw'⟩ := r2
    refine .inr (.inr (.inr ⟨p, q, us, ws, rfl, rfl, ex_t (ex_hid m H) hp, ex_t (ex_hid m H) hq, by rw [rlen ru, rlen rw']; exact h.1, fun e => ?_, fun _ e => ?_, fun _ _ t ht => ?_⟩))
    · subst e
      have : xs = [] := by cases xs with | nil => rfl | cons d ds => obtain ⟨_, _, z, _⟩ := ru; cases z
      subst this
      exact k.pure Cc h.2 ⟨q, ws, rfl, hq, rw'⟩
    · subst e
      have : ys = [] := by cases ys with | nil => rfl | cons d ds => obtain ⟨_, _, z, _⟩ := rw'; cases z
      subst this
      have h3 := h.2
      rw [List.append_nil] at h3
      exact k.pure Cc h3 ⟨p, us, rfl, hp, ru⟩
    · exact KQ.newT (X := X) k Cc h.2 (RL.append ru rw') ht
  · obtain ⟨p, us, rfl, hp, ru⟩ := r1
    obtain ⟨q, ws, rfl, hq, rw'⟩ := r2
    exact .inr (.inr (.inl ⟨p, q, us, ws, rfl, rfl, hp, hq, by rw [rlen ru, rlen rw']; exact h.1, fun t ht => KQ.newL (X := X) k Cc h.2 (RL.append ru rw') ht⟩))) h
end
end Cw

namespace Cw
open PySem PySem.Spec PyProof.Rows L2

/-! ### == != < <= > >= in is -/
def fEq (neg : Bool) : F2
  | .int i, .int j, c, Φ => Φ (.bl (if neg then !decide (i = j) else decide (i = j))) c
  | .str x, .str y, c, Φ => Φ (.bl (if neg then !decide (x = y) else decide (x = y))) c
  | .bl x, .bl y, c, Φ => Φ (.bl (if neg then !decide (x = y) else decide (x = y))) c
  | x, y, c, Φ => ∃ p q, D.py x = some p ∧ D.py y = some q ∧ SeqAt.shaped p = true ∧ SeqAt.shaped q = true ∧ Φ (.bl (if neg then !PyData.eqv p q else PyData.eqv p q)) c
def fCmp (g : Int → Int → Bool) : F2
  | .int i, .int j, c, Φ => Φ (.bl (g i j)) c
  | _, _, _, _ => False
/-- one text in another -/
def inS (x y : Str) : Bool := match x.cps.toList with
  | [k] => decide (k ∈ y.cps.toList)
  | _ => !(Builtin.Str.occurrences y x 0 y.length 1).isEmpty
theorem inS_eq (x y : Str) : inS x y = !(Builtin.Str.occurrences y x 0 y.length 1).isEmpty := by
  unfold inS
  split
  · rename_i k e
    have hx : x = ⟨#[k]⟩ := by
      cases x with | mk cps => cases cps with | mk l => cases (show l = [k] from e); rfl
    subst hx
    exact (PySem.StrLaws.found_one y k).symm
  · rfl
def seqOf : D → Option (List D)
  | .lst ds => some ds
  | .fl ds => some ds
  | .tup ds => some ds
  | _ => none
def flatD : D → Bool
  | .non => true
  | .bl _ => true
  | .int _ => true
  | .str _ => true
  | _ => false
def flatV' : D → V
  | .bl b => .bl b
  | .int i => .int i
  | .str x => .str x
  | _ => .non
def inF (x : D) (ds : List D) : Bool := inV (flatV' x) (ds.map flatV')
def fIn (neg : Bool) : F2
  | .str x, .str y, c, Φ => Φ (.bl (if neg then !inS x y else inS x y)) c
  | x, y, c, Φ => (∃ ds, seqOf y = some ds ∧ flatD x = true ∧ ds.all flatD = true ∧ Φ (.bl (if neg then !inF x ds else inF x ds)) c) ∨ ∃ p ds ps, D.py x = some p ∧ seqOf y = some ds ∧ D.pys ds = some ps ∧ SeqAt.shaped p = true ∧ SeqAt.shaped (.list ps) = true ∧ Φ (.bl (if neg then !ps.any fun z => PyData.eqv z p else ps.any fun z => PyData.eqv z p)) c
def fIsN (neg : Bool) : F2
  | .non, .non, c, Φ => Φ (.bl (!neg)) c
  | .cell _, .non, c, Φ => Φ (.bl neg) c
  | .raw _, _, _, _ => False
  | _, .non, c, Φ => Φ (.bl neg) c
  | _, _, _, _ => False
def rInT (K : PySem.W.Frag) : R2 := fun x y H Q => ∃ d ds, Dp K H x d ∧ Dp K H y (.tuple ds) ∧ SeqAt.shaped d = true ∧ SeqAt.shaped (.list ds) = true ∧ Q (.bl (ds.any fun z => PyData.eqv z d)) H
def rNinT (K : PySem.W.Frag) : R2 := fun x y H Q => ∃ d ds, Dp K H x d ∧ Dp K H y (.tuple ds) ∧ SeqAt.shaped d = true ∧ SeqAt.shaped (.list ds) = true ∧ Q (.bl (!ds.any fun z => PyData.eqv z d)) H
theorem op_inT {X : Cx} (hu : X.A.units + 65 < cLine) : OpR X (compareOp .In) (rInT X.K) := by
  intro pins s σ H x y v u Q I rx ry ⟨d, ds, hd, he, sd, se, q⟩
  obtain ⟨as, w1⟩ := Dp.reads I d x v hd rx
  obtain ⟨bs, w2⟩ := Dp.reads I (.tuple ds) y u he ry
  exact SeqAt.in_tuple_reads w2 w1 (SeqAt.canLay_of_shaped se) (SeqAt.canLay_of_shaped sd) (room_in_shaped sd hu) ⟨.bl _, H, I, rfl, q⟩
theorem op_ninT {X : Cx} (hu : X.A.units + 65 < cLine) : OpR X (compareOp .NotIn) (rNinT X.K) := by
  intro pins s σ H x y v u Q I rx ry ⟨d, ds, hd, he, sd, se, q⟩
  obtain ⟨as, w1⟩ := Dp.reads I d x v hd rx
  obtain ⟨bs, w2⟩ := Dp.reads I (.tuple ds) y u he ry
  exact SeqAt.notIn_tuple_reads w2 w1 (SeqAt.canLay_of_shaped se) (SeqAt.canLay_of_shaped sd) (room_in_shaped sd hu) ⟨.bl _, H, I, rfl, q⟩

section
variable {X : Cx} {a b e : Expr} {ta tb tc : TD} {pos : Pos} {k : Nat}
theorem pyeq_lift {K : PySem.W.Frag} {neg : Bool} {x y : D} {c : List Cell} {Φ : D → List Cell → Prop} {H : Hp} {m : Ad} {u v : V} {Q : VK} (Cc : CR K H m c) (r1 : W K H m x u) (r2 : W K H m y v) (q : KQ K H m Φ Q)
    (h : ∃ p q, D.py x = some p ∧ D.py y = some q ∧ SeqAt.shaped p = true ∧ SeqAt.shaped q = true ∧ Φ (.bl (if neg then !PyData.eqv p q else PyData.eqv p q)) c) :
    ∃ d e, Dp K H u d ∧ Dp K H v e ∧ SeqAt.shaped d = true ∧ SeqAt.shaped e = true ∧ Q (.bl (if neg then !PyData.eqv d e else PyData.eqv d e)) H := by
  obtain ⟨p, q', e1, e2, s1, s2, h⟩ := h
  exact ⟨p, q', W.dp r1 e1, W.dp r2 e2, s1, s2, q.pure Cc h rfl⟩
theorem l2_eq {K : PySem.W.Frag} : L2f K (fEq false) (fun x y H Q => rEq x y H Q ∨ rEqD K x y H Q) := by
  intro x y c Φ h H m u v Cc r1 r2 Q q
  cases x <;> cases y <;> first
    | (cases r1; cases r2; exact .inl ⟨rfl, by simpa using q.pure Cc h rfl⟩)
    | exact .inr (pyeq_lift (neg := false) Cc r1 r2 q h)
theorem l2_ne {K : PySem.W.Frag} : L2f K (fEq true) (fun x y H Q => rNe x y H Q ∨ rNeD K x y H Q) := by
  intro x y c Φ h H m u v Cc r1 r2 Q q
  cases x <;> cases y <;> first
    | (cases r1; cases r2; exact .inl ⟨rfl, by simpa using q.pure Cc h rfl⟩)
    | exact .inr (pyeq_lift (neg := true) Cc r1 r2 q h)
theorem pd_eq (hr : Room k X.A) (ha : PD X a ta) (hb : PD X b tb) : PD X (.Compare a [.Eq] [b] pos) (dBin (fEq false) ta tb) := PE.imp (pe_cmpR (op_eq.or (op_eqD hr.units)) ha hb (nomark _)) fun σ H Q h => lift_bin l2_eq h
theorem pd_ne (hr : Room k X.A) (ha : PD X a ta) (hb : PD X b tb) : PD X (.Compare a [.NotEq] [b] pos) (dBin (fEq true) ta tb) := PE.imp (pe_cmpR (op_ne.or (op_neD hr.units)) ha hb (nomark _)) fun σ H Q h => lift_bin l2_ne h
theorem l2_cmp {K : PySem.W.Frag} {g : Int → Int → Bool} : L2f K (fCmp g) (rI0 fun i j => .bl (g i j)) := by
  intro x y c Φ h H m u v Cc r1 r2 Q q
  cases x <;> cases y <;> first | exact h.elim | skip
  cases r1; cases r2
  exact ⟨_, _, rfl, rfl, q.pure Cc h rfl⟩
abbrev fLt := fCmp fun i j => decide (i < j)
abbrev fLe := fCmp fun i j => decide (i ≤ j)
abbrev fGt := fCmp fun i j => decide (j < i)
abbrev fGe := fCmp fun i j => decide (j ≤ i)
theorem pd_lt (ha : PD X a ta) (hb : PD X b tb) : PD X (.Compare a [.Lt] [b] pos) (dBin fLt ta tb) := PE.imp (pe_cmpR op_lt ha hb (nomark _)) fun σ H Q h => lift_bin l2_cmp h
theorem pd_le (ha : PD X a ta) (hb : PD X b tb) : PD X (.Compare a [.LtE] [b] pos) (dBin fLe ta tb) := PE.imp (pe_cmpR op_le ha hb (nomark _)) fun σ H Q h => lift_bin l2_cmp h
theorem pd_gt (ha : PD X a ta) (hb : PD X b tb) : PD X (.Compare a [.Gt] [b] pos) (dBin fGt ta tb) := PE.imp (pe_cmpR op_gt ha hb (nomark _)) fun σ H Q h => lift_bin l2_cmp h
theorem pd_ge (ha : PD X a ta) (hb : PD X b tb) : PD X (.Compare a [.GtE] [b] pos) (dBin fGe ta tb) := PE.imp (pe_cmpR op_ge ha hb (nomark _)) fun σ H Q h => lift_bin l2_cmp h
theorem seq_dp {K : PySem.W.Frag} {H : Hp} {m : Ad} {y : D} {v : V} {ds : List D} {ps : List PyData} (r : W K H m y v) (e1 : seqOf y = some ds) (e2 : D.pys ds = some ps) : Dp K H v (.list ps) ∨ Dp K H v (.tuple ps) := by
  cases y <;> first | (cases e1; done) | skip
  · cases e1; exact .inr (W.dp r (by rw [D.py, e2]; rfl))
  · cases e1; exact .inl (W.dp r (by rw [D.py, e2]; rfl))
  · cases e1; exact .inl (W.dp r (by rw [D.py, e2]; rfl))
theorem seq_in {K : PySem.W.Frag} {m : Ad} {H : Hp} {x : D} {u : V} {ds : List D} (r : W K H m x u) (e : seqOf x = some ds) : ∃ p xs, u = .ref p ∧ (SqL K H p xs ∨ SqT K H p xs) ∧ RRL K H m ds xs := by
  cases x <;> first | (cases e; done) | skip
  · cases e; obtain ⟨p, xs, e1, h1, h2⟩ := r; exact ⟨p, xs, e1, .inr (ex_t (ex_hid m H) h1), h2⟩
  · cases e; obtain ⟨p, xs, e1, h1, h2⟩ := r; exact ⟨p, xs, e1, .inl (SqL.of h1), h2⟩
  · cases e; obtain ⟨p, xs, e1, h1, h2⟩ := r; exact ⟨p, xs, e1, .inl (ex_l (ex_hid m H) h1), h2⟩
theorem flat_v {K : PySem.W.Frag} {m : Ad} {H : Hp} {x : D} {u : V} (r : W K H m x u) (f : flatD x = true) : u = flatV' x ∧ flatV u = true := by
  cases x <;> first | (cases f; done) | (cases (show u = _ from r); exact ⟨rfl, rfl⟩)
theorem flat_vs {K : PySem.W.Frag} {m : List Addr} {H : Hp} : ∀ {ds : List D} {xs : List V}, RL K m H ds xs → ds.all flatD = true → xs = ds.map flatV' ∧ xs.all flatV = true
  | [], _, h, _ => by cases (show _ = [] from h); exact ⟨rfl, rfl⟩
  | d :: ds, _, ⟨x, r, e1, h1, h2⟩, f => by
    subst e1
    rw [List.all_cons, Bool.and_eq_true] at f
    obtain ⟨e2, f2⟩ := flat_vs h2 f.2
    have e3 : x = flatV' d ∧ flatV x = true := by
      cases d <;> first | (cases f.1; done) | (cases (show x = _ from h1); exact ⟨rfl, rfl⟩)
    exact ⟨by rw [e2, e3.1]; rfl, by rw [List.all_cons, e3.2, f2]; rfl⟩
def rInA (K : PySem.W.Frag) : R2 := fun x y H Q => (∃ i j, x = .str i ∧ y = .str j ∧ Q (.bl (!(Builtin.Str.occurrences j i 0 j.length 1).isEmpty)) H) ∨ (rIn K false x y H Q ∨ (rInD K x y H Q ∨ rInT K x y H Q))
def rNinA (K : PySem.W.Frag) : R2 := fun x y H Q => (∃ i j, x = .str i ∧ y = .str j ∧ Q (.bl (!(!(Builtin.Str.occurrences j i 0 j.length 1).isEmpty))) H) ∨ (rIn K true x y H Q ∨ (rNotInD K x y H Q ∨ rNinT K x y H Q))
theorem l2_in {K : PySem.W.Frag} : L2f K (fIn false) (rInA K) := by
  intro x y c Φ h H m u v Cc r1 r2 Q q
  have gen : (∃ ds, seqOf y = some ds ∧ flatD x = true ∧ ds.all flatD = true ∧ Φ (.bl (if false then !inF x ds else inF x ds)) c) ∨ (∃ p ds ps, D.py x = some p ∧ seqOf y = some ds ∧ D.pys ds = some ps ∧ SeqAt.shaped p = true ∧ SeqAt.shaped (.list ps) = true ∧ Φ (.bl (if false then !ps.any fun z => PyData.eqv z p else ps.any fun z => PyData.eqv z p)) c) → rInA K u v H Q := by
    rintro (⟨ds, e2, f1, f2, h⟩ | ⟨p, ds, ps, e1, e2, e3, s1, s2, h⟩)
    · obtain ⟨a, xs, rfl, sq, rl⟩ := seq_in r2 e2
      obtain ⟨ex, fx⟩ := flat_v r1 f1
      obtain ⟨exs, fxs⟩ := flat_vs rl f2
      refine .inr (.inl ⟨a, xs, rfl, sq, fx, fxs, ?_⟩)
      rw [ex, exs]
      exact q.pure Cc h rfl
    rcases seq_dp r2 e2 e3 with d | d
    · exact .inr (.inr (.inl ⟨p, ps, W.dp r1 e1, d, s1, s2, q.pure Cc h rfl⟩))
    · exact .inr (.inr (.inr ⟨p, ps, W.dp r1 e1, d, s1, s2, q.pure Cc h rfl⟩))
  cases x <;> cases y <;> first
    | exact gen h
    | (cases r1; cases r2; exact .inl ⟨_, _, rfl, rfl, by rw [← inS_eq]; exact q.pure Cc h rfl⟩)
theorem l2_nin {K : PySem.W.Frag} : L2f K (fIn true) (rNinA K) := by
  intro x y c Φ h H m u v Cc r1 r2 Q q
  have gen : (∃ ds, seqOf y = some ds ∧ flatD x = true ∧ ds.all flatD = true ∧ Φ (.bl (if true then !inF x ds else inF x ds)) c) ∨ (∃ p ds ps, D.py x = some p ∧ seqOf y = some ds ∧ D.pys ds = some ps ∧ SeqAt.shaped p = true ∧ SeqAt.shaped (.list ps) = true ∧ Φ (.bl (if true then !ps.any fun z => PyData.eqv z p else ps.any fun z => PyData.eqv z p)) c) → rNinA K u v H Q := by
    rintro (⟨ds, e2, f1, f2, h⟩ | ⟨p, ds, ps, e1, e2, e3, s1, s2, h⟩)
    · obtain ⟨a, xs, rfl, sq, rl⟩ := seq_in r2 e2
      obtain ⟨ex, fx⟩ := flat_v r1 f1
      obtain ⟨exs, fxs⟩ := flat_vs rl f2
      refine .inr (.inl ⟨a, xs, rfl, sq, fx, fxs, ?_⟩)
      rw [ex, exs]
      exact q.pure Cc h rfl
    rcases seq_dp r2 e2 e3 with d | d
    · exact .inr (.inr (.inl ⟨p, ps, W.dp r1 e1, d, s1, s2, q.pure Cc h rfl⟩))
    · exact .inr (.inr (.inr ⟨p, ps, W.dp r1 e1, d, s1, s2, q.pure Cc h rfl⟩))
  cases x <;> cases y <;> first
    | exact gen h
    | (cases r1; cases r2; exact .inl ⟨_, _, rfl, rfl, by rw [← inS_eq]; exact q.pure Cc h rfl⟩)
theorem pd_in (hr : Room k X.A) (ha : PD X a ta) (hb : PD X b tb) (hm : behindInMarks .In b = false := by rfl) : PD X (.Compare a [.In] [b] pos) (dBin (fIn false) ta tb) :=
  PE.imp (pe_cmpR (op_in_str.or (op_in_seq.or ((op_inD (by have := hr.un; omega)).or (op_inT (by have := hr.un; omega))))) ha hb hm) fun σ H Q h => lift_bin l2_in h
theorem pd_nin (hr : Room k X.A) (ha : PD X a ta) (hb : PD X b tb) (hm : behindInMarks .NotIn b = false := by rfl) : PD X (.Compare a [.NotIn] [b] pos) (dBin (fIn true) ta tb) :=
  PE.imp (pe_cmpR (op_notin_str.or (op_notIn_seq.or ((op_notInD (by have := hr.un; omega)).or (op_ninT (by have := hr.un; omega))))) ha hb hm) fun σ H Q h => lift_bin l2_nin h
theorem l2_isn {K : PySem.W.Frag} : L2f K (fIsN false) (fun x y H Q => y = .non ∧ Q (.bl (decide (x = .non))) H) := by
  intro x y c Φ h H m u v Cc r1 r2 Q q
  have key : y = .non → ∀ b, decide (u = V.non) = b → Φ (.bl b) c → v = .non ∧ Q (.bl (decide (u = .non))) H := fun e b e2 h' => by
    subst e
    exact ⟨r2, by rw [e2]; exact q.pure Cc h' rfl⟩
  cases y <;> first | (cases x <;> exact h.elim) | skip
  refine key rfl _ ?_ (show Φ (.bl (match x with | .non => true | _ => false)) c by cases x <;> first | exact h | exact h.elim)
  cases x <;> first
    | (cases (show u = _ from r1); rfl)
    | (obtain ⟨_, _, rfl, _⟩ := r1; rfl)
    | (obtain ⟨_, _, rfl⟩ := r1; rfl)
    | (obtain ⟨_, _, _, rfl, _⟩ := r1; rfl)
    | exact h.elim
theorem l2_isnn {K : PySem.W.Frag} : L2f K (fIsN true) (fun x y H Q => y = .non ∧ Q (.bl (!decide (x = .non))) H) := by
  intro x y c Φ h H m u v Cc r1 r2 Q q
  have key : y = .non → ∀ b, (!decide (u = V.non)) = b → Φ (.bl b) c → v = .non ∧ Q (.bl (!decide (u = .non))) H := fun e b e2 h' => by
    subst e
    exact ⟨r2, by rw [e2]; exact q.pure Cc h' rfl⟩
  cases y <;> first | (cases x <;> exact h.elim) | skip
  refine key rfl _ ?_ (show Φ (.bl (match x with | .non => false | _ => true)) c by cases x <;> first | exact h | exact h.elim)
  cases x <;> first
    | (cases (show u = _ from r1); rfl)
    | (obtain ⟨_, _, rfl, _⟩ := r1; rfl)
    | (obtain ⟨_, _, rfl⟩ := r1; rfl)
    | (obtain ⟨_, _, _, rfl, _⟩ := r1; rfl)
    | exact h.elim
theorem pd_isn (ha : PD X a ta) (hb : PD X b tb) : PD X (.Compare a [.Is] [b] pos) (dBin (fIsN false) ta tb) := PE.imp (pe_cmpR op_isN ha hb (nomark _)) fun σ H Q h => lift_bin l2_isn h
theorem pd_isnn (ha : PD X a ta) (hb : PD X b tb) : PD X (.Compare a [.IsNot] [b] pos) (dBin (fIsN true) ta tb) := PE.imp (pe_cmpR op_notN ha hb (nomark _)) fun σ H Q h => lift_bin l2_isnn h
/-- a <= b <= c and its like -/
def dChain (f g : F2) (ta tb tc : TD) : TD := fun ρ c Φ => ta ρ c fun x c1 => tb ρ c1 fun y c2 => f (vw c2 x) (vw c2 y) c2 fun z c3 => match z with
  | .bl true => tc ρ c3 fun w c4 => g (vw c4 y) (vw c4 w) c4 Φ
  | .bl false => Φ (.bl false) c3
  | _ => False
theorem lift_chain {K : PySem.W.Frag} {f g : F2} {r r' : R2} {σ : L2.St} {H : Hp} {Q : VK} (lf : L2f K f r) (lg : L2f K g r') (h : lift K (dChain f g ta tb tc) σ H Q) : tChain r r' (lift K ta) (lift K tb) (lift K tc) σ H Q := by
  obtain ⟨m, ρ, c, Φ, S, h, q⟩ := h
  refine ⟨m, ρ, c, _, S, h, fun x c1 u H1 m1 hx C1 R1 L1 => ⟨m1, ρ, c1, _, S.step L1 C1, hx, fun y c2 v H2 m2 hy C2 R2 L2 => ?_⟩⟩
  refine lf _ _ c2 _ hy H2 m2 u v C2 (W.vw C2 (L2.r R1)) (W.vw C2 R2) _ fun d c3 w H3 m3 hd C3 R3 L3 => ?_
  cases d with
  | bl bo =>
    cases bo with
    | true =>
      refine ⟨true, R3, ?_⟩
      rw [if_pos rfl]
      exact ⟨m3, ρ, c3, _, S.step (L1.trans (L2.trans L3)) C3, hd, fun z c4 w4 H4 m4 hz C4 R4 L4 =>
        lg _ _ c4 Φ hz H4 m4 v w4 C4 (W.vw C4 ((L3.trans L4).r R2)) (W.vw C4 R4) Q fun d' c' w' H' m' h' C' R' L' => q d' c' w' H' m' h' C' R' (L1.trans (L2.trans (L3.trans (L4.trans L'))))⟩
    | false =>
      refine ⟨false, R3, ?_⟩
      rw [if_neg (by decide)]
      exact q (.bl false) c3 (.bl false) H3 m3 hd C3 rfl (L1.trans (L2.trans L3))
  | _ => exact hd.elim
variable {cE : Expr}
theorem pd_lele (ha : PD X a ta) (hb : PD X b tb) (hc : PD X cE tc) (hm : lastMarks [.LtE, .LtE] [b, cE] = false := by with_unfolding_all rfl) : PD X (.Compare a [.LtE, .LtE] [b, cE] pos) (dChain fLe fLe ta tb tc) :=
  PE.imp (pe_chain op_le op_le ha hb hc hm) fun σ H Q h => lift_chain l2_cmp l2_cmp h

/-! ### tests -/
def asB (Φ : Bool → List Cell → Prop) : D → List Cell → Prop
  | .bl b, c => Φ b c
  | _, _ => False
def dT (t : TD) : TDt := fun ρ c Φ => t ρ c (asB Φ)
theorem lift_T {K : PySem.W.Frag} {t : TD} {σ : L2.St} {H : Hp} {Q : Bool → Hp → Prop} (h : liftT K (dT t) σ H Q) : lift K t σ H fun x H' => ∃ k, x = .bl k ∧ Q k H' := by
  obtain ⟨m, ρ, c, Φ, S, h, q⟩ := h
  refine ⟨m, ρ, c, asB Φ, S, h, fun d c' v H' m' hd C R L => ?_⟩
  cases d with
  | bl b => cases (show v = .bl b from R); exact ⟨b, rfl, q b c' H' m' hd C L⟩
  | _ => exact hd.elim
/-- an expression that gives a truth value, as a test -/
theorem pdt_val (h : PD X e ta) (he : ∀ whole, isTrue e X.env whole = (do let v ← whole; standAt e.pos; holding [v] (truthy v)) := by intro _; rfl) : PDt X e (dT ta) :=
  PT.imp (pt_val h he) fun σ H Q h => lift_T h
theorem pdt_cmp {op : CmpOp} {f : F2} {r : R2} (ho : OpR X (compareOp op) r) (l : L2f X.K f r) (ha : PD X a ta) (hb : PD X b tb) (hm : behindInMarks op b = false) : PDt X (.Compare a [op] [b] pos) (dT (dBin f ta tb)) :=
  PT.imp (pt_cmpR ho ha hb hm) fun σ H Q h => lift_bin l (lift_T h)
theorem pdt_eq (hr : Room k X.A) (ha : PD X a ta) (hb : PD X b tb) : PDt X (.Compare a [.Eq] [b] pos) (dT (dBin (fEq false) ta tb)) := pdt_cmp (op_eq.or (op_eqD hr.units)) l2_eq ha hb (nomark _)
theorem pdt_ne (hr : Room k X.A) (ha : PD X a ta) (hb : PD X b tb) : PDt X (.Compare a [.NotEq] [b] pos) (dT (dBin (fEq true) ta tb)) := pdt_cmp (op_ne.or (op_neD hr.units)) l2_ne ha hb (nomark _)
theorem pdt_lt (ha : PD X a ta) (hb : PD X b tb) : PDt X (.Compare a [.Lt] [b] pos) (dT (dBin fLt ta tb)) := pdt_cmp op_lt l2_cmp ha hb (nomark _)
theorem pdt_le (ha : PD X a ta) (hb : PD X b tb) : PDt X (.Compare a [.LtE] [b] pos) (dT (dBin fLe ta tb)) := pdt_cmp op_le l2_cmp ha hb (nomark _)
theorem pdt_gt (ha : PD X a ta) (hb : PD X b tb) : PDt X (.Compare a [.Gt] [b] pos) (dT (dBin fGt ta tb)) := pdt_cmp op_gt l2_cmp ha hb (nomark _)
theorem pdt_ge (ha : PD X a ta) (hb : PD X b tb) : PDt X (.Compare a [.GtE] [b] pos) (dT (dBin fGe ta tb)) := pdt_cmp op_ge l2_cmp ha hb (nomark _)
theorem pdt_isn (ha : PD X a ta) (hb : PD X b tb) : PDt X (.Compare a [.Is] [b] pos) (dT (dBin (fIsN false) ta tb)) := pdt_cmp op_isN l2_isn ha hb (nomark _)
theorem pdt_isnn (ha : PD X a ta) (hb : PD X b tb) : PDt X (.Compare a [.IsNot] [b] pos) (dT (dBin (fIsN true) ta tb)) := pdt_cmp op_notN l2_isnn ha hb (nomark _)
theorem pdt_in (hr : Room k X.A) (ha : PD X a ta) (hb : PD X b tb) (hm : behindInMarks .In b = false := by rfl) : PDt X (.Compare a [.In] [b] pos) (dT (dBin (fIn false) ta tb)) :=
  pdt_cmp (op_in_str.or (op_in_seq.or ((op_inD (by have := hr.un; omega)).or (op_inT (by have := hr.un; omega))))) l2_in ha hb hm
theorem pdt_nin (hr : Room k X.A) (ha : PD X a ta) (hb : PD X b tb) (hm : behindInMarks .NotIn b = false := by rfl) : PDt X (.Compare a [.NotIn] [b] pos) (dT (dBin (fIn true) ta tb)) :=
  pdt_cmp (op_notin_str.or (op_notIn_seq.or ((op_notInD (by have := hr.un; omega)).or (op_ninT (by have := hr.un; omega))))) l2_nin ha hb hm
theorem pdt_lele (ha : PD X a ta) (hb : PD X b tb) (hc : PD X cE tc) (hm : lastMarks [.LtE, .LtE] [b, cE] = false := by with_unfolding_all rfl) : PDt X (.Compare a [.LtE, .LtE] [b, cE] pos) (dT (dChain fLe fLe ta tb tc)) :=
  PT.imp (pt_chain op_le op_le ha hb hc hm) fun σ H Q h => lift_chain l2_cmp l2_cmp (lift_T h)
/- and, or, not, as tests -/
variable {tA tB : TDt} {rest : List Expr}
def dOr (t u : TDt) : TDt := fun ρ c Φ => t ρ c fun b c1 => match b with | true => Φ true c1 | false => u ρ c1 Φ
def dAnd (t u : TDt) : TDt := fun ρ c Φ => t ρ c fun b c1 => match b with | true => u ρ c1 Φ | false => Φ false c1
def dNot (t : TDt) : TDt := fun ρ c Φ => t ρ c fun b c1 => Φ (!b) c1
abbrev PDw (X : Cx) (e : Expr) (t : TDt) : Prop := PW X e (liftT X.K t)
theorem PDw.pt (h : PDw X e tA) : PDt X e tA := PW.pt h
theorem pdw_or1 (ha : PDt X a tA) : PDw X (.BoolOp .Or [a] pos) tA := pw_or1 ha
theorem pdw_and1 (ha : PDt X a tA) : PDw X (.BoolOp .And [a] pos) tA := pw_and1 ha
theorem pdw_or (ha : PDt X a tA) (hb : PDw X (.BoolOp .Or (b :: rest) pos) tB) : PDw X (.BoolOp .Or (a :: b :: rest) pos) (dOr tA tB) := PW.imp (pw_or ha hb) fun σ H Q ⟨m, ρ, c, Φ, S, h, q⟩ =>
  ⟨m, ρ, c, _, S, h, fun b c1 H1 m1 hx C1 L1 => by
    cases b with
    | true => exact q true c1 H1 m1 hx C1 L1
    | false => exact ⟨m1, ρ, c1, Φ, S.step L1 C1, hx, fun b' c' H' m' h' C' L' => q b' c' H' m' h' C' (L1.trans L')⟩⟩
theorem pdw_and (ha : PDt X a tA) (hb : PDw X (.BoolOp .And (b :: rest) pos) tB) : PDw X (.BoolOp .And (a :: b :: rest) pos) (dAnd tA tB) := PW.imp (pw_and ha hb) fun σ H Q ⟨m, ρ, c, Φ, S, h, q⟩ =>
  ⟨m, ρ, c, _, S, h, fun b c1 H1 m1 hx C1 L1 => by
    cases b with
    | false => exact q false c1 H1 m1 hx C1 L1
    | true => exact ⟨m1, ρ, c1, Φ, S.step L1 C1, hx, fun b' c' H' m' h' C' L' => q b' c' H' m' h' C' (L1.trans L')⟩⟩
theorem pdt_not (ha : PDt X a tA) : PDt X (.UnaryOp .Not a pos) (dNot tA) := PT.imp (pt_not ha) fun σ H Q ⟨m, ρ, c, Φ, S, h, q⟩ =>
  ⟨m, ρ, c, _, S, h, fun b c1 H1 m1 hx C1 L1 => q (!b) c1 H1 m1 hx C1 L1⟩
/-- .. as values -/
def dAndV (t u : TD) : TD := fun ρ c Φ => t ρ c fun d c1 => match d with | .bl true => u ρ c1 Φ | .bl false => Φ (.bl false) c1 | _ => False
def dOrV (t u : TD) : TD := fun ρ c Φ => t ρ c fun d c1 => match d with | .bl true => Φ (.bl true) c1 | .bl false => u ρ c1 Φ | _ => False
def dNotV (t : TD) : TD := fun ρ c Φ => t ρ c fun d c1 => match d with | .bl b => Φ (.bl (!b)) c1 | _ => False
theorem pd_one {op} (h : PD X a ta) : PD X (.BoolOp op [a] pos) ta := pe_one h
theorem pd_and (ha : PD X a ta) (hb : PD X (.BoolOp .And (b :: rest) pos) tb) : PD X (.BoolOp .And (a :: b :: rest) pos) (dAndV ta tb) := PE.imp (pe_and ha hb) fun σ H Q ⟨m, ρ, c, Φ, S, h, q⟩ =>
  ⟨m, ρ, c, _, S, h, fun d c1 v H1 m1 hx C1 R1 L1 => by
    cases d with
    | bl bo =>
      refine ⟨bo, R1, ?_⟩
      cases bo with
      | true => rw [if_pos rfl]; exact ⟨m1, ρ, c1, Φ, S.step L1 C1, hx, fun d' c' v' H' m' h' C' R' L' => q d' c' v' H' m' h' C' R' (L1.trans L')⟩
      | false => rw [if_neg (by decide)]; exact q _ c1 _ H1 m1 hx C1 rfl L1
    | _ => exact hx.elim⟩
theorem pd_or (ha : PD X a ta) (hb : PD X (.BoolOp .Or (b :: rest) pos) tb) : PD X (.BoolOp .Or (a :: b :: rest) pos) (dOrV ta tb) := PE.imp (pe_or ha hb) fun σ H Q ⟨m, ρ, c, Φ, S, h, q⟩ =>
  ⟨m, ρ, c, _, S, h, fun d c1 v H1 m1 hx C1 R1 L1 => by
    cases d with
    | bl bo =>
      refine ⟨bo, R1, ?_⟩
      cases bo with
      | true => rw [if_pos rfl]; exact q _ c1 _ H1 m1 hx C1 rfl L1
      | false => rw [if_neg (by decide)]; exact ⟨m1, ρ, c1, Φ, S.step L1 C1, hx, fun d' c' v' H' m' h' C' R' L' => q d' c' v' H' m' h' C' R' (L1.trans L')⟩
    | _ => exact hx.elim⟩
theorem pd_not (ha : PD X a ta) : PD X (.UnaryOp .Not a pos) (dNotV ta) := PE.imp (pe_not ha) fun σ H Q ⟨m, ρ, c, Φ, S, h, q⟩ =>
  ⟨m, ρ, c, _, S, h, fun d c1 v H1 m1 hx C1 R1 L1 => by
    cases d with
    | bl bo => exact ⟨bo, R1, q _ c1 _ H1 m1 hx C1 rfl L1⟩
    | _ => exact hx.elim⟩
def dNeg (t : TD) : TD := fun ρ c Φ => t ρ c fun d c1 => match d with | .int i => Φ (.int (-i)) c1 | _ => False
theorem pd_neg (ha : PD X a ta) : PD X (.UnaryOp .USub a pos) (dNeg ta) := PE.imp (pe_un un_neg ha) fun σ H Q ⟨m, ρ, c, Φ, S, h, q⟩ =>
  ⟨m, ρ, c, _, S, h, fun d c1 v H1 m1 hx C1 R1 L1 => by
    cases d with
    | int i => exact ⟨i, R1, q _ c1 _ H1 m1 hx C1 rfl L1⟩
    | _ => exact hx.elim⟩
/-- a if t else b -/
def dIf (t : TDt) (ta tb : TD) : TD := fun ρ c Φ => t ρ c fun b c1 => match b with | true => ta ρ c1 Φ | false => tb ρ c1 Φ
theorem pd_if {cE : Expr} (hc : PDt X cE tA) (ha : PD X a ta) (hb : PD X b tb) : PD X (.IfExp cE a b pos) (dIf tA ta tb) := PE.imp (pe_ifExp hc ha hb) fun σ H Q ⟨m, ρ, c, Φ, S, h, q⟩ =>
  ⟨m, ρ, c, _, S, h, fun b c1 H1 m1 hx C1 L1 => by
    cases b with
    | true => rw [if_pos rfl]; exact ⟨m1, ρ, c1, Φ, S.step L1 C1, hx, fun d' c' v' H' m' h' C' R' L' => q d' c' v' H' m' h' C' R' (L1.trans L')⟩
    | false => rw [if_neg (by decide)]; exact ⟨m1, ρ, c1, Φ, S.step L1 C1, hx, fun d' c' v' H' m' h' C' R' L' => q d' c' v' H' m' h' C' R' (L1.trans L')⟩⟩
end
end Cw

namespace Cw
open PySem PySem.Spec PyProof.Rows L2

/-! ### a[i], a[i:j] -/
def fIx : F2
  | .str z, .int i, c, Φ => z.length ≤ sizeLine ∧ match atI z.cps.toList i with
    | some k => Φ (.str ⟨#[k]⟩) c
    | none => False
  | x, .int i, c, Φ => match seqOf x with
    | some ds => (match atI ds i with
      | some d => Φ d c
      | none => False)
    | none => False
  | _, _, _, _ => False
def cutD {α : Type} (xs : List α) (lo hi : Option Int) : List α := (xs.drop (HT.sIx xs.length 0 lo)).take (HT.sIx xs.length xs.length hi - HT.sIx xs.length 0 lo)
def fSl (x : D) (lo hi : Option Int) (c : List Cell) (Φ : D → List Cell → Prop) : Prop := match x with
  | .str z => z.length ≤ sizeLine ∧ Φ (.str (cutS z lo hi)) c
  | .tup ds => Φ (.tup (cutD ds lo hi)) c
  | .lst ds => Φ (.lst (cutD ds lo hi)) c
  | .fl ds => Φ (.lst (cutD ds lo hi)) c
  | _ => False
abbrev TDo := Env → List Cell → (Option Int → List Cell → Prop) → Prop
def liftO (K : PySem.W.Frag) (t : TDo) : TO := fun σ H Q => ∃ (m : Ad) (ρ : Env) (c : List Cell) (Φ : Option Int → List Cell → Prop), SR K σ H m ρ c ∧ t ρ c Φ ∧
  ∀ b c' H' m', Φ b c' → CR K H' m' c' → Le m H m' H' → Q b H'
def dNoPart : TDo := fun _ c Φ => Φ none c
def dPart (t : TD) : TDo := fun ρ c Φ => t ρ c fun d c1 => match d with | .int i => Φ (some i) c1 | _ => False
def dSl (ta : TD) (tl th : TDo) : TD := fun ρ c Φ => ta ρ c fun x c1 => tl ρ c1 fun l c2 => th ρ c2 fun u c3 => fSl (vw c3 x) l u c3 Φ
section
variable {X : Cx} {a b e : Expr} {es : List Expr} {ta tb : TD} {tas : TDs} {pos p2 : Pos} {k : Nat} {lo hi : Option Expr} {tl th : TDo}
theorem RL.atI {K : PySem.W.Frag} {m : List Addr} {H : Hp} {ds : List D} {xs : List V} {i : Int} {d : D} (h : RL K m H ds xs) (e : L2.atI ds i = some d) : ∃ x, L2.atI xs i = some x ∧ R K m H d x := by
  unfold L2.atI at e ⊢
  rw [rlen h]
  cases hi : ixN ds.length i with
  | none => rw [hi] at e; cases e
  | some j =>
    rw [hi] at e
    obtain ⟨x, h1, h2⟩ := RL.get (i := j) h e
    exact ⟨x, h1, h2⟩
theorem seq_view {K : PySem.W.Frag} {m : Ad} {H : Hp} {x : D} {u : V} {ds : List D} (r : W K H m x u) (e : seqOf x = some ds) : ∃ p xs, u = .ref p ∧ (SqL K H p xs ∨ SqT K H p xs) ∧ RRL K H m ds xs := by
  cases x <;> first | (cases e; done) | skip
  · cases e; obtain ⟨p, xs, e1, h1, h2⟩ := r; exact ⟨p, xs, e1, .inr (ex_t (ex_hid m H) h1), h2⟩
  · cases e; obtain ⟨p, xs, e1, h1, h2⟩ := r; exact ⟨p, xs, e1, .inl (SqL.of h1), h2⟩
  · cases e; obtain ⟨p, xs, e1, h1, h2⟩ := r; exact ⟨p, xs, e1, .inl (ex_l (ex_hid m H) h1), h2⟩
theorem l2_ix {K : PySem.W.Frag} : L2f K fIx (rIx K) := by
  intro x y c Φ h H m u v Cc r1 r2 Q q
  have gen : ∀ i : Int, y = .int i → (match seqOf x with
    | some ds => (match atI ds i with
      | some d => Φ d c
      | none => False)
    | none => False) → rIx K u v H Q := by
    rintro i rfl h
    cases e1 : seqOf x with
    | none => rw [e1] at h; exact h.elim
    | some ds =>
      rw [e1] at h
      cases e2 : atI ds i with
      | none => simp only [e2] at h
      | some d =>
        simp only [e2] at h
        obtain ⟨p, xs, rfl, sq, rl⟩ := seq_view r1 e1
        obtain ⟨w, h3, h4⟩ := RL.atI rl e2
        rcases sq with sq | sq
        · exact .inl ⟨p, xs, i, w, rfl, r2, sq, h3, q.pure Cc h h4⟩
        · exact .inr (.inl ⟨p, xs, i, w, rfl, r2, sq, h3, q.pure Cc h h4⟩)
  cases y <;> first | (cases x <;> exact h.elim) | skip
  rename_i i
  cases x <;> first
    | exact gen i rfl h
    | (rename_i z
       cases (show u = V.str z from r1)
       obtain ⟨hz, h⟩ := h
       cases e : atI z.cps.toList i with
       | none => simp only [e] at h
       | some kk => simp only [e] at h; exact .inr (.inr ⟨z, i, kk, rfl, r2, hz, e, q.pure Cc h rfl⟩))
theorem pd_ix (ha : PD X a ta) (hb : PD X b tb) (hs : PlainIx b := by exact fun _ _ => rfl) : PD X (.Subscript a b pos) (dBin fIx ta tb) := PE.imp (pe_ix ix_seq ha hb hs) fun σ H Q h => lift_bin l2_ix h
theorem po_no : PO X none (liftO X.K dNoPart) := ⟨fun pins s σ H Q I h => po_none.run pins s σ H Q I (by obtain ⟨m, ρ, c, Φ, S, h, q⟩ := h; exact q none c H m h S.cr (Le.refl _ _))⟩
theorem po_so (h : PD X e ta) : PO X (some e) (liftO X.K (dPart ta)) := ⟨fun pins s σ H Q I h' => (po_some h).run pins s σ H Q I (by
  obtain ⟨m, ρ, c, Φ, S, h, q⟩ := h'
  exact ⟨m, ρ, c, _, S, h, fun d c1 v H1 m1 hx C1 R1 L1 => by
    cases d with
    | int i => exact ⟨i, R1, q _ c1 H1 m1 hx C1 L1⟩
    | _ => exact hx.elim⟩)⟩
theorem RL.cut {K : PySem.W.Frag} {m : List Addr} {H : Hp} {ds : List D} {xs : List V} {lo hi : Option Int} (h : RL K m H ds xs) : RL K m H (cutD ds lo hi) (cutV xs lo hi) := by
  unfold cutD cutV
  rw [rlen h]
  exact RL.take _ (RL.drop _ h)
theorem pd_sl (ha : PD X a ta) (hl : PO X lo (liftO X.K tl)) (hh : PO X hi (liftO X.K th)) : PD X (.Subscript a (.Slice lo hi none p2) pos) (dSl ta tl th) :=
  PE.imp (pe_slice (sl_list.or (sl_str.or sl_tupA)) ha hl hh) fun σ H Q ⟨m, ρ, c, Φ, S, h, q⟩ =>
  ⟨m, ρ, c, _, S, h, fun x c1 u H1 m1 hx C1 R1 L1 => ⟨m1, ρ, c1, _, S.step L1 C1, hx, fun l c2 H2 m2 hl C2 L2 => ⟨m2, ρ, c2, _, S.step (L1.trans L2) C2, hl, fun r c3 H3 m3 hr C3 L3 => by
    have w := W.vw C3 ((L2.trans L3).r R1)
    have L := L1.trans (L2.trans L3)
    have q' : KQ X.K H3 m3 Φ Q := fun d c' w H' m' hd C' R' L' => q d c' w H' m' hd C' R' (L.trans L')
    revert hr w
    generalize vw c3 x = x'
    intro hr w
    cases x' <;> first | exact hr.elim | skip
    · cases (show u = _ from w); exact .inr (.inl ⟨_, rfl, hr.1, q'.pure C3 hr.2 rfl⟩)
    · obtain ⟨p, xs, rfl, h1, h2⟩ := w
      refine .inr (.inr ⟨p, xs, rfl, ex_t (ex_hid m3 H3) h1, fun e => ?_, fun _ t ht => KQ.newT (X := X) q' C3 hr (RL.cut h2) ht⟩)
      have z : cutV xs l r = xs := by
        unfold cutV
        rw [e.1, e.2]
        simp
      have z2 := RL.cut (lo := l) (hi := r) h2
      rw [z] at z2
      exact q'.pure C3 hr ⟨p, xs, rfl, h1, z2⟩
    · obtain ⟨p, xs, rfl, h1, h2⟩ := w
      exact .inl ⟨p, xs, rfl, SqL.of h1, fun t ht => KQ.newL (X := X) q' C3 hr (RL.cut h2) ht⟩
    · obtain ⟨p, xs, rfl, h1, h2⟩ := w
      exact .inl ⟨p, xs, rfl, ex_l (ex_hid m3 H3) h1, fun t ht => KQ.newL (X := X) q' C3 hr (RL.cut h2) ht⟩⟩⟩⟩

end
end Cw

namespace Cw
open PySem PySem.Spec PyProof.Rows L2

/-! ### built-in functions -/
def un1 (f : F1) : Fs
  | [x], c, Φ => f x c Φ
  | _, _, _ => False
def un2 (f : F2) : Fs
  | [x, y], c, Φ => f x y c Φ
  | _, _, _ => False
theorem p1 {α β : Type} {F : α → β → Prop} {x : α} {us : List β} (h : Paired F [x] us) : ∃ u, us = [u] ∧ F x u := by
  cases h with | cons r t => cases t; exact ⟨_, rfl, r⟩
theorem p2' {α β : Type} {F : α → β → Prop} {x y : α} {us : List β} (h : Paired F [x, y] us) : ∃ u v, us = [u, v] ∧ F x u ∧ F y v := by
  cases h with | cons r t => cases t with | cons r2 t2 => cases t2; exact ⟨_, _, rfl, r, r2⟩
theorem lsf1 {K : PySem.W.Frag} {f : F1} {r : List V → Hp → VK → Prop} (h : L1f K f (fun u H Q => r [u] H Q)) : Lsf K (un1 f) r := by
  intro xs c Φ hx H m us C p Q q
  cases xs with
  | nil => exact hx.elim
  | cons x t =>
    cases t with
    | cons _ _ => exact hx.elim
    | nil => obtain ⟨u, rfl, r1⟩ := p1 p; exact h x c Φ hx H m u C r1 Q q
theorem lsf2 {K : PySem.W.Frag} {f : F2} {r : List V → Hp → VK → Prop} (h : L2f K f (fun u v H Q => r [u, v] H Q)) : Lsf K (un2 f) r := by
  intro xs c Φ hx H m us C p Q q
  cases xs with
  | nil => exact hx.elim
  | cons x t =>
    cases t with
    | nil => exact hx.elim
    | cons y t =>
      cases t with
      | cons _ _ => exact hx.elim
      | nil => obtain ⟨u, v, rfl, r1, r2⟩ := p2' p; exact h x y c Φ hx H m u v C r1 r2 Q q
theorem CallR.or {X : Cx} {f : Value} {r r' : List V → Hp → VK → Prop} (h : CallR X f r) (h' : CallR X f r') : CallR X f (fun xs H Q => r xs H Q ∨ r' xs H Q) := by
  intro pins s σ H xs us Q I rs q
  rcases q with q | q
  · exact h pins s σ H xs us Q I rs q
  · exact h' pins s σ H xs us Q I rs q
def fLen : F1
  | .str x, c, Φ => x.length ≤ sizeLine ∧ Φ (.int x.length) c
  | .tup ds, c, Φ => Φ (.int ds.length) c
  | .lst ds, c, Φ => Φ (.int ds.length) c
  | .fl ds, c, Φ => Φ (.int ds.length) c
  | _, _, _ => False
def fInt : F1
  | .int i, c, Φ => Φ (.int i) c
  | .str x, c, Φ => x.length ≤ 640 ∧ ∃ n, PySem.intText? x = some n ∧ Φ (.int n) c
  | _, _, _ => False
def fStr : F1
  | .int i, c, Φ => i.natAbs.log2 < 1920 ∧ Φ (.str (toString i)) c
  | .str x, c, Φ => Φ (.str x) c
  | _, _, _ => False
def fAbs : F1
  | .int i, c, Φ => Φ (.int (if i < 0 then -i else i)) c
  | _, _, _ => False
def fTuple : F1
  | .tup ds, c, Φ => Φ (.tup ds) c
  | .lst ds, c, Φ => Φ (.tup ds) c
  | .fl ds, c, Φ => Φ (.tup ds) c
  | _, _, _ => False
def fList : F1
  | .tup ds, c, Φ => Φ (.lst ds) c
  | .lst ds, c, Φ => Φ (.lst ds) c
  | .fl ds, c, Φ => Φ (.lst ds) c
  | _, _, _ => False
def fMax : F2
  | .int i, .int j, c, Φ => Φ (.int (if j > i then j else i)) c
  | _, _, _, _ => False
def fMin : F2
  | .int i, .int j, c, Φ => Φ (.int (if j < i then j else i)) c
  | _, _, _, _ => False
def fDivmod : F2
  | .int i, .int j, c, Φ => (0 < j ∧ j < 1073741824) ∧ Φ (.tup [.int (i / j), .int (i % j)]) c
  | _, _, _, _ => False
def bls : List D → Option (List Bool)
  | [] => some []
  | .bl b :: r => (bls r).map (b :: ·)
  | _ => none
def fAll : F1
  | .lst ds, c, Φ => ∃ bs, bls ds = some bs ∧ Φ (.bl (bs.all id)) c
  | _, _, _ => False
def fAny : F1
  | .lst ds, c, Φ => ∃ bs, bls ds = some bs ∧ Φ (.bl (bs.any id)) c
  | _, _, _ => False
theorem bls_map {K : PySem.W.Frag} {m : List Addr} {H : Hp} : ∀ (ds : List D) (xs : List V) (bs : List Bool), RL K m H ds xs → bls ds = some bs → xs = bs.map V.bl
  | [], _, _, h, e => by cases e; exact h
  | d :: ds, _, bs, ⟨x, r, e1, h1, h2⟩, e => by
    subst e1
    cases d with
    | bl b =>
      change (bls ds).map (b :: ·) = some bs at e
      cases e2 : bls ds with
      | none => rw [e2] at e; cases e
      | some cs => rw [e2] at e; cases e; cases (show x = V.bl b from h1); rw [bls_map ds r cs h2 e2]; rfl
    | _ => cases e
section
variable {X : Cx} {e e2 : Expr} {ta tb : TD} {pos pp : Pos}
theorem l1_len {K : PySem.W.Frag} : L1f K fLen (fun u H Q => ∃ x n, [u] = [x] ∧ LenV K x H n ∧ Q (.int n) H) := by
  intro x c Φ h H m u C r Q q
  cases x <;> first | exact h.elim | skip
  · cases (show u = _ from r); exact ⟨_, _, rfl, ⟨h.1, rfl⟩, q.pure C h.2 rfl⟩
  · obtain ⟨p, xs, rfl, h1, h2⟩ := r
    exact ⟨.ref p, xs.length, rfl, .inr ⟨xs, ex_t (ex_hid m H) h1, rfl⟩, by rw [rlen h2]; exact q.pure C h rfl⟩
  · obtain ⟨p, xs, rfl, h1, h2⟩ := r
    exact ⟨.ref p, xs.length, rfl, .inl ⟨xs, SqL.of h1, rfl⟩, by rw [rlen h2]; exact q.pure C h rfl⟩
  · obtain ⟨p, xs, rfl, h1, h2⟩ := r
    exact ⟨.ref p, xs.length, rfl, .inl ⟨xs, ex_l (ex_hid m H) h1, rfl⟩, by rw [rlen h2]; exact q.pure C h rfl⟩
theorem pd_B1 {name id : String} {f : F1} {r : List V → Hp → VK → Prop} (cr : CallR X (.builtin id) r) (l : L1f X.K f (fun u H Q => r [u] H Q)) (hv : bootBuiltins (Str.ofString name) = some (.builtin id)) (hn : Str.ofString name ≠ "__name__") (hd : (Str.ofString name == ("__debug__" : Str)) = false)
    (ha : PD X e ta) (hg : Gl X (Str.ofString name)) (hm : X.mg (Str.ofString name) = none) (he : starEach [e] X.env = (false, eval e X.env) :: starEach [] X.env) (hpl : (backTo pos (starEach [] X.env)).any (·.1) = false) :
    PD X (.Call (.Name (Str.ofString name) pp) [e] [] pos) (dCB (un1 f) (dCons ta dNil)) := PE.imp (pe_callB cr hg hm hv (pds_cons ha pds_nil he) hn hd he hpl) fun σ H Q h => lift_cb (lsf1 l) h
theorem pd_T1 {name id : String} {f : F1} {r : List V → Hp → VK → Prop} (cr : CallR X (.type id) r) (l : L1f X.K f (fun u H Q => r [u] H Q)) (hv : bootBuiltins (Str.ofString name) = some (.type id)) (hn : Str.ofString name ≠ "__name__") (hd : (Str.ofString name == ("__debug__" : Str)) = false)
    (ha : PD X e ta) (hg : Gl X (Str.ofString name)) (hm : X.mg (Str.ofString name) = none) (he : starEach [e] X.env = (false, eval e X.env) :: starEach [] X.env) (hpl : (backTo pos (starEach [] X.env)).any (·.1) = false) :
    PD X (.Call (.Name (Str.ofString name) pp) [e] [] pos) (dCB (un1 f) (dCons ta dNil)) := PE.imp (pe_callTy cr hg hm hv (pds_cons ha pds_nil he) hn hd he hpl) fun σ H Q h => lift_cb (lsf1 l) h
theorem pd_B2 {name id : String} {f : F2} {r : List V → Hp → VK → Prop} (cr : CallR X (.builtin id) r) (l : L2f X.K f (fun u v H Q => r [u, v] H Q)) (hv : bootBuiltins (Str.ofString name) = some (.builtin id)) (hn : Str.ofString name ≠ "__name__") (hd : (Str.ofString name == ("__debug__" : Str)) = false)
    (ha : PD X e ta) (hb : PD X e2 tb) (hg : Gl X (Str.ofString name)) (hm : X.mg (Str.ofString name) = none) (he : starEach [e, e2] X.env = (false, eval e X.env) :: starEach [e2] X.env) (he2 : starEach [e2] X.env = (false, eval e2 X.env) :: starEach [] X.env) (hpl : (backTo pos (starEach [e2] X.env)).any (·.1) = false) :
    PD X (.Call (.Name (Str.ofString name) pp) [e, e2] [] pos) (dCB (un2 f) (dCons ta (dCons tb dNil))) := PE.imp (pe_callB cr hg hm hv (pds_cons ha (pds_cons hb pds_nil he2) he) hn hd he hpl) fun σ H Q h => lift_cb (lsf2 l) h
theorem l1_int {K : PySem.W.Frag} : L1f K fInt (fun u H Q => ((∃ i, [u] = [.int i] ∧ Q (.int i) H) ∨ ∃ k, [u] = [.bl k] ∧ Q (.int (if k then 1 else 0)) H) ∨ (∃ a n, [u] = [.str a] ∧ PySem.intText? a = some n ∧ a.length ≤ 640 ∧ Q (.int n) H)) := by
  intro x c Φ h H m u C r Q q
  cases x <;> first | exact h.elim | skip
  · cases (show u = _ from r); exact .inl (.inl ⟨_, rfl, q.pure C h rfl⟩)
  · cases (show u = _ from r)
    obtain ⟨hz, n, e, h⟩ := h
    exact .inr ⟨_, n, rfl, e, hz, q.pure C h rfl⟩
theorem l1_str {K : PySem.W.Frag} : L1f K fStr (fun u H Q => (∃ i, [u] = [.int i] ∧ i.natAbs.log2 < 1920 ∧ Q (.str (toString i)) H) ∨ (∃ a, [u] = [.str a] ∧ Q (.str a) H)) := by
  intro x c Φ h H m u C r Q q
  cases x <;> first | exact h.elim | skip
  · cases (show u = _ from r); exact .inl ⟨_, rfl, h.1, q.pure C h.2 rfl⟩
  · cases (show u = _ from r); exact .inr ⟨_, rfl, q.pure C h rfl⟩
theorem l1_abs {K : PySem.W.Frag} : L1f K fAbs (fun u H Q => ∃ i, [u] = [.int i] ∧ Q (.int (if i < 0 then -i else i)) H) := by
  intro x c Φ h H m u C r Q q
  cases x <;> first | exact h.elim | skip
  cases (show u = _ from r); exact ⟨_, rfl, q.pure C h rfl⟩
theorem l2_max {K : PySem.W.Frag} : L2f K fMax (fun u v H Q => ∃ i j, [u, v] = [.int i, .int j] ∧ Q (.int (if j > i then j else i)) H) := by
  intro x y c Φ h H m u v C r1 r2 Q q
  cases x <;> cases y <;> first | exact h.elim | skip
  cases (show u = _ from r1); cases (show v = _ from r2); exact ⟨_, _, rfl, q.pure C h rfl⟩
theorem l2_min {K : PySem.W.Frag} : L2f K fMin (fun u v H Q => ∃ i j, [u, v] = [.int i, .int j] ∧ Q (.int (if j < i then j else i)) H) := by
  intro x y c Φ h H m u v C r1 r2 Q q
  cases x <;> cases y <;> first | exact h.elim | skip
  cases (show u = _ from r1); cases (show v = _ from r2); exact ⟨_, _, rfl, q.pure C h rfl⟩
theorem l2_divmod {X : Cx} : L2f X.K fDivmod (fun u v H Q => ∃ i j, [u, v] = [.int i, .int j] ∧ CDiv i j ∧ ∀ p, H p = none → Q (.ref p) (upd H p (.tup [.int (i / j), .int (i % j)]))) := by
  intro x y c Φ h H m u v C r1 r2 Q q
  cases x <;> cases y <;> first | exact h.elim | skip
  cases (show u = _ from r1); cases (show v = _ from r2)
  exact ⟨_, _, rfl, h.1, fun t ht => KQ.newT (X := X) q C h.2 ⟨_, _, rfl, rfl, _, _, rfl, rfl, rfl⟩ ht⟩
theorem l1_tuple {X : Cx} : L1f X.K fTuple (fun u H Q => ∃ p ys, [u] = [.ref p] ∧ ((SqL X.K H p ys ∧ ∀ l, H l = none → Q (.ref l) (upd H l (.tup ys))) ∨ (SqT X.K H p ys ∧ Q (.ref p) H))) := by
  intro x c Φ h H m u C r Q q
  cases x <;> first | exact h.elim | skip
  · obtain ⟨p, xs, rfl, h1, h2⟩ := r
    exact ⟨p, xs, rfl, .inr ⟨ex_t (ex_hid m H) h1, q.pure C h ⟨p, xs, rfl, h1, h2⟩⟩⟩
  · obtain ⟨p, xs, rfl, h1, h2⟩ := r
    exact ⟨p, xs, rfl, .inl ⟨SqL.of h1, fun t ht => KQ.newT (X := X) q C h h2 ht⟩⟩
  · obtain ⟨p, xs, rfl, h1, h2⟩ := r
    exact ⟨p, xs, rfl, .inl ⟨ex_l (ex_hid m H) h1, fun t ht => KQ.newT (X := X) q C h h2 ht⟩⟩
theorem l1_list {X : Cx} : L1f X.K fList (fun u H Q => ∃ p ys, [u] = [.ref p] ∧ (SqL X.K H p ys ∨ SqT X.K H p ys) ∧ ∀ l, H l = none → Q (.ref l) (upd H l (.lst ys))) := by
  intro x c Φ h H m u C r Q q
  cases x <;> first | exact h.elim | skip
  · obtain ⟨p, xs, rfl, h1, h2⟩ := r
    exact ⟨p, xs, rfl, .inr (ex_t (ex_hid m H) h1), fun t ht => KQ.newL (X := X) q C h h2 ht⟩
  · obtain ⟨p, xs, rfl, h1, h2⟩ := r
    exact ⟨p, xs, rfl, .inl (SqL.of h1), fun t ht => KQ.newL (X := X) q C h h2 ht⟩
  · obtain ⟨p, xs, rfl, h1, h2⟩ := r
    exact ⟨p, xs, rfl, .inl (ex_l (ex_hid m H) h1), fun t ht => KQ.newL (X := X) q C h h2 ht⟩
theorem l1_all {K : PySem.W.Frag} : L1f K fAll (fun u H Q => rAll K [u] H Q) := by
  intro x c Φ h H m u C r Q q
  cases x <;> first | exact h.elim | skip
  obtain ⟨p, xs, rfl, h1, h2⟩ := r
  obtain ⟨bs, e, h⟩ := h
  exact ⟨p, bs, rfl, SqL.of (by rw [h1, bls_map _ _ _ h2 e]), q.pure C h rfl⟩
theorem l1_any {K : PySem.W.Frag} : L1f K fAny (fun u H Q => rAny K [u] H Q) := by
  intro x c Φ h H m u C r Q q
  cases x <;> first | exact h.elim | skip
  obtain ⟨p, xs, rfl, h1, h2⟩ := r
  obtain ⟨bs, e, h⟩ := h
  exact ⟨p, bs, rfl, SqL.of (by rw [h1, bls_map _ _ _ h2 e]), q.pure C h rfl⟩
end
end Cw

namespace Cw
open PySem PySem.Spec PyProof.Rows L2
section
variable {X : Cx} {e e2 o : Expr} {ta tb : TD} {pos pp apos : Pos}
theorem pd_len (ha : PD X e ta) (hm : X.mg "len" = none) (hg : Gl X "len" := by rfl) (he : starEach [e] X.env = (false, eval e X.env) :: starEach [] X.env := by rfl) (hpl : (backTo pos (starEach [] X.env)).any (·.1) = false := by rfl) :
    PD X (.Call (.Name "len" pp) [e] [] pos) (dCB (un1 fLen) (dCons ta dNil)) := pd_B1 call_len l1_len boot_len (by decide) (by decide) ha hg hm he hpl
theorem pd_intc (ha : PD X e ta) (hm : X.mg "int" = none) (hg : Gl X "int" := by rfl) (he : starEach [e] X.env = (false, eval e X.env) :: starEach [] X.env := by rfl) (hpl : (backTo pos (starEach [] X.env)).any (·.1) = false := by rfl) :
    PD X (.Call (.Name "int" pp) [e] [] pos) (dCB (un1 fInt) (dCons ta dNil)) := pd_T1 (CallR.or call_int1 call_int_str) l1_int boot_int (by decide) (by decide) ha hg hm he hpl
theorem pd_strc (ha : PD X e ta) (hm : X.mg "str" = none) (hg : Gl X "str" := by rfl) (he : starEach [e] X.env = (false, eval e X.env) :: starEach [] X.env := by rfl) (hpl : (backTo pos (starEach [] X.env)).any (·.1) = false := by rfl) :
    PD X (.Call (.Name "str" pp) [e] [] pos) (dCB (un1 fStr) (dCons ta dNil)) := pd_T1 (CallR.or call_str_int SkE.call_str_str) l1_str boot_str (by decide) (by decide) ha hg hm he hpl
theorem pd_abs (ha : PD X e ta) (hm : X.mg "abs" = none) (hg : Gl X "abs" := by rfl) (he : starEach [e] X.env = (false, eval e X.env) :: starEach [] X.env := by rfl) (hpl : (backTo pos (starEach [] X.env)).any (·.1) = false := by rfl) :
    PD X (.Call (.Name "abs" pp) [e] [] pos) (dCB (un1 fAbs) (dCons ta dNil)) := pd_B1 call_abs l1_abs boot_abs (by decide) (by decide) ha hg hm he hpl
theorem pd_max (hc : X.calm = true) (ha : PD X e ta) (hb : PD X e2 tb) (hm : X.mg "max" = none) (hg : Gl X "max" := by rfl) (he : starEach [e, e2] X.env = (false, eval e X.env) :: starEach [e2] X.env := by rfl) (he2 : starEach [e2] X.env = (false, eval e2 X.env) :: starEach [] X.env := by rfl) (hpl : (backTo pos (starEach [e2] X.env)).any (·.1) = false := by rfl) :
    PD X (.Call (.Name "max" pp) [e, e2] [] pos) (dCB (un2 fMax) (dCons ta (dCons tb dNil))) := pd_B2 (call_max2 hc) l2_max boot_max (by decide) (by decide) ha hb hg hm he he2 hpl
theorem pd_min (hc : X.calm = true) (ha : PD X e ta) (hb : PD X e2 tb) (hm : X.mg "min" = none) (hg : Gl X "min" := by rfl) (he : starEach [e, e2] X.env = (false, eval e X.env) :: starEach [e2] X.env := by rfl) (he2 : starEach [e2] X.env = (false, eval e2 X.env) :: starEach [] X.env := by rfl) (hpl : (backTo pos (starEach [e2] X.env)).any (·.1) = false := by rfl) :
    PD X (.Call (.Name "min" pp) [e, e2] [] pos) (dCB (un2 fMin) (dCons ta (dCons tb dNil))) := pd_B2 (call_min2 hc) l2_min boot_min (by decide) (by decide) ha hb hg hm he he2 hpl
theorem pd_divmod (ha : PD X e ta) (hb : PD X e2 tb) (hm : X.mg "divmod" = none) (hg : Gl X "divmod" := by rfl) (he : starEach [e, e2] X.env = (false, eval e X.env) :: starEach [e2] X.env := by rfl) (he2 : starEach [e2] X.env = (false, eval e2 X.env) :: starEach [] X.env := by rfl) (hpl : (backTo pos (starEach [e2] X.env)).any (·.1) = false := by rfl) :
    PD X (.Call (.Name "divmod" pp) [e, e2] [] pos) (dCB (un2 fDivmod) (dCons ta (dCons tb dNil))) := pd_B2 call_divmod l2_divmod boot_divmod (by decide) (by decide) ha hb hg hm he he2 hpl
theorem pd_tuplec (ha : PD X e ta) (hm : X.mg "tuple" = none) (hg : Gl X "tuple" := by rfl) (he : starEach [e] X.env = (false, eval e X.env) :: starEach [] X.env := by rfl) (hpl : (backTo pos (starEach [] X.env)).any (·.1) = false := by rfl) :
    PD X (.Call (.Name "tuple" pp) [e] [] pos) (dCB (un1 fTuple) (dCons ta dNil)) := pd_T1 call_tuple_of l1_tuple boot_tuple (by decide) (by decide) ha hg hm he hpl
theorem pd_listc (ha : PD X e ta) (hm : X.mg "list" = none) (hg : Gl X "list" := by rfl) (he : starEach [e] X.env = (false, eval e X.env) :: starEach [] X.env := by rfl) (hpl : (backTo pos (starEach [] X.env)).any (·.1) = false := by rfl) :
    PD X (.Call (.Name "list" pp) [e] [] pos) (dCB (un1 fList) (dCons ta dNil)) := pd_T1 call_list_of l1_list boot_list (by decide) (by decide) ha hg hm he hpl
theorem pd_all (hc : X.calm = true) (ha : PD X e ta) (hm : X.mg "all" = none) (hg : Gl X "all" := by rfl) (he : starEach [e] X.env = (false, eval e X.env) :: starEach [] X.env := by rfl) (hpl : (backTo pos (starEach [] X.env)).any (·.1) = false := by rfl) :
    PD X (.Call (.Name "all" pp) [e] [] pos) (dCB (un1 fAll) (dCons ta dNil)) := pd_B1 (cr_all hc) l1_all boot_all (by decide) (by decide) ha hg hm he hpl

/-! ### methods of texts -/
def fSplit : F2
  | .str a, .str b, c, Φ => (b.length == 0) = false ∧ a.length + 2 ≤ sizeLine ∧ Φ (.lst ((Txt.split a b).map .str)) c
  | _, _, _, _ => False
def txts : List D → Option (List Str)
  | [] => some []
  | .str x :: r => (txts r).map (x :: ·)
  | _ => none
def fJoin : F2
  | .str a, .lst ds, c, Φ => ∃ ys, txts ds = some ys ∧ (ys.map (·.length)).sum + ys.length * a.length ≤ 16777216 ∧ Φ (.str (Txt.join a ys)) c
  | .str a, .tup ds, c, Φ => ∃ ys, txts ds = some ys ∧ (ys.map (·.length)).sum + ys.length * a.length ≤ 16777216 ∧ Φ (.str (Txt.join a ys)) c
  | _, _, _, _ => False
def fStarts : F2
  | .str a, .str b, c, Φ => Φ (.bl (Txt.startswith a b)) c
  | _, _, _, _ => False
theorem txts_map {K : PySem.W.Frag} {m : List Addr} {H : Hp} : ∀ (ds : List D) (xs : List V) (bs : List Str), RL K m H ds xs → txts ds = some bs → xs = bs.map V.str
  | [], _, _, h, e => by cases e; exact h
  | d :: ds, _, bs, ⟨x, r, e1, h1, h2⟩, e => by
    subst e1
    cases d with
    | str b =>
      change (txts ds).map (b :: ·) = some bs at e
      cases e2 : txts ds with
      | none => rw [e2] at e; cases e
      | some cs => rw [e2] at e; cases e; cases (show x = V.str b from h1); rw [txts_map ds r cs h2 e2]; rfl
    | _ => cases e
theorem rl_txts {K : PySem.W.Frag} {m : List Addr} {H : Hp} : ∀ (ys : List Str), RL K m H (ys.map D.str) (ys.map V.str)
  | [] => rfl
  | y :: ys => ⟨_, _, rfl, rfl, rl_txts ys⟩
theorem txts_of : ∀ (ys : List Str), txts (ys.map D.str) = some ys
  | [] => rfl
  | y :: ys => by show (txts (ys.map D.str)).map (y :: ·) = _; rw [txts_of ys]; rfl
def isS : D → Bool
  | .str _ => true
  | _ => false
/-- o.m(e), o a text -/
def dM1 (f : F2) (to te : TD) : TD := fun ρ c Φ => to ρ c fun x c1 => ∃ z, x = .str z ∧ te ρ c1 fun y c2 => f (.str z) (vw c2 y) c2 Φ
theorem lift_m1 {K : PySem.W.Frag} {f : F2} {r : V → List V → Hp → VK → Prop} {σ : L2.St} {H : Hp} {Q : VK} (l : L2f K f (fun u v H Q => r u [v] H Q)) (h : lift K (dM1 f ta tb) σ H Q) : tM1 r (lift K ta) (lift K tb) σ H Q := by
  obtain ⟨m, ρ, c, Φ, S, h, q⟩ := h
  refine ⟨m, ρ, c, _, S, h, fun x c1 u H1 m1 hx C1 R1 L1 => ?_⟩
  obtain ⟨z, rfl, hx⟩ := hx
  refine ⟨⟨z, R1⟩, m1, ρ, c1, _, S.step L1 C1, hx, fun y c2 v H2 m2 hy C2 R2 L2 => ?_⟩
  exact l _ _ c2 Φ hy H2 m2 u v C2 R1 (W.vw C2 R2) Q fun d c' w H' m' hd C' R' L' => q d c' w H' m' hd C' R' (L1.trans (L2.trans L'))
theorem pd_split (ho : PD X o ta) (he : PD X e tb) (hs : starEach [e] X.env = [(false, eval e X.env)] := by rfl) (hbase : attributeBase o "split" X.env (eval o X.env) = eval o X.env := by rfl) (hline : (apos.endLine == pos.line) = true := by rfl) :
    PD X (.Call (.Attribute o "split" apos) [e] [] pos) (dM1 fSplit ta tb) := PE.imp (pe_split ho he hs hbase hline) fun σ H Q h => lift_m1 (by
      intro x y c Φ h H m u v C r1 r2 Q q
      cases x <;> cases y <;> first | exact h.elim | skip
      cases (show u = _ from r1); cases (show v = _ from r2)
      exact ⟨_, _, rfl, rfl, h.1, h.2.1, fun p hp => KQ.newL (X := X) q C h.2.2 (rl_txts _) hp⟩) h
theorem pd_join (ho : PD X o ta) (he : PD X e tb) (hs : starEach [e] X.env = [(false, eval e X.env)] := by rfl) (hbase : attributeBase o "join" X.env (eval o X.env) = eval o X.env := by rfl) (hline : (apos.endLine == pos.line) = true := by rfl) :
    PD X (.Call (.Attribute o "join" apos) [e] [] pos) (dM1 fJoin ta tb) := PE.imp (pe_join ho he hs hbase hline) fun σ H Q h => lift_m1 (by
      intro x y c Φ h H m u v C r1 r2 Q q
      cases x <;> cases y <;> first | exact h.elim | skip
      · cases (show u = _ from r1)
        obtain ⟨p, xs, rfl, h1, h2⟩ := r2
        obtain ⟨ys, e1, e2, h⟩ := h
        exact ⟨_, p, ys, rfl, rfl, .inr (by rw [← txts_map _ _ _ h2 e1]; exact ex_t (ex_hid m H) h1), e2, q.pure C h rfl⟩
      · cases (show u = _ from r1)
        obtain ⟨p, xs, rfl, h1, h2⟩ := r2
        obtain ⟨ys, e1, e2, h⟩ := h
        exact ⟨_, p, ys, rfl, rfl, .inl (by rw [← txts_map _ _ _ h2 e1]; exact SqL.of h1), e2, q.pure C h rfl⟩) h
theorem pd_starts (ho : PD X o ta) (he : PD X e tb) (hs : starEach [e] X.env = [(false, eval e X.env)] := by rfl) (hbase : attributeBase o "startswith" X.env (eval o X.env) = eval o X.env := by rfl) (hline : (apos.endLine == pos.line) = true := by rfl) :
    PD X (.Call (.Attribute o "startswith" apos) [e] [] pos) (dM1 fStarts ta tb) := PE.imp (pe_m1 F.slot_str_startswith F.type_str_startswith mt_startswith ho he hs hbase hline) fun σ H Q h => lift_m1 (by
      intro x y c Φ h H m u v C r1 r2 Q q
      cases x <;> cases y <;> first | exact h.elim | skip
      cases (show u = _ from r1); cases (show v = _ from r2)
      exact ⟨_, _, rfl, rfl, q.pure C h rfl⟩) h

/-! ### xs.append(e), xs a cell -/
def dAppend (to te : TD) : TD := fun ρ c Φ => to ρ c fun x c1 => ∃ k, x = .cell k ∧ (∃ ds, c1[k]? = some (.lst ds)) ∧ te ρ c1 fun y c2 => ∃ ds, c2[k]? = some (.lst ds) ∧ ds.length < sizeLine ∧ Φ .non (c2.set k (.lst (ds ++ [y])))
theorem cell_put {K : PySem.W.Frag} {m : Ad} {H : Hp} {c : List Cell} {k : Nat} {a : Addr} {o : HO} {ce : Cell} (C : CR K H m c) (hk : m.ix[k]? = some a) (hc : CellAt K m (upd H a o) a ce) : CR K (upd H a o) m (c.set k ce) ∧ Le m H m (upd H a o) := by
  have ha : a ∈ m.ix := List.mem_of_getElem? hk
  have l : Le m H m (upd H a o) := ⟨fun _ _ e => e, by rw [hid_mut ha]; exact Ex.refl _, rfl, fun b hb => upd_ne fun e => C.dj a ha (by rw [← e]; exact hb), fun _ h => .inl h, fun _ h => upd_none h⟩
  refine ⟨⟨by rw [List.length_set]; exact C.len, C.nd, fun j ce' e => ?_, fun b hb => ?_, C.dj⟩, l⟩
  · by_cases hj : k = j
    · subst hj
      have hl : k < c.length := by rw [← C.len]; exact (List.getElem?_eq_some_iff.mp hk).1
      rw [List.getElem?_set_self hl] at e
      cases e
      exact ⟨a, hk, hc⟩
    · rw [List.getElem?_set_ne hj] at e
      obtain ⟨b, h1, h2⟩ := C.at_ j ce' e
      have ne : b ≠ a := fun z => by
        subst z
        have h3 := (List.getElem?_eq_some_iff.mp hk)
        have h4 := (List.getElem?_eq_some_iff.mp h1)
        exact hj ((List.getElem_inj C.nd).mp (h3.2.trans h4.2.symm))
      exact ⟨b, h1, h2.step l fun o' e' => by rw [upd_ne ne]; exact e'⟩
  · obtain ⟨o', h3, h4⟩ := C.hs b hb
    exact ⟨o', by rw [upd_ne fun e => C.dj a ha (by rw [← e]; exact hb)]; exact h3, h4⟩
theorem pd_append (ho : PD X o ta) (he : PD X e tb)
    (hbase : attributeBase o "append" X.env (eval o X.env) = eval o X.env := by rfl)
    (hfew : ((backTo pos (starEach [e] X.env)).all (fun x => !x.1) && (backToKw pos (keywordEach [] X.env)).all (fun x => x.1.isSome) && decide ([e].length + ([] : List Keyword).length + (if ([] : List Keyword).isEmpty then 0 else 1) < 30)) = true := by rfl)
    (hline : (apos.endLine == pos.line) = true := by rfl) (hs : starEach [e] X.env = (false, eval e X.env) :: starEach [] X.env := by rfl) (hplain : (backTo pos (starEach [] X.env)).any (·.1) = false := by rfl) :
    PD X (.Call (.Attribute o "append" apos) [e] [] pos) (dAppend ta tb) :=
  PE.imp (pe_bm PySem.F.plainAttrs_list PySem.F.slot_list_append PySem.F.type_list_append mt_append ho (pds_cons he pds_nil hs) hbase hfew hline hs hplain) fun σ H Q ⟨m, ρ, c, Φ, S, h, q⟩ =>
  ⟨m, ρ, c, _, S, h, fun x c1 u H1 m1 hx C1 R1 L1 => by
    obtain ⟨k, rfl, ⟨ds, hk⟩, hx⟩ := hx
    obtain ⟨a, ha, rfl⟩ := R1
    obtain ⟨b, hb, xs, h1, h2⟩ := C1.at_ k _ hk
    rw [ha] at hb; cases hb
    refine ⟨.inl ⟨rfl, xs, SqL.of h1⟩, m1, ρ, c1, _, S.step L1 C1, (show dCons tb dNil ρ c1 (fun ys c2 => ∃ y, ys = [y] ∧ ∃ ds, c2[k]? = some (.lst ds) ∧ ds.length < sizeLine ∧ Φ .non (c2.set k (.lst (ds ++ [y])))) from ?_), fun ys c2 vs H2 m2 hy C2 R2 L2 => ?_⟩
    · show tb ρ c1 _
      have e : (fun x c1 => dNil ρ c1 fun xs c2 => ∃ y, x :: xs = [y] ∧ ∃ ds, c2[k]? = some (.lst ds) ∧ ds.length < sizeLine ∧ Φ .non (c2.set k (.lst (ds ++ [y])))) = fun y c2 => ∃ ds, c2[k]? = some (.lst ds) ∧ ds.length < sizeLine ∧ Φ .non (c2.set k (.lst (ds ++ [y]))) := by
        funext y c2
        apply propext
        constructor
        · rintro ⟨z, hz, r⟩; cases hz; exact r
        · intro r; exact ⟨y, rfl, r⟩
      rw [e]; exact hx
    · obtain ⟨y, rfl, es, hk2, hl, hq⟩ := hy
      obtain ⟨v, r, rfl, rv, rr⟩ := R2
      cases (show r = [] from rr)
      obtain ⟨b, hb, xs2, h3, h4⟩ := C2.at_ k _ hk2
      rw [L2.pre k a ha] at hb; cases hb
      refine ⟨a, xs2, v, rfl, rfl, h3, by rw [rlen h4]; exact hl, ?_⟩
      have hm : a ∈ m2.ix := List.mem_of_getElem? (L2.pre k a ha)
      have z := cell_put (o := .lst (xs2 ++ [v])) (ce := .lst (es ++ [y])) C2 (L2.pre k a ha) ⟨_, upd_same, by show RL _ _ (hid m2 _) _ _; rw [hid_mut hm]; exact RL.append h4 ⟨v, [], rfl, rv, rfl⟩⟩
      exact q .non _ .non _ m2 hq z.1 rfl (L1.trans (L2.trans z.2))⟩
end
end Cw

namespace Cw
open PySem PySem.Spec PyProof.Rows L2

/-! ### statements -/
structure DEnds where
  nx : Env → List Cell → Prop
  rt : D → List Cell → Prop
  bk : Env → List Cell → Prop := fun _ _ => False
  ct : Env → List Cell → Prop := fun _ _ => False
abbrev TSD := DEnds → Env → List Cell → Prop
abbrev KN (K : PySem.W.Frag) (H : Hp) (m : Ad) (Φ : Env → List Cell → Prop) (Q : L2.St → Hp → Prop) : Prop := ∀ σ' H' m' ρ' c', Φ ρ' c' → SR K σ' H' m' ρ' c' → Le m H m' H' → Q σ' H'
def liftS (K : PySem.W.Frag) (t : TSD) : TS := fun Dn σ H => ∃ (m : Ad) (ρ : Env) (c : List Cell) (De : DEnds), SR K σ H m ρ c ∧ t De ρ c ∧
  KN K H m De.nx Dn.nx ∧ KQ K H m De.rt Dn.rt ∧ KN K H m De.bk Dn.bk ∧ KN K H m De.ct Dn.ct
abbrev PSD (X : Cx) (s : Stmt) (t : TSD) : Prop := PS X s (liftS X.K t)
abbrev PSDs (X : Cx) (s : List Stmt) (t : TSD) : Prop := PSs X s (liftS X.K t)
theorem KN.le {K : PySem.W.Frag} {H H1 : Hp} {m m1 : Ad} {Φ : Env → List Cell → Prop} {Q : L2.St → Hp → Prop} (k : KN K H m Φ Q) (l : Le m H m1 H1) : KN K H1 m1 Φ Q := fun σ' H' m' ρ' c' h s l' => k σ' H' m' ρ' c' h s (l.trans l')
theorem KQ.le {K : PySem.W.Frag} {H H1 : Hp} {m m1 : Ad} {Φ : D → List Cell → Prop} {Q : VK} (k : KQ K H m Φ Q) (l : Le m H m1 H1) : KQ K H1 m1 Φ Q := fun d c' w H' m' h C R l' => k d c' w H' m' h C R (l.trans l')
def dNext : TSD := fun D ρ c => D.nx ρ c
def dSeq (t u : TSD) : TSD := fun D ρ c => t { D with nx := u D } ρ c
section
variable {X : Cx} {st : Stmt} {rest : List Stmt} {t u : TSD} {e e2 o : Expr} {ta tb : TD} {pos pos' pp apos : Pos} {tA : TDt}
theorem psd_nil : PSDs X [] dNext := PSs.imp pss_nil fun Dn σ H ⟨m, ρ, c, De, S, h, n, r, b, k⟩ => n σ H m ρ c h S (Le.refl _ _)
theorem psd_cons (h1 : PSD X st t) (h2 : PSDs X rest u) : PSDs X (st :: rest) (dSeq t u) := PSs.imp (pss_cons h1 h2) fun Dn σ H ⟨m, ρ, c, De, S, h, n, r, b, k⟩ =>
  ⟨m, ρ, c, { De with nx := u De }, S, h, fun σ' H' m' ρ' c' h' S' l => ⟨m', ρ', c', De, S', h', n.le l, r.le l, b.le l, k.le l⟩, r, b, k⟩
theorem psd_one (h1 : PSD X st t) : PSDs X [st] t := pss_one h1
def dRet (ta : TD) : TSD := fun D ρ c => ta ρ c D.rt
theorem psd_ret (h : PD X e ta) : PSD X (.Return (some e) pos) (dRet ta) := PS.imp (ps_ret h) fun Dn σ H ⟨m, ρ, c, De, S, h, n, r, b, k⟩ => ⟨m, ρ, c, De.rt, S, h, r⟩
def dDrop (ta : TD) : TSD := fun D ρ c => ta ρ c fun _ c1 => D.nx ρ c1
theorem psd_expr (h : PD X e ta) (hs : swapsWith e none pos.line X.env = pure false := by rfl) : PSD X (.Expr e pos) (dDrop ta) := PS.imp (ps_expr h hs) fun Dn σ H ⟨m, ρ, c, De, S, h, n, r, b, k⟩ =>
  ⟨m, ρ, c, _, S, h, fun d c' w H' m' hd C R L => n σ H' m' ρ c' hd (S.step L C) L⟩
def dIfS (tc : TDt) (t u : TSD) : TSD := fun D ρ c => tc ρ c fun b c1 => match b with | true => t D ρ c1 | false => u D ρ c1
theorem psd_if {cE : Expr} {a b : List Stmt} (hc : PDt X cE tA) (ha : PSDs X a t) (hb : PSDs X b u) : PSD X (.If cE a b pos) (dIfS tA t u) := PS.imp (ps_if hc ha hb) fun Dn σ H ⟨m, ρ, c, De, S, h, n, r, b, k⟩ =>
  ⟨m, ρ, c, _, S, h, fun bo c1 H1 m1 hx C1 L1 => by
    cases bo with
    | true => rw [if_pos rfl]; exact ⟨m1, ρ, c1, De, S.step L1 C1, hx, n.le L1, r.le L1, b.le L1, k.le L1⟩
    | false => rw [if_neg (by decide)]; exact ⟨m1, ρ, c1, De, S.step L1 C1, hx, n.le L1, r.le L1, b.le L1, k.le L1⟩⟩
def dNever : TSD := fun _ _ _ => False
theorem psd_never : PSD X st dNever := PS.imp ps_never fun Dn σ H ⟨m, ρ, c, De, S, h, _⟩ => h
theorem psds_never : PSDs X rest dNever := PSs.imp pss_never fun Dn σ H ⟨m, ρ, c, De, S, h, _⟩ => h
theorem psd_pass : PSD X (.Pass pos) dNext := PS.imp ps_pass fun Dn σ H ⟨m, ρ, c, De, S, h, n, _⟩ => n σ H m ρ c h S (Le.refl _ _)
theorem psd_continue : PSD X (.Continue pos) (fun D ρ c => D.ct ρ c) := PS.imp ps_continue fun Dn σ H ⟨m, ρ, c, De, S, h, n, r, b, k⟩ => k σ H m ρ c h S (Le.refl _ _)
theorem psd_break : PSD X (.Break pos) (fun D ρ c => D.bk ρ c) := PS.imp ps_break fun Dn σ H ⟨m, ρ, c, De, S, h, n, r, b, k⟩ => b σ H m ρ c h S (Le.refl _ _)

/-! ### targets -/
theorem SR.set {K : PySem.W.Frag} {σ : L2.St} {H : Hp} {m : Ad} {ρ : Env} {c : List Cell} {i : Nat} {d : D} {v : V} (S : SR K σ H m ρ c) (r : RR K H m d v) : SR K (σ.set i (some v)) H m (ρ.set i (some d)) c := by
  refine ⟨S.cr, by rw [List.length_set, List.length_set]; exact S.len, fun j d' e => ?_⟩
  by_cases hj : i = j
  · subst hj
    have hl := (List.getElem?_eq_some_iff.mp e).1
    rw [List.length_set] at hl
    rw [List.getElem?_set_self hl] at e
    cases e
    exact ⟨v, by rw [List.getElem?_set_self (by rw [← S.len]; exact hl)], r⟩
  · rw [List.getElem?_set_ne hj] at e
    obtain ⟨w, h1, h2⟩ := S.sl j d' e
    exact ⟨w, by rw [List.getElem?_set_ne hj]; exact h1, h2⟩
def dSet (i : Nat) (ta : TD) : TSD := fun D ρ c => ta ρ c fun d c1 => D.nx (ρ.set i (some d)) c1
theorem psd_set {i : Nat} {x : Str} (hN : X.N.Nodup) (h : PD X e ta) (hi : X.N[i]? = some x := by rfl) (hx : Loc X.env.scope x := by first | exact Or.inl rfl | exact Or.inr rfl) (hs : swapsWith e (some (.Name x pos')) pos.line X.env = pure false := by rfl)
    (hf : X.fn x = true ∨ X.env.scope.names.lookup x = some .local := by first | exact .inl rfl | exact .inr rfl) : PSD X (.Assign [.Name x pos'] e pos) (dSet i ta) :=
  PS.imp (ps_set hN hi hx h hs hf) fun Dn σ H ⟨m, ρ, c, De, S, h, n, r, b, k⟩ => ⟨m, ρ, c, _, S, h, fun d c' w H' m' hd C R L => n _ H' m' _ c' hd ((S.step L C).set R) L⟩
abbrev TGD := D → Env → List Cell → (Env → List Cell → Prop) → Prop
abbrev TGDs := List D → Env → List Cell → (Env → List Cell → Prop) → Prop
def liftG (K : PySem.W.Frag) (t : TGD) : TG := fun v σ H Q => ∃ (m : Ad) (ρ : Env) (c : List Cell) (d : D) (Φ : Env → List Cell → Prop), SR K σ H m ρ c ∧ RR K H m d v ∧ t d ρ c Φ ∧ KN K H m Φ Q
def liftGs (K : PySem.W.Frag) (t : TGDs) : TGs := fun vs σ H Q => ∃ (m : Ad) (ρ : Env) (c : List Cell) (ds : List D) (Φ : Env → List Cell → Prop), SR K σ H m ρ c ∧ RRL K H m ds vs ∧ t ds ρ c Φ ∧ KN K H m Φ Q
abbrev PGD (X : Cx) (e : Expr) (t : TGD) : Prop := PG X e (liftG X.K t)
abbrev PGDs (X : Cx) (es : List Expr) (t : TGDs) : Prop := PGs X es (liftGs X.K t)
theorem PG.imp {t t' : TG} (h : PG X e t) (i : ∀ v σ H Q, t' v σ H Q → t v σ H Q) : PG X e t' := ⟨fun pins s σ H v u Q I r w => h.run pins s σ H v u Q I r (i v σ H Q w)⟩
theorem PGs.imp {es : List Expr} {t t' : TGs} (h : PGs X es t) (i : ∀ v σ H Q, t' v σ H Q → t v σ H Q) : PGs X es t' := ⟨fun pins s σ H v u Q I r w => h.run pins s σ H v u Q I r (i v σ H Q w)⟩
def gNm (i : Nat) : TGD := fun d ρ c Φ => Φ (ρ.set i (some d)) c
theorem pgd_name {i : Nat} {x : Str} (hN : X.N.Nodup) (hi : X.N[i]? = some x := by rfl) (hx : Loc X.env.scope x := by first | exact Or.inl rfl | exact Or.inr rfl) (hf : X.fn x = true ∨ X.env.scope.names.lookup x = some .local := by first | exact .inl rfl | exact .inr rfl) : PGD X (.Name x pos) (gNm i) :=
  PG.imp (pg_name hN hi hx hf) fun v σ H Q ⟨m, ρ, c, d, Φ, S, r, h, n⟩ => n _ H m _ c h (S.set r) (Le.refl _ _)
def gNl : TGDs := fun ds ρ c Φ => ds = [] ∧ Φ ρ c
def gCn (t : TGD) (u : TGDs) : TGDs := fun ds ρ c Φ => match ds with
  | d :: r => t d ρ c fun ρ1 c1 => u r ρ1 c1 Φ
  | [] => False
theorem pgds_nil : PGDs X [] gNl := PGs.imp pgs_nil fun vs σ H Q ⟨m, ρ, c, ds, Φ, S, r, h, n⟩ => by
  obtain ⟨rfl, h⟩ := h
  exact ⟨r, n σ H m ρ c h S (Le.refl _ _)⟩
theorem pgds_cons {es : List Expr} {t : TGD} {u : TGDs} (h1 : PGD X e t) (h2 : PGDs X es u) (hs : (assignEach (e :: es) X.env).map (·.2) = assign e X.env :: (assignEach es X.env).map (·.2) := by rfl) : PGDs X (e :: es) (gCn t u) :=
  PGs.imp (pgs_cons h1 h2 hs) fun vs σ H Q ⟨m, ρ, c, ds, Φ, S, r, h, n⟩ => by
    cases ds with
    | nil => exact h.elim
    | cons d ds =>
      obtain ⟨v, vr, rfl, r1, r2⟩ := r
      exact ⟨v, vr, rfl, m, ρ, c, d, _, S, r1, h, fun σ' H' m' ρ' c' h' S' l => ⟨m', ρ', c', ds, Φ, S', l.rl r2, h', n.le l⟩⟩
def gTp (k : Nat) (t : TGDs) : TGD := fun d ρ c Φ => match d with
  | .tup ds => ds.length = k ∧ t ds ρ c Φ
  | _ => False
theorem pgd_tup {es : List Expr} {k : Nat} {t : TGDs} {n : Nat} (hc : X.calm = true) (h : PGDs X es t) (hn : (assignEach es X.env).length = n := by rfl) (hst : (assignEach es X.env).findIdx? (·.1) = none := by rfl) : PGD X (.Tuple es k pos) (gTp n t) :=
  PG.imp (pg_tup hc h hn hst) fun v σ H Q ⟨m, ρ, c, d, Φ, S, r, h, nn⟩ => by
    cases d <;> first | exact h.elim | skip
    obtain ⟨a, xs, rfl, h1, h2⟩ := r
    exact ⟨a, xs, rfl, ex_t (ex_hid m H) h1, by rw [rlen h2]; exact h.1, m, ρ, c, _, Φ, S, h2, h.2, nn⟩
/-- xs[i] = .., xs a cell -/
def gSb (to ti : TD) : TGD := fun d ρ c Φ => to ρ c fun x c1 => ∃ k, x = .cell k ∧ ti ρ c1 fun y c2 => ∃ i ds j, y = .int i ∧ c2[k]? = some (.lst ds) ∧ ixN ds.length i = some j ∧ Φ ρ (c2.set k (.lst (ds.set j d)))
theorem pgd_sub {i : Expr} (ho : PD X o ta) (hi : PD X i tb)
    (ha : ∀ v, assign (.Subscript o i pos) X.env v = (do
      let ov ← holding [v] (eval o X.env)
      let iv ← holding [v, ov] (eval i X.env)
      standAt pos
      holding [v, ov, iv] (setItem ov iv v)
      release [v, ov, iv] []) := by intro _; rfl) : PGD X (.Subscript o i pos) (gSb ta tb) :=
  PG.imp (pg_sub ho hi set_list ha) fun v σ H Q ⟨m, ρ, c, d, Φ, S, r, h, n⟩ =>
  ⟨m, ρ, c, _, S, h, fun x c1 u H1 m1 hx C1 R1 L1 => by
    obtain ⟨k, rfl, hx⟩ := hx
    obtain ⟨a, ha, rfl⟩ := R1
    refine ⟨m1, ρ, c1, _, S.step L1 C1, hx, fun y c2 w H2 m2 hy C2 R2 L2 => ?_⟩
    obtain ⟨i', ds, j, rfl, hk, hj, hq⟩ := hy
    obtain ⟨b, hb, xs, h1, h2⟩ := C2.at_ k _ hk
    rw [L2.pre k a ha] at hb; cases hb
    refine ⟨a, xs, i', j, rfl, R2, h1, by rw [rlen h2]; exact hj, ?_⟩
    have hm : a ∈ m2.ix := List.mem_of_getElem? (L2.pre k a ha)
    have z := cell_put (o := .lst (xs.set j v)) (ce := .lst (ds.set j d)) C2 (L2.pre k a ha) ⟨_, upd_same, by show RL _ _ (hid m2 _) _ _; rw [hid_mut hm]; exact RL.set ((L1.trans L2).r r) j h2⟩
    exact n σ _ m2 ρ _ hq ((S.step (L1.trans L2) C2).step z.2 z.1) ((L1.trans L2).trans z.2)⟩
def dAsg (te : TD) (g : TGD) : TSD := fun D ρ c => te ρ c fun d c1 => g d ρ c1 D.nx
theorem psd_asg {tg : Expr} {g : TGD} (he : PD X e ta) (hg : PGD X tg g) (hs : swapsWithSole [tg] e pos.line X.env = pure false := by rfl) (hw : swappedStores [tg] e X.env = pure none := by rfl) (h1 : (assignEach [tg] X.env).map (·.2) = [assign tg X.env] := by rfl) :
    PSD X (.Assign [tg] e pos) (dAsg ta g) := PS.imp (ps_asg he hg hs hw h1) fun Dn σ H ⟨m, ρ, c, De, S, h, n, r, b, k⟩ =>
  ⟨m, ρ, c, _, S, h, fun d c' w H' m' hd C R L => ⟨m', ρ, c', d, _, S.step L C, R, hd, n.le L⟩⟩
/-- a, b = x, y -/
def dPar (i j : Nat) (ta tb : TD) : TSD := fun D ρ c => ta ρ c fun x c1 => tb ρ c1 fun y c2 => D.nx ((ρ.set i (some x)).set j (some y)) c2
theorem psd_par {i j : Nat} {x y : Str} {a b : Expr} {px py pt : Pos} {kt k2 pt2} (hc : X.calm = true) (hN : X.N.Nodup) (ha : PD X a ta) (hb : PD X b tb) (hi : X.N[i]? = some x := by rfl) (hj : X.N[j]? = some y := by rfl) (hij : i ≠ j := by decide)
    (hx : X.env.scope.names.lookup x = some .local := by rfl) (hy : X.env.scope.names.lookup y = some .local := by rfl)
    (hs2 : starEach (a :: [b]) X.env = (false, eval a X.env) :: starEach [b] X.env := by rfl) (hs1 : starEach (b :: []) X.env = (false, eval b X.env) :: starEach [] X.env := by rfl)
    (hw : swappedStores [.Tuple [.Name x px, .Name y py] kt pt] (.Tuple [a, b] k2 pt2) X.env = pure (some [x, y]) := by rfl)
    (hs : swapsWithSole [.Tuple [.Name x px, .Name y py] kt pt] (.Tuple [a, b] k2 pt2) pos.line X.env = pure false := by rfl) :
    PSD X (.Assign [.Tuple [.Name x px, .Name y py] kt pt] (.Tuple [a, b] k2 pt2) pos) (dPar i j ta tb) :=
  PS.imp (ps_par hc hN hi hj hij hx hy (pds_cons ha (pds_cons hb pds_nil hs1) hs2) hw hs) fun Dn σ H ⟨m, ρ, c, De, S, h, n, r, b, k⟩ =>
  ⟨m, ρ, c, (fun ds c2 => ∃ x y, ds = [x, y] ∧ De.nx ((ρ.set i (some x)).set j (some y)) c2), S, (show ta ρ c fun x c1 => tb ρ c1 fun y c2 => ∃ x' y', [x, y] = [x', y'] ∧ De.nx ((ρ.set i (some x')).set j (some y')) c2 by
    have e : (fun x c1 => tb ρ c1 fun y c2 => ∃ x' y', [x, y] = [x', y'] ∧ De.nx ((ρ.set i (some x')).set j (some y')) c2) = fun x c1 => tb ρ c1 fun y c2 => De.nx ((ρ.set i (some x)).set j (some y)) c2 := by
      funext x c1
      congr 1
      funext y c2
      apply propext
      constructor
      · rintro ⟨x', y', e, h⟩; cases e; exact h
      · intro h; exact ⟨x, y, rfl, h⟩
    rw [e]; exact h), fun ds c' vs H' m' hd C R L => by
      obtain ⟨x, y, rfl, hd⟩ := hd
      obtain ⟨v, r', rfl, rv, w, r'', rfl, rw', rr⟩ := R
      cases (show r'' = [] from rr)
      exact ⟨v, w, rfl, n _ H' m' _ c' hd (((S.step L C).set rv).set rw') L⟩⟩
end
end Cw

namespace Cw
open PySem PySem.Spec PyProof.Rows L2

/-! ### what is walked -/
structure Walks (K : PySem.W.Frag) (J : It) (m : Ad) (H : Hp) (ds : List D) : Prop where
  go : ∀ (i : Nat) m' H' c', Le m H m' H' → CR K H' m' c' → i < ds.length → J.go i H'
  stop : ∀ (i : Nat) m' H' c', Le m H m' H' → CR K H' m' c' → ds.length ≤ i → J.stop i H'
  yld : ∀ (i : Nat) m' H' c' x H2, Le m H m' H' → CR K H' m' c' → i < ds.length → J.yld i H' x H2 → ∃ d, ds[i]? = some d ∧ CR K H2 m' c' ∧ Le m' H' m' H2 ∧ RR K H2 m' d x
def liftI (K : PySem.W.Frag) (t : TDs) : TI := fun σ H R => ∃ (m : Ad) (ρ : Env) (c : List Cell) (Φ : List D → List Cell → Prop), SR K σ H m ρ c ∧ t ρ c Φ ∧
  ∀ ds c' J H' m', Φ ds c' → CR K H' m' c' → Walks K J m' H' ds → Le m H m' H' → R J H'
abbrev PID (X : Cx) (tg iter : Expr) (t : TDs) : Prop := PI X tg iter (liftI X.K t)
theorem PI.imp {X : Cx} {tg iter : Expr} {t t' : TI} (h : PI X tg iter t) (i : ∀ σ H R, t' σ H R → t σ H R) : PI X tg iter t' := ⟨fun pins s σ H R I w => h.run pins s σ H R I (i σ H R w)⟩
theorem PI.or {X : Cx} {tg iter : Expr} {t t' : TI} (h : PI X tg iter t) (h' : PI X tg iter t') : PI X tg iter (fun σ H R => t σ H R ∨ t' σ H R) := ⟨fun pins s σ H R I w => w.elim (h.run pins s σ H R I) (h'.run pins s σ H R I)⟩
theorem RL.at {K : PySem.W.Frag} {m : List Addr} {H : Hp} {ds : List D} {xs : List V} {i : Nat} (h : RL K m H ds xs) (hi : i < ds.length) : ∃ d x, ds[i]? = some d ∧ xs[i]? = some x ∧ R K m H d x := by
  obtain ⟨x, h1, h2⟩ := RL.get (i := i) (d := ds[i]) h (List.getElem?_eq_getElem hi)
  exact ⟨_, x, List.getElem?_eq_getElem hi, h1, h2⟩
theorem sq_inj {K : PySem.W.Frag} {H : Hp} {a : Addr} {xs ys : List V} : True := trivial
/-- the items of a list, of a tuple -/
theorem walks_list {K : PySem.W.Frag} {m : Ad} {H : Hp} {a : Addr} {ds : List D} {xs : List V} (h : SqL K (hid m H) a xs) (r : RRL K H m ds xs) : Walks K (Itl K a) m H ds where
  go := fun i m' H' c' l C hi => by
    obtain ⟨d, x, _, h2, _⟩ := RL.at r hi
    exact ⟨xs, x, ex_l (l.ex.trans (ex_hid m' H')) h, h2⟩
  stop := fun i m' H' c' l C hi => ⟨xs, ex_l (l.ex.trans (ex_hid m' H')) h, by rw [rlen r]; exact hi⟩
  yld := fun i m' H' c' x H2 l C hi ⟨e, y⟩ => by
    subst e
    obtain ⟨d, z, h1, h2, h3⟩ := RL.at r hi
    have := y xs (ex_l (l.ex.trans (ex_hid m' _)) h)
    rw [h2] at this; cases this
    exact ⟨d, h1, C, Le.refl _ _, l.r h3⟩
theorem walks_tup {K : PySem.W.Frag} {m : Ad} {H : Hp} {a : Addr} {ds : List D} {xs : List V} (h : SqT K (hid m H) a xs) (r : RRL K H m ds xs) : Walks K (Itt K a) m H ds where
  go := fun i m' H' c' l C hi => by
    obtain ⟨d, x, _, h2, _⟩ := RL.at r hi
    exact ⟨xs, x, ex_t (l.ex.trans (ex_hid m' H')) h, h2⟩
  stop := fun i m' H' c' l C hi => ⟨xs, ex_t (l.ex.trans (ex_hid m' H')) h, by rw [rlen r]; exact hi⟩
  yld := fun i m' H' c' x H2 l C hi ⟨e, y⟩ => by
    subst e
    obtain ⟨d, z, h1, h2, h3⟩ := RL.at r hi
    have := y xs (ex_t (l.ex.trans (ex_hid m' _)) h)
    rw [h2] at this; cases this
    exact ⟨d, h1, C, Le.refl _ _, l.r h3⟩
def chars (z : Str) : List D := z.cps.toList.map fun k => .str ⟨#[k]⟩
theorem walks_str {K : PySem.W.Frag} {m : Ad} {H : Hp} {z : Str} : Walks K (Its z) m H (chars z) where
  go := fun i m' H' c' l C hi => by
    show i < z.cps.size
    simpa [chars] using hi
  stop := fun i m' H' c' l C hi => by
    show z.cps.size ≤ i
    simpa [chars] using hi
  yld := fun i m' H' c' x H2 l C hi ⟨e, k, hk, hx⟩ => by
    subst e; subst hx
    refine ⟨.str ⟨#[k]⟩, ?_, C, Le.refl _ _, rfl⟩
    unfold chars
    rw [List.getElem?_map, Array.getElem?_toList, hk]
    rfl
def rng (lo : Int) (n : Nat) : List D := (List.range n).map fun i => .int (lo + (i : Nat))
theorem rng_len (lo : Int) (n : Nat) : (rng lo n).length = n := by simp [rng]
theorem walks_rng {K : PySem.W.Frag} {m : Ad} {H : Hp} {lo : Int} {n : Nat} : Walks K (Itr lo n) m H (rng lo n) where
  go := fun i m' H' c' l C hi => by rw [rng_len] at hi; exact hi
  stop := fun i m' H' c' l C hi => by rw [rng_len] at hi; exact hi
  yld := fun i m' H' c' x H2 l C hi ⟨e, hx⟩ => by
    subst e; subst hx
    rw [rng_len] at hi
    exact ⟨.int (lo + i), by unfold rng; rw [List.getElem?_map, List.getElem?_range hi]; rfl, C, Le.refl _ _, rfl⟩
section
variable {X : Cx} {tg iter e e2 o a b : Expr} {ta tb : TD} {tA : TDt} {pos pp : Pos} {ti : TDs}
def dIterL (ta : TD) : TDs := fun ρ c Φ => ta ρ c fun x c1 => match x with
  | .lst ds => Φ ds c1
  | .fl ds => Φ ds c1
  | _ => False
def dIterT (ta : TD) : TDs := fun ρ c Φ => ta ρ c fun x c1 => match x with
  | .tup ds => Φ ds c1
  | _ => False
def dIterS (ta : TD) : TDs := fun ρ c Φ => ta ρ c fun x c1 => match x with
  | .str z => Φ (chars z) c1
  | _ => False
theorem pid_list (h : PD X iter ta) : PID X tg iter (dIterL ta) := PI.imp (pi_list h) fun σ H R ⟨m, ρ, c, Φ, S, h, q⟩ =>
  ⟨m, ρ, c, _, S, h, fun d c1 v H1 m1 hx C1 R1 L1 => by
    cases d <;> first | exact hx.elim | skip
    · obtain ⟨a, xs, rfl, h1, h2⟩ := R1
      exact ⟨a, rfl, ⟨xs, SqL.of (ex_hid m1 H1 a _ h1)⟩, q _ c1 _ H1 m1 hx C1 (walks_list (SqL.of h1) h2) L1⟩
    · obtain ⟨a, xs, rfl, h1, h2⟩ := R1
      exact ⟨a, rfl, ⟨xs, ex_l (ex_hid m1 H1) h1⟩, q _ c1 _ H1 m1 hx C1 (walks_list h1 h2) L1⟩⟩
theorem pid_tup (h : PD X iter ta) : PID X tg iter (dIterT ta) := PI.imp (pi_tup h) fun σ H R ⟨m, ρ, c, Φ, S, h, q⟩ =>
  ⟨m, ρ, c, _, S, h, fun d c1 v H1 m1 hx C1 R1 L1 => by
    cases d <;> first | exact hx.elim | skip
    obtain ⟨a, xs, rfl, h1, h2⟩ := R1
    exact ⟨a, rfl, ⟨xs, ex_t (ex_hid m1 H1) h1⟩, q _ c1 _ H1 m1 hx C1 (walks_tup h1 h2) L1⟩⟩
theorem pid_str (h : PD X iter ta) : PID X tg iter (dIterS ta) := PI.imp (pi_str h) fun σ H R ⟨m, ρ, c, Φ, S, h, q⟩ =>
  ⟨m, ρ, c, _, S, h, fun d c1 v H1 m1 hx C1 R1 L1 => by
    cases d <;> first | exact hx.elim | skip
    exact ⟨_, R1, q _ c1 _ H1 m1 hx C1 walks_str L1⟩⟩
def dRng1 (ta : TD) : TDs := fun ρ c Φ => ta ρ c fun x c1 => match x with
  | .int j => (-(2 ^ 62) ≤ j ∧ j < 2 ^ 62) ∧ Φ (rng 0 j.toNat) c1
  | _ => False
theorem pid_range1 (h : PD X e ta) (hm : X.mg "range" = none) (hg : Gl X "range" := by rfl) (hs : starEach [e] X.env = [(false, eval e X.env)] := by rfl) : PID X tg (.Call (.Name "range" pp) [e] [] pos) (dRng1 ta) :=
  PI.imp (pi_range1 hg hm (pds_cons h pds_nil hs) hs) fun σ H R ⟨m, ρ, c, Φ, S, h, q⟩ =>
  ⟨m, ρ, c, (fun ds c1 => ∃ j, ds = [.int j] ∧ (-(2 ^ 62) ≤ j ∧ j < 2 ^ 62) ∧ Φ (rng 0 j.toNat) c1), S, (show ta ρ c fun x c1 => ∃ j, [x] = [.int j] ∧ (-(2 ^ 62) ≤ j ∧ j < 2 ^ 62) ∧ Φ (rng 0 j.toNat) c1 by
    have e : (fun x c1 => ∃ j, [x] = [D.int j] ∧ (-(2 ^ 62) ≤ j ∧ j < 2 ^ 62) ∧ Φ (rng 0 j.toNat) c1) = fun x c1 => match x with
      | .int j => (-(2 ^ 62) ≤ j ∧ j < 2 ^ 62) ∧ Φ (rng 0 j.toNat) c1
      | _ => False := by
      funext x c1
      apply propext
      constructor
      · rintro ⟨j, e, h⟩; cases e; exact h
      · intro h; cases x <;> first | exact h.elim | exact ⟨_, rfl, h⟩
    rw [e]; exact h), fun ds c' vs H' m' hd C R' L => by
      obtain ⟨j, rfl, ⟨h1, h2⟩, hd⟩ := hd
      obtain ⟨v, r', rfl, rv, rr⟩ := R'
      cases (show r' = [] from rr)
      cases (show v = V.int j from rv)
      exact ⟨j, rfl, h1, h2, q _ c' _ H' m' hd C walks_rng L⟩⟩
def dRng2 (ta tb : TD) : TDs := fun ρ c Φ => ta ρ c fun x c1 => tb ρ c1 fun y c2 => match x, y with
  | .int i, .int j => (-(2 ^ 62) ≤ i ∧ i < 2 ^ 62 ∧ -(2 ^ 62) ≤ j ∧ j < 2 ^ 62) ∧ Φ (rng i (j - i).toNat) c2
  | _, _ => False
theorem pid_range2 (h : PD X e ta) (h' : PD X e2 tb) (hm : X.mg "range" = none) (hg : Gl X "range" := by rfl) (hs : starEach [e, e2] X.env = [(false, eval e X.env), (false, eval e2 X.env)] := by rfl) (hs2 : starEach [e2] X.env = [(false, eval e2 X.env)] := by rfl) : PID X tg (.Call (.Name "range" pp) [e, e2] [] pos) (dRng2 ta tb) :=
  PI.imp (pi_range2 hg hm (pds_cons h (pds_cons h' pds_nil hs2) (by rw [hs, hs2])) hs hs2) fun σ H R ⟨m, ρ, c, Φ, S, h, q⟩ =>
  ⟨m, ρ, c, (fun ds c1 => ∃ i j, ds = [.int i, .int j] ∧ (-(2 ^ 62) ≤ i ∧ i < 2 ^ 62 ∧ -(2 ^ 62) ≤ j ∧ j < 2 ^ 62) ∧ Φ (rng i (j - i).toNat) c1), S, (show ta ρ c fun x c1 => tb ρ c1 fun y c2 => ∃ i j, [x, y] = [.int i, .int j] ∧ (-(2 ^ 62) ≤ i ∧ i < 2 ^ 62 ∧ -(2 ^ 62) ≤ j ∧ j < 2 ^ 62) ∧ Φ (rng i (j - i).toNat) c2 by
    have e : (fun x c1 => tb ρ c1 fun y c2 => ∃ i j, [x, y] = [D.int i, D.int j] ∧ (-(2 ^ 62) ≤ i ∧ i < 2 ^ 62 ∧ -(2 ^ 62) ≤ j ∧ j < 2 ^ 62) ∧ Φ (rng i (j - i).toNat) c2) = fun x c1 => tb ρ c1 fun y c2 => match x, y with
      | .int i, .int j => (-(2 ^ 62) ≤ i ∧ i < 2 ^ 62 ∧ -(2 ^ 62) ≤ j ∧ j < 2 ^ 62) ∧ Φ (rng i (j - i).toNat) c2
      | _, _ => False := by
      funext x c1
      congr 1
      funext y c2
      apply propext
      constructor
      · rintro ⟨i, j, e, h⟩; cases e; exact h
      · intro h; cases x <;> cases y <;> first | exact h.elim | exact ⟨_, _, rfl, h⟩
    rw [e]; exact h), fun ds c' vs H' m' hd C R' L => by
      obtain ⟨i, j, rfl, hb, hd⟩ := hd
      obtain ⟨v, r', rfl, rv, w, r'', rfl, rw', rr⟩ := R'
      cases (show r'' = [] from rr)
      cases (show v = V.int i from rv)
      cases (show w = V.int j from rw')
      exact ⟨i, j, rfl, hb, q _ c' _ H' m' hd C walks_rng L⟩⟩

/-! ### for -/
def forD (g : TGD) (tb : TSD) (De : DEnds) : List D → Env → List Cell → Prop
  | [], ρ, c => De.nx ρ c
  | d :: ds, ρ, c => g d ρ c fun ρ1 c1 => tb ⟨forD g tb De ds, De.rt, De.nx, forD g tb De ds⟩ ρ1 c1
def dFor (ti : TDs) (g : TGD) (tb : TSD) : TSD := fun De ρ c => ti ρ c fun ds c1 => forD g tb De ds ρ c1
theorem psd_for {body : List Stmt} {g : TGD} {tb : TSD} (hp : PassesOwn (model X.prog X.w) X.A X.env X.xe) (hc : X.calm = true) (hi : PID X tg iter ti) (hg : PGD X tg g) (hb : PSDs X body tb) (hs : ∀ x, foldedSetIterable iter X.env x = pure x := by intro _; rfl) :
    PSD X (.For tg iter body [] pos) (dFor ti g tb) := PS.imp (ps_for hp hc hi hg hb hs) fun Dn σ H ⟨m, ρ, c, De, S, h, n, r, b, k⟩ =>
  ⟨m, ρ, c, _, S, h, fun ds c1 J H1 m1 hx C1 wk L1 =>
    ⟨fun i mm σ' H' => mm = ds.length - i ∧ i ≤ ds.length ∧ ∃ m' ρ' c', Le m1 H1 m' H' ∧ SR X.K σ' H' m' ρ' c' ∧ forD g tb De (ds.drop i) ρ' c',
     ⟨ds.length, by simp, Nat.zero_le _, m1, ρ, c1, Le.refl _ _, S.step L1 C1, by simpa using hx⟩, by
      rintro i mm σ' H' ⟨rfl, hi, m', ρ', c', l, S', hf⟩
      by_cases hlt : i < ds.length
      · refine .inr ⟨wk.go i m' H' c' l S'.cr hlt, fun σ2 H2 => ∃ m2 ρ2 c2, Le m1 H1 m2 H2 ∧ SR X.K σ2 H2 m2 ρ2 c2 ∧ forD g tb De (ds.drop (i + 1)) ρ2 c2, fun σ2 H2 ⟨m2, ρ2, c2, l2, S2, h2⟩ => ⟨ds.length - (i + 1), by omega, rfl, hlt, m2, ρ2, c2, l2, S2, h2⟩, fun x H2 y => ?_⟩
        obtain ⟨d, hd, C2, l2, rx⟩ := wk.yld i m' H' c' x H2 l S'.cr hlt y
        have e : ds.drop i = d :: ds.drop (i + 1) := by
          rw [List.drop_eq_getElem_cons hlt]
          congr 1
          have := List.getElem?_eq_getElem hlt
          rw [hd] at this
          exact (Option.some.inj this).symm
        rw [e] at hf
        have L2 := L1.trans (l.trans l2)
        refine ⟨m', ρ', c', d, _, S'.step l2 C2, rx, hf, fun σ3 H3 m3 ρ3 c3 h3 S3 l3 => ?_⟩
        have L3 := L2.trans l3
        refine ⟨m3, ρ3, c3, _, S3, h3, fun σ4 H4 m4 ρ4 c4 h4 S4 l4 => ?_, r.le L3, fun σ4 H4 m4 ρ4 c4 h4 S4 l4 => n σ4 H4 m4 ρ4 c4 h4 S4 (L3.trans l4), fun σ4 H4 m4 ρ4 c4 h4 S4 l4 => ?_⟩
        · exact ⟨m4, ρ4, c4, (l.trans l2).trans (l3.trans l4), S4, h4⟩
        · exact ⟨m4, ρ4, c4, (l.trans l2).trans (l3.trans l4), S4, h4⟩
      · have ei : i = ds.length := by omega
        subst ei
        refine .inl ⟨wk.stop _ m' H' c' l S'.cr (Nat.le_refl _), ?_⟩
        rw [List.drop_length] at hf
        exact n σ' H' m' ρ' c' hf S' (L1.trans l)⟩⟩
end
end Cw

namespace Cw
open PySem PySem.Spec PyProof.Rows L2

/-! ### data that names cells below n alone -/
mutual
def okD (n : Nat) : D → Bool
  | .cell k => Nat.blt k n
  | .tup ds => okDs n ds
  | .lst ds => okDs n ds
  | .fl ds => okDs n ds
  | .ins _ _ ds => okDs n ds
  | .dct _ ds => okDs n ds
  | .dcT _ ds => okDs n ds
  | _ => true
def okDs (n : Nat) : List D → Bool
  | [] => true
  | d :: ds => okD n d && okDs n ds
end
def okC (n : Nat) : Cell → Bool
  | .lst ds => okDs n ds
  | .obj _ _ ds => okDs n ds
  | .dct _ ds => okDs n ds
  | .dcT _ ds => okDs n ds
def okCs (n : Nat) : List Cell → Bool
  | [] => true
  | c :: cs => okC n c && okCs n cs
section
variable {K : PySem.W.Frag} {ix ix' : List Addr} {H H' : Hp} {n : Nat}
mutual
theorem R.low (e : Ex H H') (p : ∀ (k : Nat) a, k < n → ix[k]? = some a → ix'[k]? = some a) : ∀ (d : D) (v : V), okD n d = true → R K ix H d v → R K ix' H' d v
  | .non, _, _, h => h
  | .bl _, _, _, h => h
  | .int _, _, _, h => h
  | .str _, _, _, h => h
  | .tup ds, _, k, ⟨a, xs, e1, h1, h2⟩ => ⟨a, xs, e1, ex_t e h1, RL.low e p ds xs (by simpa [okD] using k) h2⟩
  | .lst ds, _, k, ⟨a, xs, e1, h1, h2⟩ => ⟨a, xs, e1, e a _ h1, RL.low e p ds xs (by simpa [okD] using k) h2⟩
  | .fl ds, _, k, ⟨a, xs, e1, h1, h2⟩ => ⟨a, xs, e1, ex_l e h1, RL.low e p ds xs (by simpa [okD] using k) h2⟩
  | .cell j, _, k, ⟨a, h1, h2⟩ => ⟨a, p j a (by simpa [okD] using k) h1, h2⟩
  | .ins _ _ ds, _, k, ⟨a, dx, fs, e1, h1, h2, h3⟩ => ⟨a, dx, fs, e1, e a _ h1, h2, RL.low e p ds _ (by simpa [okD] using k) h3⟩
  | .dct _ ds, _, k, ⟨a, kvs, e1, h1, h2, h3⟩ => ⟨a, kvs, e1, ex_rd e h1, h2, RL.low e p ds _ (by simpa [okD] using k) h3⟩
  | .dcT _ ds, _, k, ⟨a, kvs, e1, h1, h2, h3⟩ => ⟨a, kvs, e1, e a _ h1, h2, RL.low e p ds _ (by simpa [okD] using k) h3⟩
  | .raw _, _, _, h => h
theorem RL.low (e : Ex H H') (p : ∀ (k : Nat) a, k < n → ix[k]? = some a → ix'[k]? = some a) : ∀ (ds : List D) (xs : List V), okDs n ds = true → RL K ix H ds xs → RL K ix' H' ds xs
  | [], _, _, h => h
  | d :: ds, _, k, ⟨x, r, e1, h1, h2⟩ => by
    have k' : okD n d = true ∧ okDs n ds = true := by simpa [okDs] using k
    exact ⟨x, r, e1, R.low e p d x k'.1 h1, RL.low e p ds r k'.2 h2⟩
end
theorem okCs_at : ∀ {c : List Cell} {k : Nat} {ce : Cell}, okCs n c = true → c[k]? = some ce → okC n ce = true
  | [], _, _, _, e => by simp at e
  | x :: c, 0, _, h, e => by
    have h' : okC n x = true ∧ okCs n c = true := by simpa [okCs] using h
    simp at e; subst e; exact h'.1
  | x :: c, k + 1, _, h, e => by
    have h' : okC n x = true ∧ okCs n c = true := by simpa [okCs] using h
    exact okCs_at h'.2 (by simpa using e)
theorem okDs_append {n : Nat} : ∀ {as bs : List D}, okDs n (as ++ bs) = (okDs n as && okDs n bs)
  | [], _ => by simp [okDs]
  | a :: as, bs => by simp [okDs, okDs_append (as := as), Bool.and_assoc]
theorem okDs_map {α : Type} {n : Nat} {f : α → D} (h : ∀ x, okD n (f x) = true) : ∀ xs : List α, okDs n (xs.map f) = true
  | [] => rfl
  | x :: xs => by simp [okDs, h x, okDs_map h xs]
theorem okDs_of {n : Nat} : ∀ {ds : List D}, (∀ d ∈ ds, okD n d = true) → okDs n ds = true
  | [], _ => rfl
  | d :: ds, h => by
    show (okD n d && okDs n ds) = true
    rw [h d List.mem_cons_self, okDs_of fun x hx => h x (List.mem_cons_of_mem _ hx)]; rfl
end
/-- the last cell is no longer mutable -/
theorem CR.pop {K : PySem.W.Frag} {H : Hp} {m : Ad} {p : Addr} {c : List Cell} {ce : Cell} (C : CR K H (m.push p) (c ++ [ce])) (hk : okCs c.length c = true) : CR K H m c ∧ H p ≠ none ∧ CellAt K (m.push p) H p ce ∧ p ∉ m.ix ∧ p ∉ m.hd := by
  have hl : m.ix.length = c.length := by have := C.len; simp [Ad.push] at this; exact this
  have nd : (m.ix ++ [p]).Nodup := C.nd
  have hp : p ∉ m.ix := fun z => by
    rw [List.nodup_append] at nd
    exact nd.2.2 p z p (by simp) rfl
  have last : (m.push p).ix[c.length]? = some p := by
    show (m.ix ++ [p])[c.length]? = some p
    rw [← hl]; simp
  obtain ⟨a, h1, h2⟩ := C.at_ c.length ce (by simp)
  rw [last] at h1; cases h1
  have hex : Ex (hid (m.push p) H) (hid m H) := fun b o e => by
    obtain ⟨⟨h3, h4⟩, h5⟩ := hid_some e
    rw [hid_of ⟨fun z => h3 (List.mem_append_left _ z), h4⟩]; exact h5
  refine ⟨⟨hl, (List.nodup_append.mp nd).1, fun k ce' e => ?_, fun b hb => C.hs b hb, fun a ha => C.dj a (List.mem_append_left _ ha)⟩, fun z => ?_, h2, hp, fun z => C.dj p (List.mem_append_right _ (by simp)) z⟩
  · have hk' := (List.getElem?_eq_some_iff.mp e).1
    obtain ⟨a, h3, h4⟩ := C.at_ k ce' (by rw [List.getElem?_append_left hk']; exact e)
    have h5 : m.ix[k]? = some a := by
      have z : (m.ix ++ [p])[k]? = some a := h3
      rw [List.getElem?_append_left (by rw [hl]; exact hk')] at z; exact z
    refine ⟨a, h5, ?_⟩
    have low : ∀ (j : Nat) a, j < c.length → (m.push p).ix[j]? = some a → m.ix[j]? = some a := fun j a hj z => by
      have z : (m.ix ++ [p])[j]? = some a := z
      rw [List.getElem?_append_left (by rw [hl]; exact hj)] at z; exact z
    have ok := okCs_at hk e
    cases ce' with
    | lst ds => obtain ⟨xs, h6, h7⟩ := h4; exact ⟨xs, h6, RL.low hex low ds xs ok h7⟩
    | obj C' ns ds => obtain ⟨dx, fs, h6, h7, h8⟩ := h4; exact ⟨dx, fs, h6, h7, RL.low hex low ds _ ok h8⟩
    | dct ks ds => obtain ⟨kvs, h6, h7, h8⟩ := h4; exact ⟨kvs, h6, h7, RL.low hex low ds _ ok h8⟩
    | dcT ks ds => obtain ⟨kvs, h6, h7, h8⟩ := h4; exact ⟨kvs, h6, h7, RL.low hex low ds _ ok h8⟩
  · obtain ⟨o, h6⟩ := h2.obj
    rw [z] at h6; cases h6
theorem low_push {m : Ad} {p : Addr} {c : List Cell} (hl : m.ix.length = c.length) (j : Nat) (a : Addr) (hj : j < c.length) (z : (m.push p).ix[j]? = some a) : m.ix[j]? = some a := by
  have z : (m.ix ++ [p])[j]? = some a := z
  rw [List.getElem?_append_left (by rw [hl]; exact hj)] at z; exact z
theorem ex_pop {m : Ad} {p : Addr} {H : Hp} : Ex (hid (m.push p) H) (hid m H) := fun b o e => by
  obtain ⟨⟨h3, h4⟩, h5⟩ := hid_some e
  rw [hid_of ⟨fun z => h3 (List.mem_append_left _ z), h4⟩]; exact h5

theorem Ad.ext' {m m' : Ad} (h1 : m.ix = m'.ix) (h2 : m.hd = m'.hd) : m = m' := by cases m; cases m'; simp only at h1 h2; subst h1; subst h2; rfl
theorem ix_same {m m' : Ad} (p : ∀ (k : Nat) a, m.ix[k]? = some a → m'.ix[k]? = some a) (h : m'.ix.length = m.ix.length) : m'.ix = m.ix := by
  apply List.ext_getElem?
  intro k
  by_cases hk : k < m.ix.length
  · have := List.getElem?_eq_getElem hk
    rw [this, p k _ this]
  · rw [List.getElem?_eq_none (by omega), List.getElem?_eq_none (by omega)]
theorem ex_cut {m m' : Ad} {H : Hp} (p : ∀ (k : Nat) a, m.ix[k]? = some a → m'.ix[k]? = some a) (h : m'.hd = m.hd) : Ex (hid m' H) (hid m H) := fun b o e => by
  obtain ⟨⟨h1, h2⟩, h3⟩ := hid_some e
  rw [hid_of ⟨fun z => ?_, by rw [← h]; exact h2⟩]
  · exact h3
  · obtain ⟨k, hk⟩ := List.mem_iff_getElem?.mp z
    exact h1 (List.mem_of_getElem? (p k b hk))
theorem low_cut {m m' : Ad} {n : Nat} (p : ∀ (k : Nat) a, m.ix[k]? = some a → m'.ix[k]? = some a) (hn : m.ix.length = n) (j : Nat) (a : Addr) (hj : j < n) (z : m'.ix[j]? = some a) : m.ix[j]? = some a := by
  have := List.getElem?_eq_getElem (l := m.ix) (i := j) (by omega)
  rw [this]
  rw [p j _ this] at z
  exact z
theorem CR.cut {K : PySem.W.Frag} {H : Hp} {m m' : Ad} {c : List Cell} {n : Nat} (C : CR K H m' c) (p : ∀ (k : Nat) a, m.ix[k]? = some a → m'.ix[k]? = some a) (hd : m'.hd = m.hd) (hn : m.ix.length = n) (hk : okCs n (c.take n) = true) : CR K H m (c.take n) := by
  have hlen : n ≤ m'.ix.length := by
    by_cases h0 : n = 0
    · omega
    · have h1 := List.getElem?_eq_getElem (l := m.ix) (i := n - 1) (by omega)
      have := (List.getElem?_eq_some_iff.mp (p _ _ h1)).1
      omega
  have hlc : n ≤ c.length := by rw [← C.len]; exact hlen
  have pre : m.ix = m'.ix.take n := by
    apply List.ext_getElem?
    intro k
    by_cases hk : k < n
    · have := List.getElem?_eq_getElem (l := m.ix) (i := k) (by omega)
      rw [List.getElem?_take_of_lt hk, this, p k _ this]
    · rw [List.getElem?_eq_none (by omega), List.getElem?_eq_none (by rw [List.length_take]; omega)]
  refine ⟨by rw [List.length_take]; omega, by rw [pre]; exact C.nd.sublist (List.take_sublist _ _), fun k ce e => ?_, fun b hb => C.hs b (by rw [hd]; exact hb), fun a ha hb => C.dj a (by rw [pre] at ha; exact List.mem_of_mem_take ha) (by rw [hd]; exact hb)⟩
  have hkn : k < n := by
    have := (List.getElem?_eq_some_iff.mp e).1
    rw [List.length_take] at this; omega
  have ok := okCs_at hk e
  rw [List.getElem?_take_of_lt hkn] at e
  obtain ⟨a, h1, h2⟩ := C.at_ k ce e
  refine ⟨a, low_cut p hn k a hkn h1, ?_⟩
  cases ce with
  | lst ds => obtain ⟨xs, h3, h4⟩ := h2; exact ⟨xs, h3, RL.low (ex_cut p hd) (low_cut p hn) ds xs ok h4⟩
  | obj C' ns ds => obtain ⟨dx, fs, h3, h4, h5⟩ := h2; exact ⟨dx, fs, h3, h4, RL.low (ex_cut p hd) (low_cut p hn) ds _ ok h5⟩
  | dct ks ds => obtain ⟨kvs, h3, h4, h5⟩ := h2; exact ⟨kvs, h3, h4, RL.low (ex_cut p hd) (low_cut p hn) ds _ ok h5⟩
  | dcT ks ds => obtain ⟨kvs, h3, h4, h5⟩ := h2; exact ⟨kvs, h3, h4, RL.low (ex_cut p hd) (low_cut p hn) ds _ ok h5⟩
theorem beq_t {a b : Nat} (h : Nat.beq a b = true) : a = b := Nat.eq_of_beq_eq_true h
theorem CR.same {K : PySem.W.Frag} {H H4 : Hp} {m m4 : Ad} {c3 : List Cell} (h : c3.length = m.ix.length) (C4 : CR K H4 m4 c3) (l4 : Le m H m4 H4) : m4 = m :=
  Ad.ext' (ix_same l4.pre (by rw [C4.len, h])) l4.hd
/-- cells beyond the n-th are let go -/
theorem CR.letgo {K : PySem.W.Frag} {H H4 : Hp} {m m4 : Ad} {c3 : List Cell} {n : Nat} {y : D} {v : V} (hn : m.ix.length = n) (C4 : CR K H4 m4 c3) (r : RR K H4 m4 y v) (l4 : Le m H m4 H4) (hk : okCs n (c3.take n) = true) (hy : okD n y = true) :
    CR K H4 m (c3.take n) ∧ RR K H4 m y v ∧ Le m H m H4 :=
  ⟨C4.cut l4.pre l4.hd hn hk, R.low (ex_cut l4.pre l4.hd) (low_cut l4.pre hn) y v hy r, ⟨fun _ _ e => e, l4.ex.trans (ex_cut l4.pre l4.hd), rfl, l4.hk, fun _ h => .inl h, l4.al⟩⟩
/-- the cells behind a turn's part: as many as ahead, the new list the last -/
def inner (n : Nat) (acc : List D) (y : D) (c : List Cell) (Q : List Cell → Prop) : Prop := c[n]? = some (.lst acc) ∧ match Nat.beq c.length (n + 1) with
  | true => Q (c.take n)
  | false => okCs (n + 1) (c.take (n + 1)) = true ∧ okD (n + 1) y = true ∧ Q (c.take n)
/-- what inner says, over the heap -/
theorem inner_ok {K : PySem.W.Frag} {H H4 : Hp} {m m4 : Ad} {c3 : List Cell} {n : Nat} {acc : List D} {y : D} {v : V} {Q : List Cell → Prop} (hn : m.ix.length = n + 1) (h : inner n acc y c3 Q) (C4 : CR K H4 m4 c3) (r : RR K H4 m4 y v) (l4 : Le m H m4 H4) :
    CR K H4 m (c3.take n ++ [.lst acc]) ∧ RR K H4 m y v ∧ Le m H m H4 ∧ Q (c3.take n) ∧ (c3.take n).length = n := by
  obtain ⟨h1, h2⟩ := h
  have hlt := (List.getElem?_eq_some_iff.mp h1).1
  have ht : c3.take (n + 1) = c3.take n ++ [.lst acc] := by
    rw [List.take_add_one, h1]; rfl
  cases e : Nat.beq c3.length (n + 1) with
  | true =>
    rw [e] at h2
    have e1 := beq_t e
    have em := CR.same (by rw [hn]; exact e1) C4 l4
    subst em
    have : c3 = c3.take n ++ [.lst acc] := by rw [← ht, List.take_of_length_le (by omega)]
    rw [← this]
    exact ⟨C4, r, l4, h2, by rw [List.length_take]; omega⟩
  | false =>
    rw [e] at h2
    obtain ⟨a, b, c⟩ := CR.letgo hn C4 r l4 h2.1 h2.2.1
    rw [ht] at a
    exact ⟨a, b, c, h2.2.2, by rw [List.length_take]; omega⟩

/-! ### [e for x in ..] -/
def lcD (i : Nat) (tt : TDt) (te : TD) : List D → List D → Env → List Cell → (List D → List Cell → Prop) → Prop
  | [], acc, _, c, Φ => okCs c.length c = true ∧ okDs c.length acc = true ∧ Φ acc c
  | d :: ds, acc, ρ, c, Φ => tt (ρ.set i (some d)) (c ++ [.lst acc]) fun b c2 => match b with
    | true => te (ρ.set i (some d)) c2 fun y c3 => acc.length < sizeLine ∧ inner c.length acc y c3 fun c4 => lcD i tt te ds (acc ++ [y]) ρ c4 Φ
    | false => inner c.length acc .non c2 fun c4 => lcD i tt te ds acc ρ c4 Φ
def dLc (ti : TDs) (i : Nat) (tt : TDt) (te : TD) : TD := fun ρ c Φ => ti ρ c fun ds c1 => lcD i tt te ds [] ρ c1 fun xs c2 => Φ (.lst xs) c2
theorem wipe1 {σ : L2.St} {i : Nat} : wipe σ [i] = σ.set i none := rfl
theorem SR.blk {K : PySem.W.Frag} {σ : L2.St} {H : Hp} {m : Ad} {ρ : Env} {c : List Cell} {i : Nat} {d : D} {v : V} (S : SR K σ H m ρ c) (r : RR K H m d v) : SR K ((wipe σ [i]).set i (some v)) H m (ρ.set i (some d)) c := by
  have e : (wipe σ [i]).set i (some v) = σ.set i (some v) := by rw [wipe1, List.set_set]
  rw [e]; exact S.set r
/-- the loop of a comprehension -/
theorem lc_walk {K : PySem.W.Frag} {J : It} {m : Ad} {H1 : Hp} {ds : List D} {σ : L2.St} {ρ : Env} {c : List Cell} {i : Nat} {tt : TDt} {te : TD} {Φ : List D → List Cell → Prop} {Qd : Addr → Hp → Prop} (wk : Walks K J m H1 ds) (S : SR K σ H1 m ρ c) (h : lcD i tt te ds [] ρ c Φ)
    (q : ∀ p xs c' H', Φ xs c' → CR K H' m c' → RR K H' m (.lst xs) (.ref p) → Le m H1 m H' → Qd p H') : ∀ p, H1 p = none → ∃ W : Nat → Nat → Hp → Prop, (∃ mm, W 0 mm (upd H1 p (.lst []))) ∧ ∀ j mm H, W j mm H →
      (J.stop j H ∧ Qd p H) ∨ (J.go j H ∧ ∃ Nx : Hp → Prop, (∀ H', Nx H' → ∃ m', m' < mm ∧ W (j + 1) m' H') ∧ ∀ x H', J.yld j H x H' → gName i x (wipe σ [i]) H' fun σ2 H2 => wipe σ2 [i] = wipe σ [i] ∧ liftT K tt σ2 H2 fun b H3 =>
        if b = true then lift K te σ2 H3 fun y H4 => ∃ acc, H4 p = some (.lst acc) ∧ acc.length < sizeLine ∧ Nx (upd H4 p (.lst (acc ++ [y]))) else Nx H3) := by
  intro p hp
  have z0 := cell_new (ce := .lst []) (o := .lst []) S.cr hp ⟨[], upd_same, rfl⟩
  -- the state behind a number of turns
  refine ⟨fun j mm H => mm = ds.length - j ∧ j ≤ ds.length ∧ ∃ c' acc, c'.length = c.length ∧ CR K H (m.push p) (c' ++ [.lst acc]) ∧ Le m H1 (m.push p) H ∧ lcD i tt te (ds.drop j) acc ρ c' Φ,
    ⟨ds.length, by simp, Nat.zero_le _, c, [], rfl, z0.1, z0.2.1, by simpa using h⟩, ?_⟩
  rintro j mm H ⟨rfl, hj, c', acc, hl, C, l, hf⟩
  by_cases hlt : j < ds.length
  · have wk' := wk
    refine .inr ⟨wk.go j (m.push p) H _ l C hlt, fun H' => ∃ c' acc, c'.length = c.length ∧ CR K H' (m.push p) (c' ++ [.lst acc]) ∧ Le m H1 (m.push p) H' ∧ lcD i tt te (ds.drop (j + 1)) acc ρ c' Φ, fun H' w => ⟨ds.length - (j + 1), by omega, rfl, hlt, w⟩, fun x H2 y => ?_⟩
    obtain ⟨d, hd, C2, l2, rx⟩ := wk.yld j (m.push p) H _ x H2 l C hlt y
    have e : ds.drop j = d :: ds.drop (j + 1) := by
      rw [List.drop_eq_getElem_cons hlt]
      congr 1
      have := List.getElem?_eq_getElem hlt
      rw [hd] at this
      exact (Option.some.inj this).symm
    rw [e] at hf
    have L2 := l.trans l2
    have S2 : SR K ((wipe σ [i]).set i (some x)) H2 (m.push p) (ρ.set i (some d)) (c' ++ [.lst acc]) := (S.step L2 C2).blk rx
    refine ⟨by rw [wipe1, wipe1, List.set_set, List.set_set], m.push p, _, _, _, S2, hf, fun b c2 H3 m3 hb C3 l3 => ?_⟩
    have hmn : (m.push p).ix.length = c'.length + 1 := by
      have := C2.len
      simp at this
      exact this
    cases b with
    | false =>
      dsimp only
      rw [if_neg (by decide)]
      obtain ⟨z1, _, z2, z3, z4⟩ := inner_ok (v := .non) hmn hb C3 rfl l3
      exact ⟨c2.take c'.length, acc, by rw [z4, hl], z1, L2.trans z2, z3⟩
    | true =>
      dsimp only
      rw [if_pos rfl]
      refine ⟨m3, _, c2, _, S2.step l3 C3, hb, fun y c3 v H4 m4 hy C4 R4 l4 => ?_⟩
      obtain ⟨hsz, hin⟩ := hy
      obtain ⟨z1, z5, z2, z3, z4⟩ := inner_ok hmn hin C4 R4 (l3.trans l4)
      obtain ⟨a, h5, xs, h6, h7⟩ := z1.at_ c'.length (.lst acc) (by rw [List.getElem?_append_right (by omega), z4]; simp)
      have last : (m.push p).ix[c'.length]? = some p := by
        show (m.ix ++ [p])[c'.length]? = some p
        rw [hl, ← S.cr.len]; simp
      rw [last] at h5; cases h5
      refine ⟨xs, h6, by rw [rlen h7]; exact hsz, ?_⟩
      have hm : p ∈ (m.push p).ix := List.mem_of_getElem? last
      have z := cell_put (o := .lst (xs ++ [v])) (ce := .lst (acc ++ [y])) z1 last ⟨_, upd_same, by show RL _ _ (hid (m.push p) _) _ _; rw [hid_mut hm]; exact RL.append h7 ⟨v, [], rfl, z5, rfl⟩⟩
      have ec : (c3.take c'.length ++ [Cell.lst acc]).set c'.length (.lst (acc ++ [y])) = c3.take c'.length ++ [.lst (acc ++ [y])] := by
        rw [List.set_append_right _ _ (by omega), z4]; simp
      rw [ec] at z
      exact ⟨c3.take c'.length, acc ++ [y], by rw [z4, hl], z.1, (L2.trans z2).trans z.2, z3⟩
  · have ej : j = ds.length := by omega
    subst ej
    rw [List.drop_length] at hf
    obtain ⟨h1, h2, h3⟩ := hf
    obtain ⟨C', _, ⟨xs, h4, h5⟩, hp1, hp2⟩ := C.pop h1
    refine .inl ⟨wk.stop _ (m.push p) H _ l C (Nat.le_refl _), q p acc c' H h3 C' ⟨p, xs, rfl, by rw [hid_of ⟨hp1, hp2⟩]; exact h4, RL.low ex_pop (low_push C'.len) acc xs h2 h5⟩ ⟨fun _ _ e => e, l.ex.trans ex_pop, rfl, l.hk, fun _ h => .inl h, l.al⟩⟩
section
variable {X : Cx} {tg iter e elt : Expr} {ta te : TD} {tt : TDt} {pos pp tp : Pos} {ti : TDs} {ifs : List Expr} {scope : Scope} {x y : Str} {i j : Nat}
abbrev PTD (X : Cx) (ifs : List Expr) (t : TDt) : Prop := PTs X ifs (liftT X.K t)
def dYes : TDt := fun _ c Φ => Φ true c
theorem ptd_nil : PTD X [] dYes := ⟨fun pins s σ H Q I ⟨m, ρ, c, Φ, S, h, q⟩ => pts_nil.run pins s σ H Q I (q true c H m h S.cr (Le.refl _ _))⟩
theorem ptd_one (h : PDt X e tt) : PTD X [e] tt := pts_one h
theorem pd_lc (hc : X.calm = true) (hN : X.N.Nodup) (hi : PID X (.Name x tp) iter ti) (ok : blkC X.N X.env.scope scope [(x, i)] = true)
    (hg : ∀ (s : Shared) (H : Hp) (C : Addr) (cl : List (Str × Addr)) (fp : List Addr), PG (X.blk s H scope (compEnvC scope cl C X.env) fp) (.Name x tp) (gName i))
    (ht : ∀ (s : Shared) (H : Hp) (C : Addr) (cl : List (Str × Addr)) (fp : List Addr), PTD (X.blk s H scope (compEnvC scope cl C X.env) fp) ifs tt)
    (he : ∀ (s : Shared) (H : Hp) (C : Addr) (cl : List (Str × Addr)) (fp : List Addr), PD (X.blk s H scope (compEnvC scope cl C X.env) fp) elt te) (hs : ∀ x, foldedSetIterable iter X.env x = pure x := by intro _; rfl) :
    PD X (.ListComp elt [⟨.Name x tp, iter, ifs, 0⟩] scope pos) (dLc ti i tt te) :=
  PE.imp (pe_lc (own := [(x, i)]) hc hN hi (blkOk_by ok) hg ht he hs) fun σ H Q ⟨m, ρ, c, Φ, S, h, q⟩ =>
    ⟨m, ρ, c, _, S, h, fun ds c1 J H1 m1 hx C1 wk L1 => lc_walk wk (S.step L1 C1) hx fun p xs c' H' h' C' R' l' => q _ c' _ H' m1 h' C' R' (L1.trans l')⟩
/-- y = [e for x in ..] -/
theorem psd_setLc {spos py : Pos} (hc : X.calm = true) (hN : X.N.Nodup) (hy : X.N[j]? = some y) (hyl : X.env.scope.names.lookup y = some .local)
    (hsw : swapsWith (.ListComp elt [⟨.Name x tp, iter, ifs, 0⟩] scope pos) (some (.Name y py)) spos.line X.env = pure true)
    (hi : PID X (.Name x tp) iter ti) (ok : blkC X.N X.env.scope scope [(x, i)] = true)
    (hg : ∀ (s : Shared) (H : Hp) (C : Addr) (cl : List (Str × Addr)) (fp : List Addr), PG (X.blk s H scope (compEnvC scope cl C X.env) fp) (.Name x tp) (gName i))
    (ht : ∀ (s : Shared) (H : Hp) (C : Addr) (cl : List (Str × Addr)) (fp : List Addr), PTD (X.blk s H scope (compEnvC scope cl C X.env) fp) ifs tt)
    (he : ∀ (s : Shared) (H : Hp) (C : Addr) (cl : List (Str × Addr)) (fp : List Addr), PD (X.blk s H scope (compEnvC scope cl C X.env) fp) elt te) (hs : ∀ x, foldedSetIterable iter X.env x = pure x := by intro _; rfl) :
    PSD X (.Assign [.Name y py] (.ListComp elt [⟨.Name x tp, iter, ifs, 0⟩] scope pos) spos) (dSet j (dLc ti i tt te)) :=
  PS.imp (ps_setLc (i := j) (own := [(x, i)]) hc hN hy hyl hsw hi (blkOk_by ok) hg ht he hs) fun Dn σ H ⟨m, ρ, c, De, S, h, n, r, b, k⟩ =>
    ⟨m, ρ, c, _, S, h, fun ds c1 J H1 m1 hx C1 wk L1 => lc_walk wk (S.step L1 C1) hx fun p xs c' H' h' C' R' l' => n _ H' m1 _ c' h' ((S.step (L1.trans l') C').set R') (L1.trans l')⟩
end
end Cw

namespace Cw
open PySem PySem.Spec PyProof.Rows L2

/-! ### what a def promises, over data -/
abbrev Pm := List Cell → List D → (D → List Cell → Prop) → Prop
def spD (K : PySem.W.Frag) (n0 np : Nat) (S : Pm) : Sp := fun vs H Q _ => ∃ (m : Ad) (c : List Cell) (ds : List D) (Φ : D → List Cell → Prop), c.length = n0 ∧ ds.length = np ∧ CR K H m c ∧ RRL K H m ds vs ∧ S c ds Φ ∧
  ∀ d c' w H', Φ d c' → CR K H' m c' → RR K H' m d w → Le m H m H' → Q w H'
/-- a cell beyond the n0-th is let go: what it held stays -/
def melt1 (n0 : Nat) (c : List Cell) : D → Option D
  | .cell k => match c[k]? with
    | some (.lst es) => if Nat.ble n0 k && okDs n0 es then some (.lst es) else none
    | _ => none
  | d => if okD n0 d then some d else none
def melts (n0 : Nat) (c : List Cell) : List D → Option (List D)
  | [] => some []
  | d :: ds => match melt1 n0 c d, melts n0 c ds with
    | some e, some es => some (e :: es)
    | _, _ => none
def retD (n0 : Nat) (Φ : D → List Cell → Prop) (d : D) (c : List Cell) : Prop := match Nat.beq c.length n0 with
  | true => Φ d c
  | false => okCs n0 (c.take n0) = true ∧ match d with
    | .cell k => match c[k]? with
      | some (.dct ks ds) => ∃ es, Nat.ble n0 k = true ∧ melts n0 c ds = some es ∧ Φ (.dct ks es) (c.take n0)
      | _ => ∃ ds, c[k]? = some (.lst ds) ∧ Nat.ble n0 k = true ∧ okDs n0 ds = true ∧ Φ (.lst ds) (c.take n0)
    | .dct ks ds => ∃ es, melts n0 c ds = some es ∧ Φ (.dct ks es) (c.take n0)
    | d => okD n0 d = true ∧ Φ d (c.take n0)
def startD (N : List Str) (ds : List D) : Env := ds.map some ++ List.replicate (N.length - ds.length) none
theorem melt_ok {K : PySem.W.Frag} {H' : Hp} {m m' : Ad} {c' : List Cell} {n0 : Nat} (hn : m.ix.length = n0) (pre : ∀ (k : Nat) a, m.ix[k]? = some a → m'.ix[k]? = some a) (hd : m'.hd = m.hd) (C : CR K H' m' c') (ex : Ex (hid m' H') (hid m H')) :
    ∀ {d e : D} {v : V}, melt1 n0 c' d = some e → RR K H' m' d v → RR K H' m e v := by
  have gen : ∀ {d e : D} {v : V}, (if okD n0 d then some d else none) = some e → RR K H' m' d v → RR K H' m e v := fun {d e v} h r => by
    by_cases hk : okD n0 d = true
    · rw [if_pos hk] at h; cases h
      exact R.low ex (low_cut pre hn) _ v hk r
    · rw [if_neg hk] at h; cases h
  intro d e v h r
  cases d with
  | cell k =>
    obtain ⟨a, h5, rfl⟩ := r
    have h : (match c'[k]? with
      | some (.lst es) => if Nat.ble n0 k && okDs n0 es then some (D.lst es) else none
      | _ => none) = some e := h
    cases e1 : c'[k]? with
    | none => rw [e1] at h; cases h
    | some ce =>
      rw [e1] at h
      cases ce with
      | lst es =>
        have h : (if Nat.ble n0 k && okDs n0 es then some (D.lst es) else none) = some e := h
        by_cases hb : (Nat.ble n0 k && okDs n0 es) = true
        · rw [if_pos hb] at h
          cases h
          obtain ⟨b1, b2⟩ := Bool.and_eq_true_iff.mp hb
          obtain ⟨b, h6, xs, h7, h8⟩ := C.at_ k _ e1
          rw [h5] at h6; cases h6
          refine ⟨a, xs, rfl, ?_, RL.low ex (low_cut pre hn) es xs b2 h8⟩
          rw [hid_of ⟨fun z => ?_, fun z => C.dj a (List.mem_of_getElem? h5) (by rw [hd]; exact z)⟩]
          · exact h7
          · obtain ⟨j, hj⟩ := List.mem_iff_getElem?.mp z
            have hj2 := pre j a hj
            have e1 := (List.getElem?_eq_some_iff.mp h5)
            have e2 := (List.getElem?_eq_some_iff.mp hj2)
            have : k = j := (List.getElem_inj C.nd).mp (e1.2.trans e2.2.symm)
            subst this
            have := (List.getElem?_eq_some_iff.mp hj).1
            have := Nat.le_of_ble_eq_true b1
            omega
        · rw [if_neg hb] at h; cases h
      | obj _ _ _ => cases h
      | dct _ _ => cases h
      | dcT _ _ => cases h
  | non => exact gen (d := .non) h r
  | bl b => exact gen (d := .bl b) h r
  | int i => exact gen (d := .int i) h r
  | str x => exact gen (d := .str x) h r
  | tup ds => exact gen (d := .tup ds) h r
  | lst ds => exact gen (d := .lst ds) h r
  | fl ds => exact gen (d := .fl ds) h r
  | ins C' ns ds => exact gen (d := .ins C' ns ds) h r
  | dct _ _ => exact gen (d := .dct _ _) h r
  | dcT _ _ => exact gen (d := .dcT _ _) h r
  | raw v => exact gen (d := .raw v) h r
theorem melts_ok {K : PySem.W.Frag} {H' : Hp} {m m' : Ad} {c' : List Cell} {n0 : Nat} (hn : m.ix.length = n0) (pre : ∀ (k : Nat) a, m.ix[k]? = some a → m'.ix[k]? = some a) (hd : m'.hd = m.hd) (C : CR K H' m' c') (ex : Ex (hid m' H') (hid m H')) :
    ∀ {ds es : List D} {vs : List V}, melts n0 c' ds = some es → RRL K H' m' ds vs → RRL K H' m es vs
  | [], es, vs, h, r => by cases h; exact r
  | d :: ds, es, vs, h, r => by
    obtain ⟨x, t, rfl, r1, r2⟩ := r
    unfold melts at h
    cases e1 : melt1 n0 c' d with
    | none => rw [e1] at h; cases h
    | some e =>
      cases e2 : melts n0 c' ds with
      | none => rw [e1, e2] at h; cases h
      | some es' =>
        rw [e1, e2] at h; cases h
        exact ⟨x, t, rfl, melt_ok hn pre hd C ex e1 r1, melts_ok hn pre hd C ex e2 r2⟩
theorem ret_ok {K : PySem.W.Frag} {H H' : Hp} {m m' : Ad} {c' : List Cell} {Φ : D → List Cell → Prop} {d : D} {v : V} {Q : VK} {n0 : Nat} (hn : m.ix.length = n0) (q : ∀ d c' w H', Φ d c' → CR K H' m c' → RR K H' m d w → Le m H m H' → Q w H')
    (h : retD n0 Φ d c') (C : CR K H' m' c') (r : RR K H' m' d v) (l : Le m H m' H') : Q v H' := by
  unfold retD at h
  cases e : Nat.beq c'.length n0 with
  | true =>
    rw [e] at h
    have e1 := ix_same l.pre (by rw [C.len, beq_t e, hn])
    have em : m' = m := Ad.ext' e1 l.hd
    subst em
    exact q d c' v H' h C r l
  | false =>
    rw [e] at h
    obtain ⟨hk, h⟩ := h
    have C' := C.cut l.pre l.hd hn hk
    have ex : Ex (hid m' H') (hid m H') := ex_cut l.pre l.hd
    have l' : Le m H m H' := ⟨fun _ _ e => e, l.ex.trans ex, rfl, l.hk, fun _ h => .inl h, l.al⟩
    have gen : ∀ d', okD n0 d' = true ∧ Φ d' (c'.take n0) → RR K H' m' d' v → Q v H' := fun d' ⟨h1, h2⟩ r => q d' _ v H' h2 C' (R.low ex (low_cut l.pre hn) d' v h1 r) l'
    cases d with
    | cell k =>
      have lst : (∃ ds, c'[k]? = some (.lst ds) ∧ Nat.ble n0 k = true ∧ okDs n0 ds = true ∧ Φ (.lst ds) (c'.take n0)) → Q v H' := fun h => by
        obtain ⟨ds, h1, h2, h3, h4⟩ := h
        obtain ⟨a, h5, rfl⟩ := r
        obtain ⟨b, h6, xs, h7, h8⟩ := C.at_ k _ h1
        rw [h5] at h6; cases h6
        refine q (.lst ds) _ (.ref a) H' h4 C' ⟨a, xs, rfl, ?_, RL.low ex (low_cut l.pre hn) ds xs h3 h8⟩ l'
        rw [hid_of ⟨fun z => ?_, fun z => C.dj a (List.mem_of_getElem? h5) (by rw [l.hd]; exact z)⟩]
        · exact h7
        · obtain ⟨j, hj⟩ := List.mem_iff_getElem?.mp z
          have hj2 := l.pre j a hj
          have e1 := (List.getElem?_eq_some_iff.mp h5)
          have e2 := (List.getElem?_eq_some_iff.mp hj2)
          have : k = j := (List.getElem_inj C.nd).mp (e1.2.trans e2.2.symm)
          subst this
          have := (List.getElem?_eq_some_iff.mp hj).1
          have := Nat.le_of_ble_eq_true h2
          omega
      have h : (match c'[k]? with
        | some (.dct ks ds) => ∃ es, Nat.ble n0 k = true ∧ melts n0 c' ds = some es ∧ Φ (.dct ks es) (c'.take n0)
        | _ => ∃ ds, c'[k]? = some (.lst ds) ∧ Nat.ble n0 k = true ∧ okDs n0 ds = true ∧ Φ (.lst ds) (c'.take n0)) := h
      cases e1 : c'[k]? with
      | none => rw [e1] at h lst; exact lst h
      | some ce =>
        cases ce with
        | lst es => rw [e1] at h lst; exact lst h
        | obj _ _ _ => rw [e1] at h lst; exact lst h
        | dcT _ _ => rw [e1] at h lst; exact lst h
        | dct ks ds =>
          rw [e1] at h
          obtain ⟨es, h2, h3, h4⟩ := h
          obtain ⟨a, h5, rfl⟩ := r
          obtain ⟨b, h6, kvs, h7, h8, h9⟩ := C.at_ k _ e1
          rw [h5] at h6; cases h6
          refine q (.dct ks es) _ (.ref a) H' h4 C' ⟨a, kvs, rfl, .inl ?_, h8, melts_ok hn l.pre l.hd C ex h3 h9⟩ l'
          rw [hid_of ⟨fun z => ?_, fun z => C.dj a (List.mem_of_getElem? h5) (by rw [l.hd]; exact z)⟩]
          · exact h7
          · obtain ⟨j, hj⟩ := List.mem_iff_getElem?.mp z
            have hj2 := l.pre j a hj
            have e1 := (List.getElem?_eq_some_iff.mp h5)
            have e2 := (List.getElem?_eq_some_iff.mp hj2)
            have : k = j := (List.getElem_inj C.nd).mp (e1.2.trans e2.2.symm)
            subst this
            have := (List.getElem?_eq_some_iff.mp hj).1
            have := Nat.le_of_ble_eq_true h2
            omega
    | non => exact gen _ h r
    | bl b => exact gen _ h r
    | int i => exact gen _ h r
    | str x => exact gen _ h r
    | tup ds => exact gen _ h r
    | lst ds => exact gen _ h r
    | fl ds => exact gen _ h r
    | ins C' ns ds => exact gen _ h r
    | dct ks ds =>
      obtain ⟨es, h1, h2⟩ := h
      obtain ⟨a, kvs, rfl, h3, h4, h5⟩ := r
      exact q (.dct ks es) _ (.ref a) H' h2 C' ⟨a, kvs, rfl, ex_rd ex h3, h4, melts_ok hn l.pre l.hd C ex h1 h5⟩ l'
    | dcT ks ds => exact gen _ h r
    | raw w => exact gen _ h r
theorem start_slots {K : PySem.W.Frag} {H : Hp} {m : Ad} {c : List Cell} {N : List Str} {ds : List D} {vs : List V} (C : CR K H m c) (r : RRL K H m ds vs) : SR K (L2.start N vs) H m (startD N ds) c := by
  have hl := RL.length r
  refine ⟨C, by unfold startD L2.start; rw [List.length_append, List.length_append, List.length_map, List.length_map, List.length_replicate, List.length_replicate, hl], fun i d e => ?_⟩
  unfold startD at e
  by_cases hi : i < ds.length
  · rw [List.getElem?_append_left (by simpa using hi), List.getElem?_map] at e
    cases e1 : ds[i]? with
    | none => rw [e1] at e; cases e
    | some d' =>
      rw [e1] at e; cases e
      obtain ⟨x, h1, h2⟩ := RL.get r e1
      refine ⟨x, ?_, h2⟩
      unfold L2.start
      rw [List.getElem?_append_left (by simp; omega), List.getElem?_map, h1]; rfl
  · rw [List.getElem?_append_right (by simpa using hi)] at e
    rw [List.getElem?_replicate] at e
    split at e <;> cases e
section
variable {P : Program} {w : World} {K : PySem.W.Frag} {mg : Str → Option Value} {base : Heap}
/-- THE RULE for a def, over data -/
theorem fnD {x qual : Str} {st : Stmt} {f : Addr} {fd : FuncData} {N ps : List Str} {k n0 : Nat} {S : Pm} (F : Fun K x qual st f fd) (Sc : FnScope N ps (defScope st))
    (hbody : ∀ (cdv : Value) (A : Around) (outer : List PySem.Env) (s : Shared) (H : Hp) (E : XK), Room k (A.deeper (envOfC qual (defScope st) s.heap.objs.size f cdv)) →
      ∃ ts, PSDs (cxOf CX0 P w K mg base N qual (defScope st) f cdv A outer s H E).nox (defBody st) ts ∧
        ∀ c ds Φ, c.length = n0 → ds.length = ps.length → S c ds Φ → ts ⟨fun _ c' => retD n0 Φ .non c', retD n0 Φ, fun _ _ => False, fun _ _ => False⟩ (startD N ds) c) :
    FnOk P w K mg base CX0 (k + 1) f fd ps (spD K n0 ps.length S) := by
  refine F.ok Sc (fun vs H Q E h => ?_) (fun cdv A outer s H vs Q E hr h => ?_)
  · obtain ⟨m, c, ds, Φ, h1, h2, C, r, _⟩ := h
    rw [← RL.length r]; exact h2
  · obtain ⟨m, c, ds, Φ, h1, h2, C, r, hS, q⟩ := h
    obtain ⟨ts, hp, ht⟩ := hbody cdv A outer s H E hr
    have hn : m.ix.length = n0 := by rw [C.len]; exact h1
    exact ⟨_, hp, m, startD N ds, c, _, start_slots C r, ht c ds Φ h1 h2 hS, fun σ' H' m' ρ' c' h' S' l => ret_ok hn q h' S'.cr rfl l, fun d c' v H' m' h' C' r' l => ret_ok hn q h' C' r' l, fun _ _ _ _ _ z => z.elim, fun _ _ _ _ _ z => z.elim⟩
end

/-! ### calls -/
/-- nothing that may change is handed in -/
def callP (S : Pm) (ds : List D) (c : List Cell) (Φ : D → List Cell → Prop) : Prop := okDs 0 ds = true ∧ S [] ds fun d _ => Φ d c
/-- the first argument is a mutable object -/
def callM (S : Pm) (ds : List D) (c : List Cell) (Φ : D → List Cell → Prop) : Prop := match ds with
  | .cell k :: r => ∃ ce, c[k]? = some ce ∧ okC 0 ce = true ∧ okDs 0 r = true ∧ S [ce] (.cell 0 :: r) fun d c' => match c' with
    | [ce'] => okC 0 ce' = true ∧ okD 0 d = true ∧ Φ d (c.set k ce')
    | _ => False
  | _ => False
section
variable {K : PySem.W.Frag} {m : Ad} {H : Hp} {c : List Cell}
def Ad.none (m : Ad) : Ad := ⟨[], m.hd ++ m.ix⟩
theorem hid_none (m : Ad) (H : Hp) : hid m.none H = hid m H := by
  funext b
  unfold hid Ad.none
  by_cases h : b ∈ m.ix
  · simp [h]
  · by_cases h2 : b ∈ m.hd <;> simp [h, h2]
theorem sp_pure {S : Pm} {np : Nat} {ds : List D} {vs : List V} {Φ : D → List Cell → Prop} {Q : VK} {E : XK} (C : CR K H m c) (r : RRL K H m ds vs) (hl : ds.length = np) (h : callP S ds c Φ) (q : KQ K H m Φ Q) : spD K 0 np S vs H Q E := by
  obtain ⟨ok, hS⟩ := h
  have hall : ∀ b ∈ m.hd ++ m.ix, ∃ o, H b = some o ∧ Mu o := fun b hb => by
    rcases List.mem_append.mp hb with z | z
    · exact C.hs b z
    · obtain ⟨k, hk⟩ := List.mem_iff_getElem?.mp z
      obtain ⟨ce, _, h2⟩ := C.some_at hk
      exact h2.mu
  have C0 : CR K H m.none [] := ⟨rfl, List.nodup_nil, fun k ce e => by simp at e, hall, fun a ha => by cases ha⟩
  refine ⟨m.none, [], ds, _, rfl, hl, C0, ?_, hS, fun d c' w H' hd C' r' l => ?_⟩
  · show RL K [] (hid m.none H) ds vs
    rw [hid_none]
    exact RL.low (n := 0) (Ex.refl _) (fun k a hk => absurd hk (Nat.not_lt_zero _)) ds vs ok r
  · have hex : Ex (hid m H) (hid m H') := by
      have := l.ex
      rw [hid_none, hid_none] at this
      exact this
    have keep : ∀ b, b ∈ m.hd ∨ b ∈ m.ix → H' b = H b := fun b hb => l.hk b (List.mem_append.mpr hb)
    have l' : Le m H m H' := ⟨fun _ _ e => e, hex, rfl, fun b hb => keep b (.inl hb), fun _ h => .inl h, l.al⟩
    refine q d c w H' m hd ⟨C.len, C.nd, fun k ce e => ?_, fun b hb => ?_, C.dj⟩ ?_ l'
    · obtain ⟨a, h1, h2⟩ := C.at_ k ce e
      exact ⟨a, h1, h2.step l' fun o e' => by rw [keep a (.inr (List.mem_of_getElem? h1))]; exact e'⟩
    · obtain ⟨o, e, e'⟩ := C.hs b hb
      exact ⟨o, by rw [keep b (.inl hb)]; exact e, e'⟩
    · have r2 : R K [] (hid m.none H') d w := r'
      rw [hid_none] at r2
      exact R.mono (Ex.refl _) (fun k a e => by simp at e) d w r2
def Ad.one (m : Ad) (k : Nat) (a : Addr) : Ad := ⟨[a], m.hd ++ m.ix.eraseIdx k⟩
theorem hid_one {k : Nat} {a : Addr} (hk : m.ix[k]? = some a) (H : Hp) : hid (m.one k a) H = hid m H := by
  funext b
  unfold hid Ad.one
  have e : b ∈ m.ix ↔ b = a ∨ b ∈ m.ix.eraseIdx k := by
    obtain ⟨hlt, he⟩ := List.getElem?_eq_some_iff.mp hk
    constructor
    · intro h
      by_cases hb : b = a
      · exact .inl hb
      · refine .inr ?_
        rw [List.mem_eraseIdx_iff_getElem?]
        obtain ⟨j, hj⟩ := List.mem_iff_getElem?.mp h
        exact ⟨j, fun z => by subst z; rw [hk] at hj; exact hb (Option.some.inj hj).symm, hj⟩
    · rintro (rfl | h)
      · exact List.mem_of_getElem? hk
      · exact List.mem_of_mem_eraseIdx h
  have e2 : (b ∈ [a] ∨ b ∈ m.hd ++ m.ix.eraseIdx k) ↔ (b ∈ m.ix ∨ b ∈ m.hd) := by
    rw [List.mem_singleton, List.mem_append, e]
    constructor
    · rintro (h | h | h)
      · exact .inl (.inl h)
      · exact .inr h
      · exact .inl (.inr h)
    · rintro ((h | h) | h)
      · exact .inl h
      · exact .inr (.inr h)
      · exact .inr (.inl h)
  by_cases h : b ∈ m.ix ∨ b ∈ m.hd
  · rw [if_pos (e2.mpr h), if_pos h]
  · rw [if_neg (fun z => h (e2.mp z)), if_neg h]
theorem sp_one {S : Pm} {np : Nat} {ds : List D} {vs : List V} {Φ : D → List Cell → Prop} {Q : VK} {E : XK} (C : CR K H m c) (r : RRL K H m ds vs) (hl : ds.length = np) (h : callM S ds c Φ) (q : KQ K H m Φ Q) : spD K 1 np S vs H Q E := by
  unfold callM at h
  cases ds with
  | nil => exact h.elim
  | cons d0 rest =>
    cases d0 <;> first | exact h.elim | skip
    rename_i k
    obtain ⟨v, vr, e1, ⟨a, hk, e2⟩, rr⟩ := r
    obtain ⟨ce, hce, ok1, ok2, hS⟩ := h
    subst e1; subst e2
    have hnd : a ∉ m.ix.eraseIdx k := fun z => by
      rw [List.mem_eraseIdx_iff_getElem?] at z
      obtain ⟨j, hj, hja⟩ := z
      have e1 := List.getElem?_eq_some_iff.mp hk
      have e2 := List.getElem?_eq_some_iff.mp hja
      exact hj ((List.getElem_inj C.nd).mp (e2.2.trans e1.2.symm))
    have hall : ∀ b ∈ m.hd ++ m.ix.eraseIdx k, ∃ o, H b = some o ∧ Mu o := fun b hb => by
      rcases List.mem_append.mp hb with z | z
      · exact C.hs b z
      · obtain ⟨j, hj⟩ := List.mem_iff_getElem?.mp (List.mem_of_mem_eraseIdx z)
        obtain ⟨ce, _, h2⟩ := C.some_at hj
        exact h2.mu
    obtain ⟨b, hb, hat⟩ := C.at_ k ce hce
    rw [hk] at hb; cases hb
    have low : ∀ (j : Nat) (x : Addr), j < 0 → m.ix[j]? = some x → (m.one k a).ix[j]? = some x := fun j x hj => absurd hj (Nat.not_lt_zero _)
    have hat1 : CellAt K (m.one k a) H a ce := by
      cases ce with
      | lst es => obtain ⟨xs, h3, h4⟩ := hat; exact ⟨xs, h3, by show RL K _ (hid (m.one k a) H) es xs; rw [hid_one hk]; exact RL.low (Ex.refl _) low es xs ok1 h4⟩
      | obj C' ns es => obtain ⟨dx, fs, h3, h4, h5⟩ := hat; exact ⟨dx, fs, h3, h4, by show RL K _ (hid (m.one k a) H) es _; rw [hid_one hk]; exact RL.low (Ex.refl _) low es _ ok1 h5⟩
      | dct ks es => obtain ⟨kvs, h3, h4, h5⟩ := hat; exact ⟨kvs, h3, h4, by show RL K _ (hid (m.one k a) H) es _; rw [hid_one hk]; exact RL.low (Ex.refl _) low es _ ok1 h5⟩
      | dcT ks es => obtain ⟨kvs, h3, h4, h5⟩ := hat; exact ⟨kvs, h3, h4, by show RL K _ (hid (m.one k a) H) es _; rw [hid_one hk]; exact RL.low (Ex.refl _) low es _ ok1 h5⟩
    have C0 : CR K H (m.one k a) [ce] := ⟨rfl, by simp [Ad.one], fun j ce' e => by
      have hj : j = 0 := by
        have := (List.getElem?_eq_some_iff.mp e).1
        simp at this; exact this
      subst hj
      simp at e; subst e
      exact ⟨a, rfl, hat1⟩, hall, fun x hx => by
        have : x = a := by simpa [Ad.one] using hx
        subst this
        intro z
        rcases List.mem_append.mp z with z | z
        · exact C.dj x (List.mem_of_getElem? hk) z
        · exact hnd z⟩
    refine ⟨m.one k a, [ce], .cell 0 :: rest, _, rfl, hl, C0, ⟨.ref a, vr, rfl, ⟨a, rfl, rfl⟩, ?_⟩, hS, fun d c' w H' hd C' r' l => ?_⟩
    · show RL K [a] (hid (m.one k a) H) rest vr
      rw [hid_one hk]
      exact RL.low (n := 0) (Ex.refl _) (fun k a hk => absurd hk (Nat.not_lt_zero _)) rest vr ok2 rr
    · cases c' with
      | nil => exact hd.elim
      | cons ce' t =>
        cases t with
        | cons _ _ => exact hd.elim
        | nil =>
          obtain ⟨ok3, ok4, hΦ⟩ := hd
          have hex : Ex (hid m H) (hid m H') := by
            have := l.ex
            rw [hid_one hk, hid_one hk] at this
            exact this
          have keep : ∀ b, b ∈ m.hd ∨ b ∈ m.ix.eraseIdx k → H' b = H b := fun b hb => l.hk b (List.mem_append.mpr hb)
          have l' : Le m H m H' := ⟨fun _ _ e => e, hex, rfl, fun b hb => keep b (.inl hb), fun _ h => .inl h, l.al⟩
          obtain ⟨b, hb, hat'⟩ := C'.at_ 0 ce' rfl
          cases hb
          have hat2 : CellAt K m H' a ce' := by
            cases ce' with
            | lst es => obtain ⟨xs, h3, h4⟩ := hat'; exact ⟨xs, h3, by have h4 : RL K _ (hid (m.one k a) H') es xs := h4; rw [hid_one hk] at h4; exact RL.low (n := 0) (Ex.refl _) (fun k a hk => absurd hk (Nat.not_lt_zero _)) es xs ok3 h4⟩
            | obj C' ns es => obtain ⟨dx, fs, h3, h5, h4⟩ := hat'; exact ⟨dx, fs, h3, h5, by have h4 : RL K _ (hid (m.one k a) H') es _ := h4; rw [hid_one hk] at h4; exact RL.low (n := 0) (Ex.refl _) (fun k a hk => absurd hk (Nat.not_lt_zero _)) es _ ok3 h4⟩
            | dct ks es => obtain ⟨kvs, h3, h5, h4⟩ := hat'; exact ⟨kvs, h3, h5, by have h4 : RL K _ (hid (m.one k a) H') es _ := h4; rw [hid_one hk] at h4; exact RL.low (n := 0) (Ex.refl _) (fun k a hk => absurd hk (Nat.not_lt_zero _)) es _ ok3 h4⟩
            | dcT ks es => obtain ⟨kvs, h3, h5, h4⟩ := hat'; exact ⟨kvs, h3, h5, by have h4 : RL K _ (hid (m.one k a) H') es _ := h4; rw [hid_one hk] at h4; exact RL.low (n := 0) (Ex.refl _) (fun k a hk => absurd hk (Nat.not_lt_zero _)) es _ ok3 h4⟩
          refine q d _ w H' m hΦ ⟨by rw [List.length_set]; exact C.len, C.nd, fun j ce2 e => ?_, fun b hb => ?_, C.dj⟩ ?_ l'
          · by_cases hj : k = j
            · subst hj
              rw [List.getElem?_set_self (by rw [← C.len]; exact (List.getElem?_eq_some_iff.mp hk).1)] at e
              cases e
              exact ⟨a, hk, hat2⟩
            · rw [List.getElem?_set_ne hj] at e
              obtain ⟨b, h1, h2⟩ := C.at_ j ce2 e
              refine ⟨b, h1, h2.step l' fun o e' => ?_⟩
              rw [keep b (.inr (by rw [List.mem_eraseIdx_iff_getElem?]; exact ⟨j, fun z => hj z.symm, h1⟩))]; exact e'
          · obtain ⟨o, e, e'⟩ := C.hs b hb
            exact ⟨o, by rw [keep b (.inl hb)]; exact e, e'⟩
          · have r2 : R K [a] (hid (m.one k a) H') d w := r'
            rw [hid_one hk] at r2
            exact R.low (n := 0) (Ex.refl _) (fun k a hk => absurd hk (Nat.not_lt_zero _)) d w ok4 r2
end
section
variable {X : Cx} {CX : CXT} {k np : Nat} {f C : Addr} {fd : FuncData} {ps : List Str} {S : Pm} {E : XK} {x : Str} {p pos apos : Pos} {e o : Expr} {es : List Expr} {ta : TD} {tas : TDs}
def dCallP (S : Pm) (np : Nat) (t : TDs) : TD := fun ρ c Φ => t ρ c fun ds c1 => ds.length = np ∧ callP S ds c1 Φ
def dCallM (S : Pm) (np : Nat) (t : TDs) : TD := fun ρ c Φ => t ρ c fun ds c1 => ds.length = np ∧ callM S ds c1 Φ
theorem pd_callP (F : FnOk X.prog X.w X.K X.mg X.base CX k f fd ps (spD X.K 0 np S)) (hr : Room k X.A) (hm : X.mg x = some (.ref f)) (hk : PySem.W.keepIn X.K (.ref f) = true) (hb : Binds X.K fd ps []) (hx : Passes CX X E)
    (ha : PDs X (e :: es) tas) (hg : Gl X x := by rfl) (hdb : (x == ("__debug__" : Str)) = false := by decide) (he : starEach (e :: es) X.env = (false, eval e X.env) :: starEach es X.env := by rfl) (hpl : (backTo pos (starEach es X.env)).any (·.1) = false := by rfl) :
    PD X (.Call (.Name x p) (e :: es) [] pos) (dCallP S np tas) := PE.imp (pe_call F hr hg hm hk hb .nil hx ha hdb he hpl) fun σ H Q ⟨m, ρ, c, Φ, S', h, q⟩ =>
    ⟨m, ρ, c, _, S', h, fun ds c1 vs H1 m1 ⟨hl, hc⟩ C1 R1 L1 => by show spD _ _ _ _ (_ ++ []) _ _ _; rw [List.append_nil]; exact sp_pure C1 R1 hl hc (KQ.le (K := X.K) q L1)⟩
theorem pd_callM (F : FnOk X.prog X.w X.K X.mg X.base CX k f fd ps (spD X.K 1 np S)) (hr : Room k X.A) (hm : X.mg x = some (.ref f)) (hk : PySem.W.keepIn X.K (.ref f) = true) (hb : Binds X.K fd ps []) (hx : Passes CX X E)
    (ha : PDs X (e :: es) tas) (hg : Gl X x := by rfl) (hdb : (x == ("__debug__" : Str)) = false := by decide) (he : starEach (e :: es) X.env = (false, eval e X.env) :: starEach es X.env := by rfl) (hpl : (backTo pos (starEach es X.env)).any (·.1) = false := by rfl) :
    PD X (.Call (.Name x p) (e :: es) [] pos) (dCallM S np tas) := PE.imp (pe_call F hr hg hm hk hb .nil hx ha hdb he hpl) fun σ H Q ⟨m, ρ, c, Φ, S', h, q⟩ =>
    ⟨m, ρ, c, _, S', h, fun ds c1 vs H1 m1 ⟨hl, hc⟩ C1 R1 L1 => by show spD _ _ _ _ (_ ++ []) _ _ _; rw [List.append_nil]; exact sp_one C1 R1 hl hc (KQ.le (K := X.K) q L1)⟩
end
end Cw

namespace Cw
open PySem PySem.Spec PyProof.Rows L2
/-! ### a module's constants -/
section
variable {X : Cx} {x : Str} {pos : Pos}
theorem pd_gs {z : Str} (h : ∃ t, X.mg x = some (.str z t)) (hg : Gl X x := by rfl) (hd : (x == ("__debug__" : Str)) = false := by decide) : PD X (.Name x pos) (dC (.str z)) := by
  obtain ⟨t, h⟩ := h
  exact pd_c (v := .str z) (pe_glob hg h ⟨_, rfl⟩ hd) fun _ _ => rfl
theorem pd_gi {z : Int} (h : ∃ t, X.mg x = some (.int z t)) (hg : Gl X x := by rfl) (hd : (x == ("__debug__" : Str)) = false := by decide) : PD X (.Name x pos) (dC (.int z)) := by
  obtain ⟨t, h⟩ := h
  exact pd_c (v := .int z) (pe_glob hg h ⟨_, rfl⟩ hd) fun _ _ => rfl
def TupK (K : PySem.W.Frag) (mg : Str → Option Value) (x : Str) (ys : List Str) : Prop := ∃ a, mg x = some (.ref a) ∧ ∀ H, SqT K H a (ys.map V.str)
theorem pd_gtt {ys : List Str} (h : TupK X.K X.mg x ys) (hg : Gl X x := by rfl) (hd : (x == ("__debug__" : Str)) = false := by decide) : PD X (.Name x pos) (dC (.tup (ys.map .str))) := by
  obtain ⟨a, h, hs⟩ := h
  exact pd_c (v := .ref a) (pe_glob hg h rfl hd) fun m H => ⟨a, _, rfl, hs H, rl_txts ys⟩
end
/-- a test whose answer is a letter -/
theorem bcase {P : Bool → Prop} (b : Bool) (h1 : b = true → P true) (h2 : b = false → P false) : P b := by cases b with | true => exact h1 rfl | false => exact h2 rfl
end Cw

namespace Cw
open PySem PySem.Spec PyProof.Rows L2
/-! ### isinstance -/
inductive Ty where
  | non | bl | int | str | tup | lst | ins (C : Addr)
def Ty.val : Ty → Value
  | .non => .type "NoneType"
  | .bl => .type "bool"
  | .int => .type "int"
  | .str => .type "str"
  | .tup => .type "tuple"
  | .lst => .type "list"
  | .ins C => .ref C
def tyD : D → Option Ty
  | .non => some .non
  | .bl _ => some .bl
  | .int _ => some .int
  | .str _ => some .str
  | .tup _ => some .tup
  | .lst _ => some .lst
  | .ins C _ _ => some (.ins C)
  | _ => none
/-- what the written part knows of an own class, for isinstance -/
structure ClsI (K : PySem.W.Frag) (C : Addr) : Prop where
  cl : Cls K C
  ha : PySem.W.findIn K (.ref C) "__class__" = some (some (.builtin "object.__class__"))
  hn : PySem.W.specialIn K (.builtin "object.__class__") "__get__" = some (some (.builtin "getset_descriptor.__get__"))
  tk : PySem.W.takesIn K (.builtin "object.__class__") = some true
  mr : PySem.W.mroIn K C (.type "object") = some true
/-- the answers g of isinstance(x, the class u) -/
structure IsiT (K : PySem.W.Frag) (u : Value) (g : Ty → Option Bool) : Prop where
  ok : ∀ t b, g t = some b → PySem.W.kitOne K t.val u = some b
  ins : ∀ C b, g (.ins C) = some b → ClsI K C
def fIsi (g : Ty → Option Bool) : F2
  | x, .raw _, c, Φ => ∃ t b, tyD x = some t ∧ g t = some b ∧ Φ (.bl b) c
  | _, _, _, _ => False
theorem l2_isi {K : PySem.W.Frag} {v0 : V} {u0 : Value} {g : Ty → Option Bool} (T : IsiT K u0 g) (cv : ClsV v0 u0) {x : D} {c : List Cell} {Φ : D → List Cell → Prop} {H : Hp} {m : Ad} {u : V} (C : CR K H m c) (r : W K H m x u) {Q : VK} (q : KQ K H m Φ Q)
    (h : fIsi g x (.raw v0) c Φ) : rIsi K [u, v0] H Q := by
  obtain ⟨t, b, e1, e2, h⟩ := h
  have z : TyX K H u t.val → rIsi K [u, v0] H Q := fun z => ⟨u, v0, t.val, u0, b, rfl, cv, z, T.ok t b e2, q.pure C h rfl⟩
  cases x <;> first | (cases e1; done) | skip
  · cases e1; cases (show u = _ from r); exact z (.base .non)
  · cases e1; cases (show u = _ from r); exact z (.base (.bl _))
  · cases e1; cases (show u = _ from r); exact z (.base (.int _))
  · cases e1; cases (show u = _ from r); exact z (.base (.str _))
  · cases e1
    obtain ⟨a, xs, rfl, h1, h2⟩ := r
    rcases ex_t (ex_hid m H) h1 with (h1 | ⟨o, h1⟩) | ⟨o, its, n, hk, hc, _⟩
    · exact z (.base (.tup h1))
    · exact z (.fTuple h1)
    · exact z (.kTuple hk hc)
  · cases e1
    obtain ⟨a, xs, rfl, h1, h2⟩ := r
    exact z (.base (.lst h1))
  · cases e1
    obtain ⟨a, dx, fs, rfl, h1, _⟩ := r
    have ci := T.ins _ b e2
    exact z (.base (.ins h1 ci.cl ci.ha ci.hn ci.tk ci.mr))
section
variable {X : Cx} {e e2 : Expr} {ta : TD} {pos pp : Pos}
theorem pd_isi {v0 : V} {u0 : Value} {g : Ty → Option Bool} (T : IsiT X.K u0 g) (cv : ClsV v0 u0) (ha : PD X e ta) (hb : PE X e2 (tC v0)) (hm : X.mg "isinstance" = none) (hg : Gl X "isinstance" := by rfl)
    (he : starEach [e, e2] X.env = (false, eval e X.env) :: starEach [e2] X.env := by rfl) (he2 : starEach [e2] X.env = (false, eval e2 X.env) :: starEach [] X.env := by rfl) (hpl : (backTo pos (starEach [e2] X.env)).any (·.1) = false := by rfl) :
    PD X (.Call (.Name "isinstance" pp) [e, e2] [] pos) (dBin (fIsi g) ta (dC (.raw v0))) :=
  PE.imp (pe_callB call_isi hg hm boot_isinstance (pds_cons ha (pds_cons (pd_c (d := .raw v0) hb fun _ _ => rfl) pds_nil he2) he) (by decide) (by decide) he hpl) fun σ H Q ⟨m, ρ, c, Φ, S, h, q⟩ =>
  ⟨m, ρ, c, (fun ds c1 => ∃ x, ds = [x, .raw v0] ∧ fIsi g (vw c1 x) (.raw v0) c1 Φ), S, (show ta ρ c fun x c1 => ∃ y, [x, .raw v0] = [y, .raw v0] ∧ fIsi g (vw c1 y) (.raw v0) c1 Φ by
    have e : (fun x c1 => ∃ y, [x, D.raw v0] = [y, .raw v0] ∧ fIsi g (vw c1 y) (.raw v0) c1 Φ) = fun x c1 => fIsi g (vw c1 x) (vw c1 (.raw v0)) c1 Φ := by
      funext x c1
      apply propext
      constructor
      · rintro ⟨y, e, h⟩; cases e; exact h
      · intro h; exact ⟨x, rfl, h⟩
    rw [e]; exact h), fun ds c1 vs H1 m1 ⟨x, e1, hx⟩ C1 R1 L1 => by
      subst e1
      obtain ⟨u, r, rfl, ru, v, r', rfl, rv, rr⟩ := R1
      cases (show r' = [] from rr)
      cases (show v = v0 from rv)
      exact l2_isi T cv C1 (W.vw C1 ru) (KQ.le q L1) hx⟩
end
def gStr : Ty → Option Bool
  | .str => some true
  | .ins _ => none
  | _ => some false
def gInt : Ty → Option Bool
  | .int => some true
  | .bl => some true
  | .ins _ => none
  | _ => some false
def gBool : Ty → Option Bool
  | .bl => some true
  | .ins _ => none
  | _ => some false
def gTup : Ty → Option Bool
  | .tup => some true
  | .ins _ => none
  | _ => some false
theorem isi_str {K : PySem.W.Frag} : IsiT K (.type "str") gStr := ⟨fun t b h => by cases t <;> cases h <;> exact kit_ty (by decide +kernel), fun C b h => by cases h⟩
theorem isi_int {K : PySem.W.Frag} : IsiT K (.type "int") gInt := ⟨fun t b h => by cases t <;> cases h <;> exact kit_ty (by decide +kernel), fun C b h => by cases h⟩
theorem isi_bool {K : PySem.W.Frag} : IsiT K (.type "bool") gBool := ⟨fun t b h => by cases t <;> cases h <;> exact kit_ty (by decide +kernel), fun C b h => by cases h⟩
theorem isi_tuple {K : PySem.W.Frag} : IsiT K (.type "tuple") gTup := ⟨fun t b h => by cases t <;> cases h <;> exact kit_ty (by decide +kernel), fun C b h => by cases h⟩
end Cw

namespace Cw
open PySem PySem.Spec PyProof.Rows L2

/-! ### a def that hands back a new list of flat items -/
abbrev Pn := List D → (List D → Prop) → Prop
def spN (K : PySem.W.Frag) (np : Nat) (S : Pn) : Sp := fun vs H Q _ => ∃ (m : Ad) (ds : List D) (Φ : List D → Prop), ds.length = np ∧ CR K H m [] ∧ RRL K H m ds vs ∧ S ds Φ ∧
  ∀ xs p ws H', Φ xs → xs.all flatD = true → CR K H' m [] → H p = none → H' p = some (.lst ws) → RRL K H' m xs ws → Le m H m H' → Q (.ref p) H'
def retN (Φ : List D → Prop) (d : D) (c : List Cell) : Prop := match d with
  | .cell k => ∃ xs, c[k]? = some (.lst xs) ∧ xs.all flatD = true ∧ Φ xs
  | _ => False
theorem flat_any {K : PySem.W.Frag} {ix ix' : List Addr} {H H' : Hp} : ∀ {ds : List D} {vs : List V}, ds.all flatD = true → RL K ix H ds vs → RL K ix' H' ds vs
  | [], _, _, h => h
  | d :: ds, _, f, ⟨x, r, e1, h1, h2⟩ => by
    rw [List.all_cons, Bool.and_eq_true] at f
    refine ⟨x, r, e1, ?_, flat_any f.2 h2⟩
    cases d <;> first | exact absurd (show false = true from f.1) Bool.false_ne_true | exact h1
theorem nil_of {K : PySem.W.Frag} {H : Hp} {m : Ad} (C : CR K H m []) : m.ix = [] := by
  have := C.len
  exact List.length_eq_zero_iff.mp this
section
variable {P : Program} {w : World} {K : PySem.W.Frag} {mg : Str → Option Value} {base : Heap}
theorem fnN {x qual : Str} {st : Stmt} {f : Addr} {fd : FuncData} {N ps : List Str} {k : Nat} {S : Pn} (F : Fun K x qual st f fd) (Sc : FnScope N ps (defScope st))
    (hbody : ∀ (cdv : Value) (A : Around) (outer : List PySem.Env) (s : Shared) (H : Hp) (E : XK), Room k (A.deeper (envOfC qual (defScope st) s.heap.objs.size f cdv)) →
      ∃ ts, PSDs (cxOf CX0 P w K mg base N qual (defScope st) f cdv A outer s H E).nox (defBody st) ts ∧
        ∀ ds Φ, ds.length = ps.length → S ds Φ → ts ⟨fun _ _ => False, retN Φ, fun _ _ => False, fun _ _ => False⟩ (startD N ds) []) :
    FnOk P w K mg base CX0 (k + 1) f fd ps (spN K ps.length S) := by
  refine F.ok Sc (fun vs H Q E h => ?_) (fun cdv A outer s H vs Q E hr h => ?_)
  · obtain ⟨m, ds, Φ, h2, C, r, _⟩ := h
    rw [← RL.length r]; exact h2
  · obtain ⟨m, ds, Φ, h2, C, r, hS, q⟩ := h
    obtain ⟨ts, hp, ht⟩ := hbody cdv A outer s H E hr
    refine ⟨_, hp, m, startD N ds, [], _, start_slots C r, ht ds Φ h2 hS, fun _ _ _ _ _ z => z.elim, fun d c' v H' m' h' C' r' l => ?_, fun _ _ _ _ _ z => z.elim, fun _ _ _ _ _ z => z.elim⟩
    unfold retN at h'
    cases d <;> first | exact h'.elim | skip
    rename_i j
    obtain ⟨xs, h3, h4, h5⟩ := h'
    obtain ⟨a, h6, rfl⟩ := r'
    obtain ⟨b, h7, ws, h8, h9⟩ := C'.at_ j _ h3
    rw [h6] at h7; cases h7
    have hix := nil_of C
    have fresh : H a = none := (l.fr a (List.mem_of_getElem? h6)).elim (fun z => by rw [hix] at z; cases z) id
    have l' : Le m H m H' := ⟨fun _ _ e => e, l.ex.trans (ex_cut l.pre l.hd), rfl, l.hk, fun _ h => .inl h, l.al⟩
    exact q xs a ws H' h5 h4 ⟨by rw [hix]; rfl, C.nd, fun k ce e => by simp at e, fun b hb => C'.hs b (by rw [l.hd]; exact hb), C.dj⟩ fresh h8 (flat_any h4 h9) l'
end
section
variable {K : PySem.W.Frag} {m : Ad} {H : Hp} {c : List Cell}
theorem hall (C : CR K H m c) : ∀ b ∈ m.hd ++ m.ix, ∃ o, H b = some o ∧ Mu o := fun b hb => by
  rcases List.mem_append.mp hb with z | z
  · exact C.hs b z
  · obtain ⟨k, hk⟩ := List.mem_iff_getElem?.mp z
    obtain ⟨ce, _, h2⟩ := C.some_at hk
    exact h2.mu
theorem Le.of_none {H' : Hp} (l : Le m.none H m.none H') : Le m H m H' := by
  have hex : Ex (hid m H) (hid m H') := by
    have := l.ex
    rw [hid_none, hid_none] at this
    exact this
  exact ⟨fun _ _ e => e, hex, rfl, fun b hb => l.hk b (List.mem_append_left _ hb), fun _ h => .inl h, l.al⟩
theorem CR.of_none {H' : Hp} (C : CR K H m c) (l : Le m.none H m.none H') : CR K H' m c := by
  have l' := l.of_none
  refine ⟨C.len, C.nd, fun k ce e => ?_, fun b hb => ?_, C.dj⟩
  · obtain ⟨a, h1, h2⟩ := C.at_ k ce e
    exact ⟨a, h1, h2.step l' fun o e' => by rw [l.hk a (List.mem_append_right _ (List.mem_of_getElem? h1))]; exact e'⟩
  · obtain ⟨o, e, e'⟩ := C.hs b hb
    exact ⟨o, by rw [l'.hk b hb]; exact e, e'⟩
theorem sp_new {S : Pn} {np : Nat} {ds : List D} {vs : List V} {Φ : D → List Cell → Prop} {Q : VK} {E : XK} (C : CR K H m c) (r : RRL K H m ds vs) (hl : ds.length = np) (ok : okDs 0 ds = true) (hS : S ds fun xs => Φ (.cell c.length) (c ++ [.lst xs])) (q : KQ K H m Φ Q) : spN K np S vs H Q E := by
  have C0 : CR K H m.none [] := ⟨rfl, List.nodup_nil, fun k ce e => by simp at e, hall C, fun a ha => by cases ha⟩
  refine ⟨m.none, ds, _, hl, C0, ?_, hS, fun xs p ws H' hd hf C' hp hp' r' l => ?_⟩
  · show RL K [] (hid m.none H) ds vs
    rw [hid_none]
    exact RL.low (n := 0) (Ex.refl _) (fun k a hk => absurd hk (Nat.not_lt_zero _)) ds vs ok r
  · have l' := l.of_none
    have C1 := C.of_none l
    have hn := hid_new hp C
    have ex1 : Ex (hid m H) (hid (m.push p) H') := fun b o e => by
      have e1 := l'.ex b o e
      obtain ⟨⟨h1, h2⟩, h3⟩ := hid_some e1
      rw [hid_of (m := m.push p) ⟨fun z => ?_, h2⟩]
      · exact h3
      · rcases List.mem_append.mp (show b ∈ m.ix ++ [p] from z) with z | z
        · exact h1 z
        · have : b = p := by simpa using z
          subst this
          have := (hid_some e).2
          rw [hp] at this; cases this
    have l2 : Le m H (m.push p) H' := ⟨push_pre, ex1, rfl, l'.hk, fun a ha => (List.mem_append.mp (show a ∈ m.ix ++ [p] from ha)).elim .inl fun z => .inr (by
      have : a = p := by simpa using z
      subst this; exact hp), l'.al⟩
    have last : (m.push p).ix[c.length]? = some p := by
      show (m.ix ++ [p])[c.length]? = some p
      rw [← C.len]; simp
    refine q (.cell c.length) _ (.ref p) H' (m.push p) hd ⟨by simp [Ad.push, C.len], ?_, fun k ce e => ?_, fun b hb => C1.hs b hb, fun a ha => ?_⟩ ⟨p, last, rfl⟩ l2
    · show (m.ix ++ [p]).Nodup
      rw [List.nodup_append]
      refine ⟨C.nd, by simp, fun a ha b hb e => ?_⟩
      have : b = p := by simpa using hb
      subst this; subst e
      exact hn.1 ha
    · by_cases hk : k < c.length
      · rw [List.getElem?_append_left hk] at e
        obtain ⟨a, h1, h2⟩ := C.at_ k ce e
        refine ⟨a, push_pre k a h1, h2.step l2 fun o' e' => ?_⟩
        rw [l.hk a (List.mem_append_right _ (List.mem_of_getElem? h1))]; exact e'
      · have hk' : k = c.length := by
          have := (List.getElem?_eq_some_iff.mp e).1
          simp at this; omega
        subst hk'
        simp at e; subst e
        exact ⟨p, last, ws, hp', flat_any hf r'⟩
    · rcases List.mem_append.mp (show a ∈ m.ix ++ [p] from ha) with z | z
      · exact C.dj a z
      · have : a = p := by simpa using z
        subst this
        exact hn.2
end
section
variable {X : Cx} {CX : CXT} {k np : Nat} {f C fI : Addr} {fd : FuncData} {ps : List Str} {S : Pm} {Sn : Pn} {E : XK} {x : Str} {p pos apos : Pos} {e o : Expr} {es : List Expr} {ta tv : TD} {tas : TDs}
def dCallN (S : Pn) (np : Nat) (t : TDs) : TD := fun ρ c Φ => t ρ c fun ds c1 => ds.length = np ∧ okDs 0 ds = true ∧ S ds fun xs => Φ (.cell c1.length) (c1 ++ [.lst xs])
theorem pd_callN (F : FnOk X.prog X.w X.K X.mg X.base CX k f fd ps (spN X.K np Sn)) (hr : Room k X.A) (hm : X.mg x = some (.ref f)) (hk : PySem.W.keepIn X.K (.ref f) = true) (hb : Binds X.K fd ps []) (hx : Passes CX X E)
    (ha : PDs X (e :: es) tas) (hg : Gl X x := by rfl) (hdb : (x == ("__debug__" : Str)) = false := by decide) (he : starEach (e :: es) X.env = (false, eval e X.env) :: starEach es X.env := by rfl) (hpl : (backTo pos (starEach es X.env)).any (·.1) = false := by rfl) :
    PD X (.Call (.Name x p) (e :: es) [] pos) (dCallN Sn np tas) := PE.imp (pe_call F hr hg hm hk hb .nil hx ha hdb he hpl) fun σ H Q ⟨m, ρ, c, Φ, S', h, q⟩ =>
    ⟨m, ρ, c, _, S', h, fun ds c1 vs H1 m1 ⟨hl, ok, hc⟩ C1 R1 L1 => by show spN _ _ _ (_ ++ []) _ _ _; rw [List.append_nil]; exact sp_new C1 R1 hl ok hc (KQ.le (K := X.K) q L1)⟩

/-! ### objects: attributes, properties, the making -/
def lookF (f : Str) : List Str → List D → Option D
  | n :: ns, d :: ds => if f = n then some d else lookF f ns ds
  | _, _ => none
theorem lookF_at {K : PySem.W.Frag} {m : List Addr} {H : Hp} {f : Str} : ∀ {ns : List Str} {ds : List D} {fs : List (Str × V)} {d : D}, fs.map (·.1) = ns → RL K m H ds (fs.map (·.2)) → lookF f ns ds = some d → ∃ v, fs.lookup f = some v ∧ R K m H d v
  | n :: ns, d0 :: ds, (a, v) :: fs, d, e1, ⟨x, r, e2, h1, h2⟩, e => by
    simp only [List.map_cons, List.cons.injEq] at e1 e2
    obtain ⟨rfl, e1⟩ := e1
    obtain ⟨rfl, rfl⟩ := e2
    unfold lookF at e
    by_cases hf : f = a
    · rw [if_pos hf] at e; cases e
      exact ⟨v, by rw [hf]; simp [List.lookup], h1⟩
    · rw [if_neg hf] at e
      obtain ⟨u, h3, h4⟩ := lookF_at e1 h2 e
      refine ⟨u, ?_, h4⟩
      have hb : (f == a) = false := by simpa using hf
      simp only [List.lookup, hb]; exact h3
  | [], _, _, _, _, _, e => by simp [lookF] at e
  | _ :: _, [], _, _, _, _, e => by simp [lookF] at e
  | _ :: _, _ :: _, [], _, e1, _, _ => by simp at e1
/-- o.f of an object of the class at C -/
def dFld (C : Addr) (f : Str) (ta : TD) : TD := fun ρ c Φ => ta ρ c fun x c1 => match vw c1 x with
  | .ins C' ns ds => C' = C ∧ ∃ d, lookF f ns ds = some d ∧ Φ d c1
  | _ => False
theorem pd_fld {f : Str} (cl : Cls X.K C) (na : NoAttr X.K C f) (h : PD X e ta) (hb : attributeBase e f X.env (eval e X.env) = eval e X.env := by rfl) : PD X (.Attribute e f pos) (dFld C f ta) :=
  PE.imp (pe_fld h hb) fun σ H Q ⟨m, ρ, c, Φ, S, h, q⟩ =>
  ⟨m, ρ, c, _, S, h, fun x c1 u H1 m1 hx C1 R1 L1 => by
    have w := W.vw C1 R1
    revert hx w
    generalize vw c1 x = x'
    intro hx w
    cases x' <;> first | exact hx.elim | skip
    obtain ⟨rfl, d, hd, hΦ⟩ := hx
    obtain ⟨a, dx, fs, rfl, h1, h2, h3⟩ := w
    obtain ⟨v, h4, h5⟩ := lookF_at h2 h3 hd
    exact ⟨a, _, dx, fs, v, rfl, h1, cl, na, h4, q d c1 v H1 m1 hΦ C1 h5 L1⟩⟩
/-- o.f = e, o a mutable object -/
def setF (f : Str) (d : D) : List Str → List D → List Str × List D
  | n :: ns, x :: ds => if n = f then (n :: ns, d :: ds) else ((n :: (setF f d ns ds).1), (x :: (setF f d ns ds).2))
  | _, _ => ([f], [d])
theorem setF_at {K : PySem.W.Frag} {m : List Addr} {H : Hp} {f : Str} {d : D} {v : V} (r : R K m H d v) : ∀ {ns : List Str} {ds : List D} {fs : List (Str × V)}, fs.map (·.1) = ns → RL K m H ds (fs.map (·.2)) → (putF f v fs).map (·.1) = (setF f d ns ds).1 ∧ RL K m H (setF f d ns ds).2 ((putF f v fs).map (·.2))
  | [], ds, fs, e1, h => by
    have : fs = [] := by simpa using e1
    subst this
    exact ⟨rfl, v, [], rfl, r, rfl⟩
  | n :: ns, [], fs, e1, h => by
    have : fs = [] := List.map_eq_nil_iff.mp h
    subst this
    simp at e1
  | n :: ns, x :: ds, [], e1, _ => by simp at e1
  | n :: ns, x :: ds, (a, u) :: fs, e1, ⟨y, r', e2, h1, h2⟩ => by
    simp only [List.map_cons, List.cons.injEq] at e1 e2
    obtain ⟨rfl, e1⟩ := e1
    obtain ⟨rfl, rfl⟩ := e2
    have ih := setF_at (f := f) r e1 h2
    rw [show putF f v ((a, u) :: fs) = (if a = f then (a, v) :: fs else (a, u) :: putF f v fs) from rfl]
    unfold setF
    by_cases hf : a = f
    · rw [if_pos hf, if_pos hf]
      exact ⟨by simp [e1], v, _, rfl, r, h2⟩
    · rw [if_neg hf, if_neg hf]
      exact ⟨by simp [ih.1], u, _, rfl, h1, ih.2⟩
def dStF (C : Addr) (f : Str) (ta tv : TD) : TSD := fun De ρ c => tv ρ c fun d c1 => ta ρ c1 fun x c2 => ∃ k ns ds, x = .cell k ∧ c2[k]? = some (.obj C ns ds) ∧ ns.length < 1000 ∧ De.nx ρ (c2.set k (.obj C (setF f d ns ds).1 (setF f d ns ds).2))
theorem psd_stf {f : Str} {value : Expr} {pos' : Pos} (cl : Cls X.K C) (na : NoAttr X.K C f) (ha : PD X o ta) (hv : PD X value tv) (hs : swapsWith value (some (.Attribute o f pos')) pos.line X.env = pure false := by rfl) : PSD X (.Assign [.Attribute o f pos'] value pos) (dStF C f ta tv) :=
  PS.imp (ps_fld ha hv hs) fun Dn σ H ⟨m, ρ, c, De, S, h, n, r, b, k⟩ =>
  ⟨m, ρ, c, _, S, h, fun d c1 y H1 m1 hx C1 R1 L1 => ⟨m1, ρ, c1, _, S.step L1 C1, hx, fun x c2 u H2 m2 hy C2 R2 L2 => by
    obtain ⟨j, ns, ds, rfl, h1, h2, h3⟩ := hy
    obtain ⟨a, h4, rfl⟩ := R2
    obtain ⟨a', h5, dx, fs, h6, h7, h8⟩ := C2.at_ j _ h1
    rw [h4] at h5; cases h5
    have hm : a ∈ m2.ix := List.mem_of_getElem? h4
    have z1 := setF_at (f := f) (L2.r R1) h7 h8
    have z := cell_put (o := .ins C dx (putF f y fs)) (ce := .obj C (setF f d ns ds).1 (setF f d ns ds).2) C2 h4 ⟨dx, _, upd_same, z1.1, by show RL _ _ (hid m2 _) _ _; rw [hid_mut hm]; exact z1.2⟩
    exact ⟨a, C, dx, fs, rfl, h6, cl, na, by rw [← List.length_map (f := (·.1)), h7]; exact h2, n σ _ m2 ρ _ h3 ((S.step (L1.trans L2) C2).step z.2 z.1) ((L1.trans L2).trans z.2)⟩⟩⟩
/-- o.p, a property of the class at C -/
def dProp (C : Addr) (S : Pm) (ta : TD) : TD := fun ρ c Φ => ta ρ c fun x c1 => (∃ ns ds, x = .ins C ns ds) ∧ callP S [x] c1 Φ
theorem pd_prop {f : Str} {pn : Addr} {g : Addr} (cl : Cls X.K C) (hp : PropOf X.K C f pn g) (F : FnOk X.prog X.w X.K X.mg X.base CX k g fd ps (spD X.K 0 1 S)) (hr : Room (k + 1) X.A) (hb : Binds X.K fd ps []) (hx : Passes CX X.nox E) (h : PD X e ta)
    (hbs : attributeBase e f X.env (eval e X.env) = eval e X.env := by rfl) : PD X (.Attribute e f pos) (dProp C S ta) :=
  PE.imp (pe_prop h cl hp F hr hb .nil hx hbs) fun σ H Q ⟨m, ρ, c, Φ, S', h, q⟩ =>
  ⟨m, ρ, c, _, S', h, fun x c1 u H1 m1 hx C1 R1 L1 => by
    obtain ⟨⟨ns, ds, rfl⟩, hc⟩ := hx
    obtain ⟨a, dx, fs, rfl, h1, h2, h3⟩ := W.of R1
    have r1 : RRL X.K H1 m1 [.ins C ns ds] [.ref a] := by
      show RL _ _ _ [_] [_]
      exact ⟨.ref a, [], rfl, R1, rfl⟩
    exact ⟨a, dx, fs, rfl, h1, sp_pure C1 r1 rfl hc (KQ.le (K := X.K) q L1)⟩⟩
end
end Cw

namespace Cw
open PySem PySem.Spec PyProof.Rows L2

/-! ### own ==, !=, len, str and truth of an object -/
section
variable {prog : Program} {w : World} {A : Around} {E : Value → Shared → Prop} {s : Shared} {K : PySem.W.Frag} {x C f : Addr} {ox : Obj} {od : Option Obj} {b : Value}
open Builtin in
theorem ne_body {Q : Value → Shared → Prop} (hu : A.in1.units < cLine) (X : K.In s.heap) (I : PySem.W.InstAt s.heap x ox C od) (hm : PySem.W.mroIn K C (.type "object") = some true)
    (hs : PySem.W.findIn K (.ref C) "__eq__" = some (some (.ref f))) (hf : PySem.W.isFn K (.ref f) = true)
    (h : wpAny (model prog w) A.in1 (call (.ref f) [.ref x, b]) (fun v s' => ∃ k, v = .bool k ∧ Q (.bool (!k)) s') E s) : wpAny (model prog w) A (call (.builtin "object.__ne__") [.ref x, b]) Q E s := by
  refine wpAny_call (codeAny_call_builtin PySem.F.slot_object_ne.plain PySem.F.cmpEntry_ne (PySem.W.check_slot (i := "object.__ne__") (owner := "object") (n := "__ne__") (by decide +kernel) (by decide +kernel) (I.type.andThen (PySem.W.looks_mroIn X hm)) (PySem.F.cmpArgs_ne _ _) ?_))
  unfold Builtin.«object.__ne__»
  refine wpAny_bind (m := slotArgs "__ne__" 1 _) (wpAny_pure ?_)
  refine wpAny_bind (m := cRoomFor _ _) (wpAny_cRoomFor hu ?_)
  refine wpAny_bind (m := callSpecialIfBound? (.ref x) (Str.ofString "__eq__") _) (PySem.W.ifBound_K X I hs hf (wpAny_mono h (fun r s' hr => ?_) fun _ _ y => y))
  obtain ⟨k, rfl, hq⟩ := hr
  exact wpAny_bind (wpAny_truthy_bool (wpAny_pure hq))
theorem ne_K {Q : Value → Shared → Prop} {D : Value} (hu : A.in1.units < cLine) (X : K.In s.heap) (I : PySem.W.InstAt s.heap x ox C od) (hb : PySem.W.Looks (model prog w) s.heap (typeOf b) (.ref C)) (hm : PySem.W.mroIn K C (.type "object") = some true)
    (hn : PySem.W.findIn K (.ref C) "__ne__" = some (some (.builtin "object.__ne__"))) (hs : PySem.W.findIn K (.ref C) "__eq__" = some (some (.ref f))) (hf : PySem.W.isFn K (.ref f) = true)
    (h : wpAny (model prog w) A.in1 (call (.ref f) [.ref x, b]) (fun v s' => ∃ k, v = .bool k ∧ Q (.bool (!k)) s') E s) : wpAny (model prog w) A (richCompare .NotEq (.ref x) b) Q E s := by
  have one : wpAny (model prog w) A (tryCompare (.ref x) "__ne__" b) (fun r s' => ∃ v, r = some v ∧ Q v s') E s := by
    unfold tryCompare
    refine wpAny_bind (NtL.csib (I.type.andThen (PySem.W.looks_findIn X hn)) (PySem.F.slot_object_ne.bind _) (wpAny_mono (ne_body hu X I hm hs hf (Q := fun v s' => ∃ k, v = .bool k ∧ Q v s') (wpAny_mono h (fun v s' hv => ?_) fun _ _ e => e)) (fun v s' hv => ?_) fun _ _ e => e))
    · obtain ⟨k, rfl, q⟩ := hv
      exact ⟨k, rfl, _, rfl, q⟩
    · obtain ⟨k, rfl, q⟩ := hv
      exact wpAny_pure ⟨_, rfl, q⟩
  have hu0 : A.units < cLine := Nat.lt_of_succ_lt hu
  unfold richCompare
  simp only [oneThing_ref]
  refine wpAny_holding (wpAny_bind (wpAny_cRoomFor hu0 ?_))
  refine wpAny_bind (I.type.here (wpAny_bind (hb.here ?_)))
  rw [show (Value.ref C != Value.ref C) = false from by simp]
  simp only [Bool.false_eq_true, if_false]
  refine wpAny_bind (wpAny_pure ?_)
  simp only [Bool.false_eq_true, if_false]
  rw [show (cmpInfo .NotEq).2.1 = ("__ne__" : Str) from rfl]
  refine wpAny_bind (wpAny_mono one (fun r s' z => ?_) fun _ _ e => e)
  obtain ⟨v, rfl, hq⟩ := z
  exact wpAny_pure hq
open Builtin in
theorem tru_K {Q : Bool → Shared → Prop} (X : K.In s.heap) (I : PySem.W.InstAt s.heap x ox C od) (hs : PySem.W.findIn K (.ref C) "__bool__" = some none) (hl : PySem.W.findIn K (.ref C) "__len__" = some (some (.ref f))) (hf : PySem.W.isFn K (.ref f) = true)
    (h : wpAny (model prog w) A.in1 (call (.ref f) [.ref x]) (PySem.W.LenBack fun v s' => ∃ n t, v = .int n t ∧ Q (n != 0) s') E s) : wpAny (model prog w) A (truthy (.ref x)) Q E s := by
  unfold truthy
  refine wpAny_bind (m := callSpecial? (.ref x) (Str.ofString "__bool__")) (wpAny_bind (wpAny_bind (I.type.here ((PySem.W.looks_findIn X hs).here (wpAny_pure ?_)))))
  refine wpAny_bind (wpAny_bind (I.type.here ((PySem.W.looks_findIn X hl).here ?_)))
  show wpAny _ _ (if (some (Value.ref f)).isNone = true then _ else _) _ _ _
  rw [if_neg (by simp)]
  refine wpAny_bind (PyProof.Rows.runValue_entry entry_len ?_)
  rw [Around.under_plainId plain_len _]
  unfold Builtin.«len»
  refine wpAny_bind (m := oneArg "len" _) (wpAny_pure ?_)
  refine wpAny_bind (m := callSpecial? (.ref x) (Str.ofString "__len__")) (PySem.W.special_fn X I hl (beq_iff_eq.mp hf) (wpAny_mono h (fun r s' hr => ?_) fun _ _ y => y))
  cases r <;> first | exact hr.elim | skip
  rename_i n u
  obtain ⟨⟨h0, h1⟩, n', t, e, hq⟩ := hr
  cases e
  refine wpAny_bind (wpAny_holding (wpAny_pure ?_))
  refine wpAny_bind (wpAny_letGo ?_)
  show wpAny _ _ (if n < 0 then _ else _) _ _ _
  rw [if_neg (by omega)]
  show wpAny _ _ (if n ≥ 2 ^ 63 then _ else _) _ _ _
  rw [if_neg (by omega)]
  exact wpAny_bind (wpAny_mkInt (wpAny_pure ⟨_, rfl, wpAny_pure hq⟩))
end

theorem type_bool : isType (.type "bool") = pure true := by first | rfl | kernel_rfl | (unfold isType; rw [isSubtype_type]; kernel_rfl)
open Builtin in
theorem bool_tru {prog : Program} {w : World} {A : Around} {E : Value → Shared → Prop} {s : Shared} {x : Value} {Q : Value → Shared → Prop} (h : wpAny (model prog w) A.in1.in1 (truthy x) (fun b s' => Q (.bool b) s') E s) : wpAny (model prog w) A (call (.type "bool") [x]) Q E s := by
  refine callType_codes (T := "bool") (Bi := Builtin.«object.__init__») (Q₁ := fun r s₁ => ∃ b, r = .bool b ∧ Q r s₁) PySem.F.called_bool (PySem.F.typeCall_bool_1 _) PySem.F.entry_object_init ?_ ?_
  · refine codeAny_of_tree ?_
    show wpAny _ A.in1.in1 (do checkBuiltinCall "bool.__new__" ⟨[.type "bool", x], []⟩; again (.builtin "bool.__new__" ⟨[.type "bool", x], []⟩)) _ _ s
    refine wpAny_bind (wpAny_of_eq (PySem.F.newCall_bool_1 _) (wpAny_pure ⟨plainId_quiet (by decide +kernel) _, codeAny_builtin PySem.F.entry_bool_new ?_⟩))
    rw [Around.under_plainId (by decide +kernel) _]
    unfold Builtin.«bool.__new__»
    refine wpAny_bind (wpAny_of_eq (a := true) type_bool ?_)
    refine PySem.W.KFB.if_not rfl ?_
    refine wpAny_bind (wpAny_of_eq (a := true) PySem.F.conv_sub_bool ?_)
    refine PySem.W.KFB.if_not rfl ?_
    refine wpAny_bind (m := someArgs "bool" 0 1 _) (wpAny_pure ?_)
    refine wpAny_bind (wpAny_mono h (fun b s' q => ?_) fun _ _ e => e)
    exact wpAny_pure ⟨b, rfl, q⟩
  · rintro obj s₁ ⟨b, rfl, hq⟩
    exact ⟨PySem.typeIs_bool _ _, PySem.F.args_object_init_2 _ _, object_init_meets PySem.F.called_bool.init.lookup PySem.F.called_bool.made (by decide) prog w A.in1 _ s₁ ⟨PySem.typeIs_bool _ _, rfl, hq⟩⟩
section
variable {X : Cx} {CX : CXT} {k : Nat} {C f : Addr} {fd : FuncData} {ps : List Str} {sp : Sp} {E : XK} {pos : Pos} {pins : List (Addr × Obj)} {σ : L2.St} {H : Hp} {s : Shared} {Q : VK} {vs : List V} {us : List Value}
theorem v1 (a : Addr) : Vals [V.ref a] [Value.ref a] := .cons rfl .nil
theorem v2 (a b : Addr) : Vals [V.ref a, V.ref b] [Value.ref a, Value.ref b] := .cons rfl (.cons rfl .nil)
theorem call_own {A : Around} (sb : Sub X k A) (I : Inv X pins σ H s) (F : FnOk X.prog X.w X.K X.mg X.base CX k f fd ps sp) (hb : Binds X.K fd ps []) (hx : Passes CX X E) (r2 : Vals vs us) (hsp : sp vs H Q E) :
    wpAny (model X.prog X.w) A (call (.ref f) us) (EP X pins σ Q) X.xe s := by
  have e0 : Env0 X.prog X.w X.K X.mg X.base A X.stack s H := by
    have e := I.env0
    exact ⟨by rw [sb.fr]; exact e.frames, e.mod, e.bs, e.bsz, e.funs, e.frf, e.hok, e.bare⟩
  have hl := F.len _ _ _ _ hsp
  refine wpAny_call (codeAny_mono (F.run A X.stack s H ⟨us, []⟩ us vs _ E sb.room e0 (by
    have := hb s us I.kIn (by rw [List.append_nil, ← r2.length]; exact hl)
    simpa using this) r2 hsp) fun r s' hq => ?_)
  cases r with
  | error e => exact hx pins σ H s e s' I hq
  | ok fl =>
    cases fl with
    | ret w =>
      obtain ⟨z, H', I', rz, ez⟩ := I.after hq
      exact ⟨z, H', I', rz, ez⟩
    | next => exact False.elim hq
    | brk => exact False.elim hq
    | cont => exact False.elim hq
/-- what an own two-place method says of two objects of its class -/
def rOwn2 (C : Addr) (sp : Sp) (E : XK) (neg : Bool) : R2 := fun x y H Q => ∃ a dx fs b dy gs, x = .ref a ∧ y = .ref b ∧ H a = some (.ins C dx fs) ∧ H b = some (.ins C dy gs) ∧ sp [.ref a, .ref b] H (fun v H' => ∃ k, v = .bl k ∧ Q (.bl (neg ^^ k)) H') E
theorem op_ownEq (F : FnOk X.prog X.w X.K X.mg X.base CX k f fd ps sp) (hs : PySem.W.findIn X.K (.ref C) "__eq__" = some (some (.ref f))) (hf : PySem.W.isFn X.K (.ref f) = true) (hb : Binds X.K fd ps []) (hx : Passes CX X E) (hr : Room k X.A) : OpR X (compareOp .Eq) (rOwn2 C sp E false) := by
  intro pins s σ H x y v u Q I rx ry d
  obtain ⟨a, dx, fs, b, dy, gs, rfl, rfl, ha, hb', h⟩ := d
  cases rx
  cases ry
  obtain ⟨mA, J, _⟩ := ins_get I.hok ha
  obtain ⟨mB, J', _⟩ := ins_get I.hok hb'
  obtain ⟨od, J, _⟩ := J.look
  obtain ⟨od', J', _⟩ := J'.look
  obtain ⟨m, hF⟩ := I.fr
  show wpAny (model X.prog X.w) X.A (richCompare .Eq _ _) _ _ _
  refine PySem.W.cmp_K (op := .Eq) (tb := .ref C) hr.units0 hF I.ok.mod.kin J J'.type (by simp [PySem.W.notFirst]) hs hf (wpAny_mono (call_own ⟨hr, rfl⟩ I F hb hx (v2 a b) h) (fun v s' q => ?_) fun _ _ e => e)
  obtain ⟨z, H', I', rz, k, rfl, q⟩ := q
  cases rz
  exact ⟨.bl k, H', I', rfl, by simpa using q⟩
theorem op_ownNe (F : FnOk X.prog X.w X.K X.mg X.base CX k f fd ps sp) (hs : PySem.W.findIn X.K (.ref C) "__eq__" = some (some (.ref f))) (hn : PySem.W.findIn X.K (.ref C) "__ne__" = some (some (.builtin "object.__ne__"))) (hm : PySem.W.mroIn X.K C (.type "object") = some true) (hf : PySem.W.isFn X.K (.ref f) = true) (hb : Binds X.K fd ps []) (hx : Passes CX X E) (hr : Room (k + 1) X.A) : OpR X (compareOp .NotEq) (rOwn2 C sp E true) := by
  intro pins s σ H x y v u Q I rx ry d
  obtain ⟨a, dx, fs, b, dy, gs, rfl, rfl, ha, hb', h⟩ := d
  cases rx
  cases ry
  obtain ⟨mA, J, _⟩ := ins_get I.hok ha
  obtain ⟨mB, J', _⟩ := ins_get I.hok hb'
  obtain ⟨od, J, _⟩ := J.look
  obtain ⟨od', J', _⟩ := J'.look
  obtain ⟨m, hF⟩ := I.fr
  show wpAny (model X.prog X.w) X.A (richCompare .NotEq _ _) _ _ _
  refine ne_K (D := .none) hr.in1.units0 I.kIn J J'.type hm hn hs hf (wpAny_mono (call_own ⟨hr.in1, rfl⟩ I F hb hx (v2 a b) h) (fun v s' q => ?_) fun _ _ e => e)
  obtain ⟨z, H', I', rz, k, rfl, q⟩ := q
  cases rz
  exact ⟨k, rfl, .bl (!k), H', I', rfl, by simpa using q⟩
def rOwn1 (C : Addr) (sp : Sp) (E : XK) (g : V → VK → Hp → Prop) : List V → Hp → VK → Prop := fun xs H Q => ∃ a dx fs, xs = [.ref a] ∧ H a = some (.ins C dx fs) ∧ sp [.ref a] H (fun v H' => g v Q H') E
theorem call_lenO (F : FnOk X.prog X.w X.K X.mg X.base CX k f fd ps sp) (hs : PySem.W.findIn X.K (.ref C) "__len__" = some (some (.ref f))) (hf : PySem.W.isFn X.K (.ref f) = true) (hb : Binds X.K fd ps []) (hx : Passes CX X E) (hr : Room (k + 1) X.A) :
    CallR X (.builtin "len") (rOwn1 C sp E fun v Q H => ∃ i, v = .int i ∧ (0 ≤ i ∧ i < 2 ^ 63) ∧ Q (.int i) H) := by
  intro pins s σ H xs us Q I r h
  obtain ⟨a, dx, fs, rfl, ha, h⟩ := h
  obtain rfl := Vals.ref1 r
  obtain ⟨mA, J, _⟩ := ins_get I.hok ha
  obtain ⟨od, J, _⟩ := J.look
  obtain ⟨m, hF⟩ := I.fr
  refine PySem.W.len_K hF I.ok.mod.kin J hs hf (wpAny_mono (call_own ⟨hr.in1, rfl⟩ I F hb hx (v1 a) h) (fun v s' q => ?_) fun _ _ e => e)
  obtain ⟨z, H', I', rz, i, rfl, hi, q⟩ := q
  obtain ⟨t, rfl⟩ := rz
  exact ⟨hi, .int i, H', I'.tok _, ⟨_, rfl⟩, q⟩
theorem call_boolO (F : FnOk X.prog X.w X.K X.mg X.base CX k f fd ps sp) (hn : PySem.W.findIn X.K (.ref C) "__bool__" = some none) (hs : PySem.W.findIn X.K (.ref C) "__len__" = some (some (.ref f))) (hf : PySem.W.isFn X.K (.ref f) = true) (hb : Binds X.K fd ps []) (hx : Passes CX X E) (hr : Room (k + 3) X.A) :
    CallR X (.type "bool") (rOwn1 C sp E fun v Q H => ∃ i, v = .int i ∧ (0 ≤ i ∧ i < 2 ^ 63) ∧ Q (.bl (i != 0)) H) := by
  intro pins s σ H xs us Q I r h
  obtain ⟨a, dx, fs, rfl, ha, h⟩ := h
  obtain rfl := Vals.ref1 r
  obtain ⟨mA, J, _⟩ := ins_get I.hok ha
  obtain ⟨od, J, _⟩ := J.look
  refine bool_tru (tru_K I.kIn J hn hs hf (wpAny_mono (call_own ⟨hr.in1.in1.in1, rfl⟩ I F hb hx (v1 a) h) (fun v s' q => ?_) fun _ _ e => e))
  obtain ⟨z, H', I', rz, i, rfl, hi, q⟩ := q
  obtain ⟨t, rfl⟩ := rz
  exact ⟨hi, i, _, rfl, .bl (i != 0), H', I'.tok _, rfl, q⟩
theorem call_strO (F : FnOk X.prog X.w X.K X.mg X.base CX k f fd ps sp) (hs : PySem.W.findIn X.K (.ref C) "__str__" = some (some (.ref f))) (hf : PySem.W.isFn X.K (.ref f) = true) (hb : Binds X.K fd ps []) (hx : Passes CX X E) (hr : Room (k + 2) X.A) :
    CallR X (.type "str") (rOwn1 C sp E fun v Q H => ∃ x, v = .str x ∧ Q (.str x) H) := by
  intro pins s σ H xs us Q I r h
  obtain ⟨a, dx, fs, rfl, ha, h⟩ := h
  obtain rfl := Vals.ref1 r
  obtain ⟨mA, J, _⟩ := ins_get I.hok ha
  obtain ⟨od, J, _⟩ := J.look
  refine PySem.W.kso_call hr.in1.in1.units0 I.kIn J hs hf (wpAny_mono (call_own ⟨hr.in1.in1, rfl⟩ I F hb hx (v1 a) h) (fun v s' q => ?_) fun _ _ e => e)
  obtain ⟨z, H', I', rz, x, rfl, q⟩ := q
  obtain ⟨t, rfl⟩ := rz
  exact ⟨.str x, H', I', ⟨_, rfl⟩, q⟩
end
end Cw

namespace Cw
open PySem PySem.Spec PyProof.Rows L2

/-! ### the making of an object -/
section
variable {K : PySem.W.Frag} {m : Ad} {H : Hp} {c : List Cell}
def Ad.mk1 (m : Ad) (x : Addr) : Ad := ⟨[x], m.hd ++ m.ix⟩
/-- what __init__ promises of a new object, over data -/
def callI (C : Addr) (S : Pm) (ds : List D) (c : List Cell) (Φ : D → List Cell → Prop) : Prop := okDs 0 ds = true ∧ S [.obj C [] []] (.cell 0 :: ds) fun d c' => match c' with
  | [.obj C' ns es] => d = .non ∧ C' = C ∧ okDs 0 es = true ∧ Φ (.ins C ns es) c
  | _ => False
theorem sp_make {S : Pm} {np : Nat} {C x dx : Addr} {ds : List D} {vs : List V} {Φ : D → List Cell → Prop} {Q : VK} {E : XK} (Cc : CR K H m c) (r : RRL K H m ds vs) (hl : ds.length + 1 = np) (h : callI C S ds c Φ) (q : KQ K H m Φ Q)
    (hx : H x = none) (hd : H dx = none) (hne : dx ≠ x) : spD K 1 np S (.ref x :: vs) (upd (upd H dx (.own x)) x (.ins C dx [])) (fun v H2 => v = .non ∧ Q (.ref x) H2) E := by
  obtain ⟨ok, hS⟩ := h
  have hal := hall Cc
  have hx1 : x ∉ m.ix ∧ x ∉ m.hd := hid_new hx Cc
  have keep2 : ∀ b o, H b = some o → upd (upd H dx (.own x)) x (.ins C dx []) b = some o := fun b o e => by
    rw [upd_ne (ne_of_none e hx), upd_ne (ne_of_none e hd)]; exact e
  have ex2 : Ex (hid m H) (hid (m.mk1 x) (upd (upd H dx (.own x)) x (.ins C dx []))) := fun b o e => by
    obtain ⟨⟨h1, h2⟩, h3⟩ := hid_some e
    rw [hid_of (m := m.mk1 x)]
    · exact keep2 b o h3
    · refine ⟨fun z => ?_, fun z => ?_⟩
      · have : b = x := by simpa [Ad.mk1] using z
        subst this; rw [hx] at h3; cases h3
      · rcases List.mem_append.mp (show b ∈ m.hd ++ m.ix from z) with z | z
        · exact h2 z
        · exact h1 z
  refine ⟨m.mk1 x, [.obj C [] []], .cell 0 :: ds, _, rfl, hl, ⟨rfl, by simp [Ad.mk1], fun k ce e => ?_, fun b hb => ?_, fun a ha z => ?_⟩, ?_, hS, fun d c' w H' hΦ C' r' l => ?_⟩
  · have hk : k = 0 := by
      have := (List.getElem?_eq_some_iff.mp e).1
      simp at this; exact this
    subst hk
    simp at e; subst e
    exact ⟨x, rfl, dx, [], upd_same, rfl, rfl⟩
  · obtain ⟨o, e, e'⟩ := hal b hb
    exact ⟨o, keep2 b o e, e'⟩
  · have : a = x := by simpa [Ad.mk1] using ha
    subst this
    rcases List.mem_append.mp (show a ∈ m.hd ++ m.ix from z) with z | z
    · exact hx1.2 z
    · exact hx1.1 z
  · show RL K [x] (hid (m.mk1 x) _) (.cell 0 :: ds) (.ref x :: vs)
    exact ⟨.ref x, vs, rfl, ⟨x, rfl, rfl⟩, RL.low (n := 0) ex2 (fun k a hk => absurd hk (Nat.not_lt_zero _)) ds vs ok r⟩
  · cases c' with
    | nil => exact hΦ.elim
    | cons ce t =>
      cases t with
      | cons _ _ => cases ce <;> exact hΦ.elim
      | nil =>
        cases ce with
        | lst _ => exact hΦ.elim
        | dct _ _ => exact hΦ.elim
        | dcT _ _ => exact hΦ.elim
        | obj C'' ns es =>
          obtain ⟨rfl, rfl, ok2, hq⟩ := hΦ
          obtain ⟨b, hb, hat⟩ := C'.at_ 0 _ rfl
          have hbx : b = x := by
            have h0 : (m.mk1 x).ix[0]? = some x := rfl
            rw [h0] at hb
            exact (Option.some.inj hb).symm
          subst hbx
          obtain ⟨dx', fs, h3, h4, h5⟩ := hat
          have exm : Ex (hid (m.mk1 b) H') (hid m H') := fun a o e => by
            obtain ⟨⟨h1, h2⟩, h6⟩ := hid_some e
            rw [hid_of ⟨fun z => h2 (List.mem_append_right _ z), fun z => h2 (List.mem_append_left _ z)⟩]
            exact h6
          have keep : ∀ a o, a ∈ m.hd ++ m.ix → H a = some o → H' a = some o := fun a o ha e => by
            rw [l.hk a ha]; exact keep2 a o e
          have l' : Le m H m H' := ⟨fun _ _ e => e, (ex2.trans l.ex).trans exm, rfl, fun a ha => by
            obtain ⟨o, e, _⟩ := Cc.hs a ha
            rw [e]; exact keep a o (List.mem_append_left _ ha) e, fun _ h => .inl h, fun a e => upd_none (upd_none (l.al a e))⟩
          refine ⟨by cases w <;> first | rfl | exact absurd r' (by intro z; cases z), q _ c _ H' m hq ⟨Cc.len, Cc.nd, fun k ce e => ?_, fun a ha => ?_, Cc.dj⟩ ⟨b, dx', fs, rfl, ?_, h4, ?_⟩ l'⟩
          · obtain ⟨a, h1, h2⟩ := Cc.at_ k ce e
            exact ⟨a, h1, h2.step l' fun o e' => keep a o (List.mem_append_right _ (List.mem_of_getElem? h1)) e'⟩
          · obtain ⟨o, e, e'⟩ := Cc.hs a ha
            exact ⟨o, keep a o (List.mem_append_left _ ha) e, e'⟩
          · rw [hid_of hx1]; exact h3
          · exact RL.low (n := 0) exm (fun k a hk => absurd hk (Nat.not_lt_zero _)) es _ ok2 h5
end
section
variable {X : Cx} {CX : CXT} {k np : Nat} {f C : Addr} {fd : FuncData} {ps ks : List Str} {S : Pm} {E : XK} {x : Str} {p pos : Pos} {e : Expr} {es : List Expr} {kws : List Keyword} {tas tks : TDs}
def dMake (C : Addr) (S : Pm) (np : Nat) (t : TDs) : TD := fun ρ c Φ => t ρ c fun ds c1 => ds.length + 1 = np ∧ callI C S ds c1 Φ
theorem pd_make (M : Mk X.K C f) (F : FnOk X.prog X.w X.K X.mg X.base CX k f fd ps (spD X.K 1 np S)) (hr : Room (k + 1) X.A) (hm : X.mg x = some (.ref C)) (hb : Binds X.K fd ps []) (hx : Passes CX X E)
    (ha : PDs X (e :: es) tas) (hg : Gl X x := by rfl) (hdb : (x == ("__debug__" : Str)) = false := by decide) (he : starEach (e :: es) X.env = (false, eval e X.env) :: starEach es X.env := by rfl) (hpl : (backTo pos (starEach es X.env)).any (·.1) = false := by rfl) :
    PD X (.Call (.Name x p) (e :: es) [] pos) (dMake C S np tas) := PE.imp (pe_make M F hr hg hm hb .nil hx ha hdb he hpl) fun σ H Q ⟨m, ρ, c, Φ, S', h, q⟩ =>
    ⟨m, ρ, c, _, S', h, fun ds c1 vs H1 m1 ⟨hl, hc⟩ C1 R1 L1 => fun a dx h1 h2 h3 => by rw [List.append_nil]; exact sp_make C1 R1 hl hc (KQ.le (K := X.K) q L1) h1 h2 h3⟩
end
section
variable {X : Cx} {CX : CXT} {k : Nat} {f C : Addr} {fd : FuncData} {ps : List Str} {S : Pm} {E : XK} {x : Str} {p pos : Pos} {a b e : Expr} {ta tb : TD}
def dOwn2 (C : Addr) (S : Pm) (neg : Bool) (ta tb : TD) : TD := fun ρ c Φ => ta ρ c fun x c1 => tb ρ c1 fun y c2 => (∃ ns ds, x = .ins C ns ds) ∧ (∃ ns ds, y = .ins C ns ds) ∧ callP S [x, y] c2 fun d c3 => ∃ k, d = .bl k ∧ Φ (.bl (neg ^^ k)) c3
theorem lift_own2 {K : PySem.W.Frag} {neg : Bool} {σ : L2.St} {H : Hp} {Q : VK} (h : lift K (dOwn2 C S neg ta tb) σ H Q) : tOp (rOwn2 C (spD K 0 2 S) E neg) (lift K ta) (lift K tb) σ H Q := by
  obtain ⟨m, ρ, c, Φ, S', h, q⟩ := h
  refine ⟨m, ρ, c, _, S', h, fun x c1 u H1 m1 hx C1 R1 L1 => ⟨m1, ρ, c1, _, S'.step L1 C1, hx, fun y c2 v H2 m2 hy C2 R2 L2 => ?_⟩⟩
  obtain ⟨⟨ns, ds, rfl⟩, ⟨ns', ds', rfl⟩, hc⟩ := hy
  have R1' := L2.r R1
  have r2 : RRL K H2 m2 [.ins C ns ds, .ins C ns' ds'] [u, v] := by
    show RL _ _ _ [_, _] [_, _]
    exact ⟨u, [v], rfl, R1', v, [], rfl, R2, rfl⟩
  obtain ⟨a, dx, fs, rfl, h1, _⟩ := R1'
  obtain ⟨b, dy, gs, rfl, h2, _⟩ := R2
  refine ⟨a, dx, fs, b, dy, gs, rfl, rfl, (hid_some h1).2, (hid_some h2).2, sp_pure C2 r2 rfl hc fun d c' w H' m' ⟨k, hk, hΦ⟩ C' r' l' => ?_⟩
  subst hk
  cases (show w = _ from r')
  exact ⟨k, rfl, q _ c' _ H' m' hΦ C' rfl ((L1.trans L2).trans l')⟩
theorem pd_eqO (F : FnOk X.prog X.w X.K X.mg X.base CX k f fd ps (spD X.K 0 2 S)) (hs : PySem.W.findIn X.K (.ref C) "__eq__" = some (some (.ref f))) (hf : PySem.W.isFn X.K (.ref f) = true) (hb : Binds X.K fd ps []) (hx : Passes CX X E) (hr : Room k X.A)
    (h1 : PD X a ta) (h2 : PD X b tb) : PD X (.Compare a [.Eq] [b] pos) (dOwn2 C S false ta tb) := PE.imp (pe_cmpR (op_ownEq F hs hf hb hx hr) h1 h2 (nomark _)) fun σ H Q h => lift_own2 h
theorem pd_neO (F : FnOk X.prog X.w X.K X.mg X.base CX k f fd ps (spD X.K 0 2 S)) (hs : PySem.W.findIn X.K (.ref C) "__eq__" = some (some (.ref f))) (hn : PySem.W.findIn X.K (.ref C) "__ne__" = some (some (.builtin "object.__ne__"))) (hm : PySem.W.mroIn X.K C (.type "object") = some true) (hf : PySem.W.isFn X.K (.ref f) = true) (hb : Binds X.K fd ps []) (hx : Passes CX X E) (hr : Room (k + 1) X.A)
    (h1 : PD X a ta) (h2 : PD X b tb) : PD X (.Compare a [.NotEq] [b] pos) (dOwn2 C S true ta tb) := PE.imp (pe_cmpR (op_ownNe F hs hn hm hf hb hx hr) h1 h2 (nomark _)) fun σ H Q h => lift_own2 h
def dOwn1 (C : Addr) (S : Pm) (g : D → List Cell → (D → List Cell → Prop) → Prop) (ta : TD) : TD := fun ρ c Φ => ta ρ c fun x c1 => (∃ ns ds, x = .ins C ns ds) ∧ callP S [x] c1 fun d c2 => g d c2 Φ
def gLen : D → List Cell → (D → List Cell → Prop) → Prop := fun d c Φ => ∃ i, d = .int i ∧ (0 ≤ i ∧ i < 2 ^ 63) ∧ Φ (.int i) c
def gTru : D → List Cell → (D → List Cell → Prop) → Prop := fun d c Φ => ∃ i, d = .int i ∧ (0 ≤ i ∧ i < 2 ^ 63) ∧ Φ (.bl (i != 0)) c
def gTxt : D → List Cell → (D → List Cell → Prop) → Prop := fun d c Φ => ∃ x, d = .str x ∧ Φ (.str x) c
def only1 (P : D → List Cell → Prop) : List D → List Cell → Prop
  | [x], c => P x c
  | _, _ => False
theorem lift_own1 {K : PySem.W.Frag} {g : D → List Cell → (D → List Cell → Prop) → Prop} {g' : V → VK → Hp → Prop} {σ : L2.St} {H : Hp} {Q : VK}
    (hg : ∀ d c Φ w H m Q, g d c Φ → CR K H m c → RR K H m d w → KQ K H m Φ Q → g' w Q H) (h : lift K (dOwn1 C S g ta) σ H Q) : tCB (rOwn1 C (spD K 0 1 S) E g') (liftA K (dCons ta dNil)) σ H Q := by
  obtain ⟨m, ρ, c, Φ, S', h, q⟩ := h
  refine ⟨m, ρ, c, only1 fun x c1 => (∃ ns ds, x = D.ins C ns ds) ∧ callP S [x] c1 fun d c2 => g d c2 Φ, S', h, fun xs c1 us H1 m1 hx C1 R1 L1 => ?_⟩
  · cases xs with
    | nil => exact hx.elim
    | cons x t => cases t with
      | cons _ _ => exact hx.elim
      | nil =>
    obtain ⟨⟨ns, ds, rfl⟩, hc⟩ := hx
    have R1' := R1
    obtain ⟨u, r, rfl, R2, e⟩ := R1'
    cases (show r = [] from e)
    obtain ⟨a, dx, fs, rfl, h1, _⟩ := R2
    exact ⟨a, dx, fs, rfl, (hid_some h1).2, sp_pure C1 R1 rfl hc fun d c' w H' m' hΦ C' r' l' => hg d c' Φ w H' m' Q hΦ C' r' (KQ.le (K := K) q (L1.trans l'))⟩
theorem pd_lenO (F : FnOk X.prog X.w X.K X.mg X.base CX k f fd ps (spD X.K 0 1 S)) (hs : PySem.W.findIn X.K (.ref C) "__len__" = some (some (.ref f))) (hf : PySem.W.isFn X.K (.ref f) = true) (hb : Binds X.K fd ps []) (hx : Passes CX X E) (hr : Room (k + 1) X.A)
    (ha : PD X e ta) (hm : X.mg "len" = none) (hg : Gl X "len" := by rfl) (he : starEach [e] X.env = (false, eval e X.env) :: starEach [] X.env := by rfl) (hpl : (backTo pos (starEach [] X.env)).any (·.1) = false := by rfl) :
    PD X (.Call (.Name "len" p) [e] [] pos) (dOwn1 C S gLen ta) := PE.imp (pe_callB (call_lenO F hs hf hb hx hr) hg hm boot_len (pds_cons ha pds_nil he) (by decide) (by decide) he hpl) fun σ H Q h =>
    lift_own1 (fun d c Φ w H m Q ⟨i, hd, hi, hΦ⟩ C r q => by subst hd; cases (show w = _ from r); exact ⟨i, rfl, hi, q.pure C hΦ rfl⟩) h
theorem pd_boolO (F : FnOk X.prog X.w X.K X.mg X.base CX k f fd ps (spD X.K 0 1 S)) (hn : PySem.W.findIn X.K (.ref C) "__bool__" = some none) (hs : PySem.W.findIn X.K (.ref C) "__len__" = some (some (.ref f))) (hf : PySem.W.isFn X.K (.ref f) = true) (hb : Binds X.K fd ps []) (hx : Passes CX X E) (hr : Room (k + 3) X.A)
    (ha : PD X e ta) (hm : X.mg "bool" = none) (hg : Gl X "bool" := by rfl) (he : starEach [e] X.env = (false, eval e X.env) :: starEach [] X.env := by rfl) (hpl : (backTo pos (starEach [] X.env)).any (·.1) = false := by rfl) :
    PD X (.Call (.Name "bool" p) [e] [] pos) (dOwn1 C S gTru ta) := PE.imp (pe_callTy (call_boolO F hn hs hf hb hx hr) hg hm (by decide +kernel) (pds_cons ha pds_nil he) (by decide) (by decide) he hpl) fun σ H Q h =>
    lift_own1 (fun d c Φ w H m Q ⟨i, hd, hi, hΦ⟩ C r q => by subst hd; cases (show w = _ from r); exact ⟨i, rfl, hi, q.pure C hΦ rfl⟩) h
theorem pd_strO (F : FnOk X.prog X.w X.K X.mg X.base CX k f fd ps (spD X.K 0 1 S)) (hs : PySem.W.findIn X.K (.ref C) "__str__" = some (some (.ref f))) (hf : PySem.W.isFn X.K (.ref f) = true) (hb : Binds X.K fd ps []) (hx : Passes CX X E) (hr : Room (k + 2) X.A)
    (ha : PD X e ta) (hm : X.mg "str" = none) (hg : Gl X "str" := by rfl) (he : starEach [e] X.env = (false, eval e X.env) :: starEach [] X.env := by rfl) (hpl : (backTo pos (starEach [] X.env)).any (·.1) = false := by rfl) :
    PD X (.Call (.Name "str" p) [e] [] pos) (dOwn1 C S gTxt ta) := PE.imp (pe_callTy (call_strO F hs hf hb hx hr) hg hm boot_str (pds_cons ha pds_nil he) (by decide) (by decide) he hpl) fun σ H Q h =>
    lift_own1 (fun d c Φ w H m Q ⟨x, hd, hΦ⟩ C r q => by subst hd; cases (show w = _ from r); exact ⟨x, rfl, q.pure C hΦ rfl⟩) h
end
end Cw

namespace Cw
open PySem PySem.Spec PyProof.Rows L2

/-! ### comprehensions, by what each turn says -/
theorem inner_same {c : List Cell} {acc : List D} {y : D} {Q : List Cell → Prop} (q : Q c) : inner c.length acc y (c ++ [.lst acc]) Q := by
  refine ⟨by simp, ?_⟩
  have e : Nat.beq (c ++ [Cell.lst acc]).length (c.length + 1) = true := by
    rw [List.length_append]; exact Nat.beq_refl _
  rw [e]
  show Q _
  rw [List.take_left']
  · exact q
  · rfl
theorem okDs_app {n : Nat} : ∀ {a b : List D}, okDs n a = true → okDs n b = true → okDs n (a ++ b) = true
  | [], _, _, h => h
  | d :: a, b, h, h2 => by
    have h' : okD n d = true ∧ okDs n a = true := by simpa [okDs] using h
    show okDs n (d :: (a ++ b)) = true
    simp only [okDs, Bool.and_eq_true]
    exact ⟨h'.1, okDs_app h'.2 h2⟩
mutual
theorem okD_up {n : Nat} : ∀ d : D, okD n d = true → okD (n + 1) d = true
  | .non, h => rfl
  | .bl _, h => rfl
  | .int _, h => rfl
  | .str _, h => rfl
  | .tup ds, h => by
    have h : okDs n ds = true := by simpa [okD] using h
    simpa [okD] using okDs_up ds h
  | .lst ds, h => by
    have h : okDs n ds = true := by simpa [okD] using h
    simpa [okD] using okDs_up ds h
  | .fl ds, h => by
    have h : okDs n ds = true := by simpa [okD] using h
    simpa [okD] using okDs_up ds h
  | .cell j, h => by simp [okD] at h ⊢; omega
  | .ins _ _ ds, h => by
    have h : okDs n ds = true := by simpa [okD] using h
    simpa [okD] using okDs_up ds h
  | .dct _ ds, h => by
    have h : okDs n ds = true := by simpa [okD] using h
    simpa [okD] using okDs_up ds h
  | .dcT _ ds, h => by
    have h : okDs n ds = true := by simpa [okD] using h
    simpa [okD] using okDs_up ds h
  | .raw _, h => by first | rfl | exact h | simp [okD] at h ⊢
theorem okDs_up {n : Nat} : ∀ ds : List D, okDs n ds = true → okDs (n + 1) ds = true
  | [], h => rfl
  | d :: ds, h => by
    have h' : okD n d = true ∧ okDs n ds = true := by simpa [okDs] using h
    simp only [okDs, Bool.and_eq_true]
    exact ⟨okD_up d h'.1, okDs_up ds h'.2⟩
end
theorem okDs_one {n : Nat} {d : D} (h : okD n d = true) : okDs n [d] = true := by simp [okDs, h]
theorem lc_filter {i : Nat} {tt : TDt} {te : TD} {ρ : Env} {c : List Cell} {Φ : List D → List Cell → Prop} (g : D → Bool) (f : D → D) (hc : okCs c.length c = true) : ∀ (ds acc : List D),
    (∀ d ∈ ds, ∀ acc (Ψ : Bool → List Cell → Prop), okDs c.length acc = true → Ψ (g d) (c ++ [.lst acc]) → tt (ρ.set i (some d)) (c ++ [.lst acc]) Ψ) →
    (∀ d ∈ ds, g d = true → okD c.length (f d) = true ∧ ∀ acc (Ψ : D → List Cell → Prop), okDs c.length acc = true → Ψ (f d) (c ++ [.lst acc]) → te (ρ.set i (some d)) (c ++ [.lst acc]) Ψ) →
    okDs c.length acc = true → acc.length + ds.length ≤ sizeLine → Φ (acc ++ (ds.filter g).map f) c → lcD i tt te ds acc ρ c Φ
  | [], acc, _, _, h, _, q => ⟨hc, h, by simpa using q⟩
  | d :: ds, acc, ht, he, h, hl, q => by
    have hl' : acc.length + (ds.length + 1) ≤ sizeLine := hl
    refine ht d List.mem_cons_self acc _ h ?_
    cases hg : g d with
    | true =>
      show te _ _ _
      obtain ⟨hk, hte⟩ := he d List.mem_cons_self hg
      refine hte acc _ h ⟨by omega, inner_same ?_⟩
      refine lc_filter g f hc ds _ (fun x hx => ht x (List.mem_cons_of_mem _ hx)) (fun x hx => he x (List.mem_cons_of_mem _ hx)) (okDs_app h (okDs_one hk)) (by rw [List.length_append]; show acc.length + 1 + ds.length ≤ _; omega) ?_
      rw [List.filter_cons_of_pos (by rw [hg])] at q
      simpa using q
    | false =>
      show inner _ _ _ _ _
      refine inner_same ?_
      refine lc_filter g f hc ds _ (fun x hx => ht x (List.mem_cons_of_mem _ hx)) (fun x hx => he x (List.mem_cons_of_mem _ hx)) h (by omega) ?_
      rw [List.filter_cons_of_neg (by rw [hg]; decide)] at q
      exact q
theorem lc_map {i : Nat} {te : TD} {ρ : Env} {c : List Cell} {Φ : List D → List Cell → Prop} (f : D → D) (hc : okCs c.length c = true) (ds : List D)
    (he : ∀ d ∈ ds, okD c.length (f d) = true ∧ ∀ acc (Ψ : D → List Cell → Prop), okDs c.length acc = true → Ψ (f d) (c ++ [.lst acc]) → te (ρ.set i (some d)) (c ++ [.lst acc]) Ψ) (hl : ds.length ≤ sizeLine) (q : Φ (ds.map f) c) : lcD i dYes te ds [] ρ c Φ :=
  lc_filter (fun _ => true) f hc ds [] (fun d _ acc Ψ _ h => h) (fun d hd _ => he d hd) rfl (by simpa using hl) (by
    have : ds.filter (fun _ => true) = ds := List.filter_eq_self.mpr fun _ _ => rfl
    rw [this]; simpa using q)
theorem forD_inv {g : TGD} {tb : TSD} {De : DEnds} (I : List D → Env → List Cell → Prop) (fin : ∀ ρ c, I [] ρ c → De.nx ρ c)
    (step : ∀ d ds ρ c (F : Env → List Cell → Prop), (∀ ρ c, I ds ρ c → F ρ c) → I (d :: ds) ρ c → g d ρ c fun ρ1 c1 => tb ⟨F, De.rt, De.nx, F⟩ ρ1 c1) : ∀ ds ρ c, I ds ρ c → forD g tb De ds ρ c
  | [], ρ, c, h => fin ρ c h
  | d :: ds, ρ, c, h => step d ds ρ c _ (fun ρ c h => forD_inv I fin step ds ρ c h) h
end Cw

namespace Cw
open PySem PySem.Spec PyProof.Rows L2

/-! ### repr of data, where no repr runs around it -/
structure Showy (p : PyData) : Prop where
  sh : p.showable = true
  nd : p.hasDict = false
  dp : p.depth ≤ 60
  sz : p.shown.length ≤ sizeLine
section
variable {X : Cx}
def rReprD (K : PySem.W.Frag) : List V → Hp → VK → Prop := fun xs H Q => ∃ a d, xs = [.ref a] ∧ Dp K H (.ref a) d ∧ Showy d ∧ Q (.str d.shown) H
theorem call_reprD (hg : X.A.guards = some []) (hu : X.A.units + 64 < cLine) : CallR X (.builtin "repr") (rReprD X.K) := by
  intro pins s σ H xs us Q I r h
  obtain ⟨a, d, rfl, hd, S, q⟩ := h
  obtain rfl := Vals.ref1 r
  obtain ⟨as, w1⟩ := Dp.reads I d (.ref a) (.ref a) hd rfl
  have := S.dp
  exact PySem.repr_of_reads' (h₀ := s.heap) w1 S.sh (fun z => by rw [S.nd] at z; cases z) hg (by omega) (fun _ _ e => e) (fun h' u tk k => ⟨.str d.shown, H, I.kept k, ⟨u, rfl⟩, q⟩) S.sz
end
def fRepr : F1 := fun x c Φ => match x with
  | .tup _ => ∃ p, D.py x = some p ∧ Showy p ∧ Φ (.str p.shown) c
  | .lst _ => ∃ p, D.py x = some p ∧ Showy p ∧ Φ (.str p.shown) c
  | _ => False
theorem l1_repr {K : PySem.W.Frag} : L1f K fRepr (fun u H Q => rReprD K [u] H Q) := by
  intro x c Φ h H m u C r Q q
  cases x <;> first | exact h.elim | skip
  · obtain ⟨p, h1, h2, h3⟩ := h
    have hd := W.dp r h1
    obtain ⟨a, xs, rfl, _⟩ := r
    exact ⟨a, p, rfl, hd, h2, q.pure C h3 rfl⟩
  · obtain ⟨p, h1, h2, h3⟩ := h
    have hd := W.dp r h1
    obtain ⟨a, xs, rfl, _⟩ := r
    exact ⟨a, p, rfl, hd, h2, q.pure C h3 rfl⟩
section
variable {X : Cx} {e : Expr} {ta : TD} {pos pp : Pos}
theorem pd_repr (hgu : X.A.guards = some []) (hu : X.A.units + 64 < cLine) (ha : PD X e ta) (hm : X.mg "repr" = none) (hg : Gl X "repr" := by rfl) (he : starEach [e] X.env = (false, eval e X.env) :: starEach [] X.env := by rfl) (hpl : (backTo pos (starEach [] X.env)).any (·.1) = false := by rfl) :
    PD X (.Call (.Name "repr" pp) [e] [] pos) (dCB (un1 fRepr) (dCons ta dNil)) := pd_B1 (call_reprD hgu hu) l1_repr (by decide +kernel) (by decide) (by decide) ha hg hm he hpl
end
end Cw

namespace Cw
open PySem PySem.Spec PyProof.Rows L2

/-! ### defs where no repr runs around them -/
structure FnG (P : Program) (w : World) (K : PySem.W.Frag) (mg : Str → Option Value) (base : Heap) (k : Nat) (f : Addr) (fd : FuncData) (ps : List Str) (sp : Sp) : Prop where
  ln : ∀ vs H Q E, sp vs H Q E → vs.length = ps.length
  rn : ∀ (A : Around) (outer : List PySem.Env) (s : Shared) (H : Hp) (args : Args) (us : List Value) (vs : List V) (Q : VK) (E : XK), A.guards = some [] → Room k A → Env0 P w K mg base A outer s H → BindsTo s fd args (ps.zip us) → Vals vs us → sp vs H Q E →
    codeAny (model P w) A (.call (.ref f) args) (L2.CR CX0 outer P w H s Q E) s
section
variable {P : Program} {w : World} {K : PySem.W.Frag} {mg : Str → Option Value} {base : Heap}
theorem fnG {x qual : Str} {st : Stmt} {f : Addr} {fd : FuncData} {N ps : List Str} {k : Nat} {sp : Sp} (F : Fun K x qual st f fd) (Sc : FnScope N ps (defScope st)) (ln : ∀ vs H Q E, sp vs H Q E → vs.length = ps.length)
    (hbody : ∀ (cdv : Value) (A : Around) (outer : List PySem.Env) (s : Shared) (H : Hp) (vs : List V) (Q : VK) (E : XK), A.guards = some [] → Room k (A.deeper (envOfC qual (defScope st) s.heap.objs.size f cdv)) → sp vs H Q E →
      ∃ t, PSs (cxOf CX0 P w K mg base N qual (defScope st) f cdv A outer s H E).nox (defBody st) t ∧ t { nx := fun _ H' => Q .non H', rt := Q } (L2.start N vs) H) : FnG P w K mg base (k + 1) f fd ps sp := by
  obtain ⟨oc, od, kV, doc, pm, an, cdv, ct, osl, rfl, lk, hcd⟩ := F.ex
  refine ⟨ln, fun A outer s H args us vs Q E hgu hr e0 hb r hsp => ?_⟩
  have inK : K.In s.heap := e0.mod.kin.keeps fun b o e => (e0.bs b o e).1
  have nl : s.heap.NoLimit := e0.mod.nolimit.keeps fun b o e => (e0.bs b o e).1
  obtain ⟨t, ht', hq⟩ := hbody cdv A outer s H vs Q E hgu (hr.deeper _) hsp
  have ht := ht'.nox
  have kinds : ∀ y ∈ ps.zip us, (defScope st).names.lookup y.1 = some .local ∨ ((defScope st).names.lookup y.1 = some .cell ∧ ((cellsFrom (s.heap.objs.size + 1) (defScope st).names []).lookup y.1).isSome = true) := fun ⟨n, v⟩ hy => (Sc.par n (List.of_mem_zip hy).1).imp id fun q => ⟨q, PySem.W.cellsFrom_some _ _ _ (.inl q)⟩
  refine codeAny_call_function hr.depth (inK _ _ lk) rfl Sc.co Sc.gen rfl (PySem.W.codeRec_of inK hcd) (hb _ _ _ _ (wpAny_newFunctionEnv_cells Sc.kind kinds fun env he s1 x => ?_))
  subst he
  refine ⟨nl.keeps x.toInCall.keep, codeAny_func ?_⟩
  have I : Inv (cxOf CX0 P w K mg base N qual (defScope st) f cdv A outer s H E) [] (L2.start N vs) H s1 := inv_start Sc hr.hd e0 (ln _ _ _ _ hsp) r x
  refine wpAny_mono (ht.run [] s1 (L2.start N vs) H _ I hq) (fun fl s' hs => ?_) fun e s' hs => hs
  cases fl with
  | ret u =>
    obtain ⟨v, σ', H', J, rv, q⟩ := hs
    exact ⟨v, H', J.os, J.bare, J.base, J.hok, rv, q⟩
  | next =>
    obtain ⟨σ', H', J, q⟩ := hs
    exact ⟨V.non, H', J.os, J.bare, J.base, J.hok, rfl, q⟩
  | brk => exact hs.elim fun _ z => z.elim fun _ z => z.2.elim
  | cont => exact hs.elim fun _ z => z.elim fun _ z => z.2.elim
end
section
variable {X : Cx} {k np n0 : Nat} {f : Addr} {fd : FuncData} {ps : List Str} {sp : Sp} {S : Pm} {E : XK} {x : Str} {p pos : Pos} {e : Expr} {es : List Expr} {t : TA} {tas : TDs}
theorem pe_callG (F : FnG X.prog X.w X.K X.mg X.base k f fd ps sp) (hgu : X.A.guards = some []) (hr : Room k X.A) (hg : Gl X x) (hm : X.mg x = some (.ref f)) (hk : PySem.W.keepIn X.K (.ref f) = true) (hb : Binds X.K fd ps []) (hx : Passes CX0 X E)
    (ha : PA X (e :: es) t) (hdb : (x == ("__debug__" : Str)) = false) (he : starEach (e :: es) X.env = (false, eval e X.env) :: starEach es X.env) (hpl : (backTo pos (starEach es X.env)).any (·.1) = false) :
    PE X (.Call (.Name x p) (e :: es) [] pos) (tCall sp [] E t) := ⟨fun pins s σ H Q I h => by
  refine wpAny_Call_Name_kw (ld_glob I hg hm (PySem.W.callWith_K (h₀ := X.base) I.ok.mod.kin hk (thn (ha.run pos pins s σ H _ I h) fun us s1 ⟨vs, H1, I1, r, q⟩ => ⟨I1.kIn, ?_⟩) he hpl) hdb)
  have q : sp vs H1 Q E := by simpa using q
  have hl : us.length = ps.length := by rw [← r.length]; exact F.ln _ _ _ _ q
  have bt : BindsTo s1 fd ⟨us, []⟩ (ps.zip us) := by simpa using hb s1 us I1.kIn (by simpa using hl)
  refine wpAny_call (codeAny_mono (F.rn X.A X.stack s1 H1 ⟨us, []⟩ us vs Q E hgu hr I1.env0 bt r q) fun z s' hq => ?_)
  cases z with
  | error e => exact hx pins σ H1 s1 e s' I1 hq
  | ok fl =>
    cases fl with
    | ret u => exact I1.after hq
    | next => exact False.elim hq
    | brk => exact False.elim hq
    | cont => exact False.elim hq⟩
theorem pd_callMG (F : FnG X.prog X.w X.K X.mg X.base k f fd ps (spD X.K 1 np S)) (hgu : X.A.guards = some []) (hr : Room k X.A) (hm : X.mg x = some (.ref f)) (hk : PySem.W.keepIn X.K (.ref f) = true) (hb : Binds X.K fd ps []) (hx : Passes CX0 X E)
    (ha : PDs X (e :: es) tas) (hg : Gl X x := by rfl) (hdb : (x == ("__debug__" : Str)) = false := by decide) (he : starEach (e :: es) X.env = (false, eval e X.env) :: starEach es X.env := by rfl) (hpl : (backTo pos (starEach es X.env)).any (·.1) = false := by rfl) :
    PD X (.Call (.Name x p) (e :: es) [] pos) (dCallM S np tas) := PE.imp (pe_callG F hgu hr hg hm hk hb hx ha hdb he hpl) fun σ H Q ⟨m, ρ, c, Φ, S', h, q⟩ =>
    ⟨m, ρ, c, _, S', h, fun ds c1 vs H1 m1 ⟨hl, hc⟩ C1 R1 L1 => by show spD _ _ _ _ (_ ++ []) _ _ _; rw [List.append_nil]; exact sp_one C1 R1 hl hc (KQ.le (K := X.K) q L1)⟩
end
section
variable {P : Program} {w : World} {K : PySem.W.Frag} {mg : Str → Option Value} {base : Heap}
theorem fnGD {x qual : Str} {st : Stmt} {f : Addr} {fd : FuncData} {N ps : List Str} {k n0 : Nat} {S : Pm} (F : Fun K x qual st f fd) (Sc : FnScope N ps (defScope st))
    (hbody : ∀ (cdv : Value) (A : Around) (outer : List PySem.Env) (s : Shared) (H : Hp) (E : XK), A.guards = some [] → Room k (A.deeper (envOfC qual (defScope st) s.heap.objs.size f cdv)) →
      ∃ ts, PSDs (cxOf CX0 P w K mg base N qual (defScope st) f cdv A outer s H E).nox (defBody st) ts ∧
        ∀ c ds Φ, c.length = n0 → ds.length = ps.length → S c ds Φ → ts ⟨fun _ c' => retD n0 Φ .non c', retD n0 Φ, fun _ _ => False, fun _ _ => False⟩ (startD N ds) c) :
    FnG P w K mg base (k + 1) f fd ps (spD K n0 ps.length S) := by
  refine fnG F Sc (fun vs H Q E ⟨m, c, ds, Φ, h1, h2, C, r, _⟩ => by rw [← RL.length r]; exact h2) (fun cdv A outer s H vs Q E hgu hr ⟨m, c, ds, Φ, h1, h2, C, r, hS, q⟩ => ?_)
  obtain ⟨ts, hp, ht⟩ := hbody cdv A outer s H E hgu hr
  have hn : m.ix.length = n0 := by rw [C.len]; exact h1
  exact ⟨_, hp, m, startD N ds, c, _, start_slots C r, ht c ds Φ h1 h2 hS, fun σ' H' m' ρ' c' h' S' l => ret_ok hn q h' S'.cr rfl l, fun d c' v H' m' h' C' r' l => ret_ok hn q h' C' r' l, fun _ _ _ _ _ z => z.elim, fun _ _ _ _ _ z => z.elim⟩
end
/-! ### the making by name -/
theorem PK.imp {X : Cx} {kws : List Keyword} {t t' : TA} (h : PK X kws t) (i : ∀ σ H Q, t' σ H Q → t σ H Q) : PK X kws t' := ⟨fun pos pins s σ H Q I w => h.run pos pins s σ H Q I (i σ H Q w)⟩
section
variable {X : Cx} {CX : CXT} {k np : Nat} {f C : Addr} {fd : FuncData} {ps ks : List Str} {S : Pm} {E : XK} {x : Str} {p pos kpos : Pos} {e : Expr} {kws : List Keyword} {ta : TD} {tas tks : TDs} {nm : Option Str}
theorem pdk_nil : PK X [] (liftA X.K dNil) := PK.imp pk_nil fun σ H Q ⟨m, ρ, c, Φ, S, h, q⟩ => q [] c [] H m h S.cr rfl (Le.refl _ _)
theorem pdk_cons (h1 : PD X e ta) (h2 : PK X kws (liftA X.K tas)) : PK X (⟨nm, e, kpos⟩ :: kws) (liftA X.K (dCons ta tas)) := PK.imp (pk_cons h1 h2) fun σ H Q ⟨m, ρ, c, Φ, S, h, q⟩ =>
  ⟨m, ρ, c, _, S, h, fun d c1 v H1 m1 hx C1 R1 L1 => ⟨m1, ρ, c1, _, S.step L1 C1, hx, fun ds c2 vs H2 m2 hy C2 R2 L2 => q (d :: ds) c2 (v :: vs) H2 m2 hy C2 ⟨v, vs, rfl, L2.r R1, R2⟩ (L1.trans L2)⟩⟩
def dMakeK (C : Addr) (S : Pm) (np n : Nat) (t : TDs) : TD := fun ρ c Φ => t ρ c fun ds c1 => ds.length = n ∧ ds.length + 1 = np ∧ callI C S ds c1 Φ
theorem pd_makeK (M : Mk X.K C f) (F : FnOk X.prog X.w X.K X.mg X.base CX k f fd ps (spD X.K 1 np S)) (hr : Room (k + 1) X.A) (hm : X.mg x = some (.ref C)) (hb : KBn X.K fd ps 1 ks (fun us ws => us ++ ws) (fun us ws => us ++ ws)) (hx : Passes CX X E) (hkw : PK X kws (liftA X.K tks)) (hg : Gl X x := by rfl)
    (hall : (backToKw pos (keywordEach kws X.env)).all (·.1.isSome) = true := by rfl) (hks : (backToKw pos (keywordEach kws X.env)).filterMap (·.1) = ks := by rfl) (hdb : (x == ("__debug__" : Str)) = false := by decide)
    (hpl : ((backTo pos (starEach [] X.env)).any (·.1) || (backToKw pos (keywordEach kws X.env)).any (·.1.isNone)) = false := by rfl) :
    PD X (.Call (.Name x p) [] kws pos) (dMakeK C S np ks.length tks) := PE.imp (pe_makeK0 M F hr hg hm hb hx hkw hall hks hdb hpl) fun σ H Q ⟨m, ρ, c, Φ, S', h, q⟩ => by
  show liftA X.K tks σ H _
  exact ⟨m, ρ, c, _, S', h, fun ds c1 vs H1 m1 ⟨hn, hl, hc⟩ C1 R1 L1 => ⟨rfl, by rw [← RL.length R1]; exact hn, fun a dx h1 h2 h3 => sp_make C1 R1 hl hc (KQ.le (K := X.K) q L1) h1 h2 h3⟩⟩
end
/-! ### three names at once -/
def dPar3 (i j l : Nat) (ta tb tc : TD) : TSD := fun D ρ c => ta ρ c fun x c1 => tb ρ c1 fun y c2 => tc ρ c2 fun z c3 => D.nx (((ρ.set i (some x)).set j (some y)).set l (some z)) c3
def only3 (P : D → D → D → List Cell → Prop) : List D → List Cell → Prop
  | [x, y, z], c => P x y z c
  | _, _ => False
theorem psd_par3 {X : Cx} {i j l : Nat} {x y z : Str} {a b c : Expr} {ta tb tc : TD} {px py pz pt pos : Pos} {kt k2 pt2} (hc : X.calm = true) (hN : X.N.Nodup) (ha : PD X a ta) (hb : PD X b tb) (hcc : PD X c tc) (hi : X.N[i]? = some x := by rfl) (hj : X.N[j]? = some y := by rfl) (hl : X.N[l]? = some z := by rfl)
    (hij : i ≠ j := by decide) (hil : i ≠ l := by decide) (hjl : j ≠ l := by decide) (hx : X.env.scope.names.lookup x = some .local := by rfl) (hy : X.env.scope.names.lookup y = some .local := by rfl) (hz : X.env.scope.names.lookup z = some .local := by rfl)
    (hs3 : starEach (a :: [b, c]) X.env = (false, eval a X.env) :: starEach [b, c] X.env := by rfl) (hs2 : starEach (b :: [c]) X.env = (false, eval b X.env) :: starEach [c] X.env := by rfl) (hs1 : starEach (c :: []) X.env = (false, eval c X.env) :: starEach [] X.env := by rfl)
    (hw : swappedStores [.Tuple [.Name x px, .Name y py, .Name z pz] kt pt] (.Tuple [a, b, c] k2 pt2) X.env = pure (some [x, y, z]) := by rfl)
    (hs : swapsWithSole [.Tuple [.Name x px, .Name y py, .Name z pz] kt pt] (.Tuple [a, b, c] k2 pt2) pos.line X.env = pure false := by rfl) :
    PSD X (.Assign [.Tuple [.Name x px, .Name y py, .Name z pz] kt pt] (.Tuple [a, b, c] k2 pt2) pos) (dPar3 i j l ta tb tc) :=
  PS.imp (ps_par3 hc hN hi hj hl hij hil hjl hx hy hz (pds_cons ha (pds_cons hb (pds_cons hcc pds_nil hs1) hs2) hs3) hw hs) fun Dn σ H ⟨m, ρ, c, De, S, h, n, r, b, k⟩ =>
  ⟨m, ρ, c, only3 fun x y z c3 => De.nx (((ρ.set i (some x)).set j (some y)).set l (some z)) c3, S, h, fun ds c' vs H' m' hd C R L => by
    match ds, hd with
    | [x, y, z], hd =>
      obtain ⟨u, r1, rfl, ru, v, r2, rfl, rv, w, r3, rfl, rw', e⟩ := R
      cases (show r3 = [] from e)
      exact ⟨u, v, w, rfl, n _ H' m' _ c' hd ((((S.step L C).set ru).set rv).set rw') L⟩⟩
end Cw

namespace Cw
open PySem PySem.Spec PyProof.Rows L2

/-! ### the law's own entry, for FnG -/
abbrev OutG (s₁ : Shared) : Result → Shared → Prop := fun r s' => r = .ok (.ret (.bool true)) ∧ OldK s₁.heap s'.heap ∧ s'.os = s₁.os ∧ AllBare s'.gens
section
variable {P : Program} {w : World} {K : PySem.W.Frag} {mg mb : Str → Option Value} {k : Nat} {fa a : Addr} {fd : FuncData} {x : Str} {sp : Sp} {s₁ : Shared} {vs : List Value} {ns : List Int}
/-- from a heap in which at most the script is tracked -/
theorem entryG {H : Hp} (KX : K.In s₁.heap) (hns : s₁.heap.Ns mainGlobals mg) (hb : s₁.heap.Ns builtinsNs mb) (hbb : ∀ x : Str, x ≠ "__name__" → mb x = bootBuiltins x) (hlim : s₁.heap.NoLimit) (hg : s₁.gens = #[])
    (ha : s₁.heap.get? a = some { cls := .type "list", data := .seq vs.toArray }) (hr : Room k callerA) (F : ∀ base : Heap, K.In base → base.Ns mainGlobals mg → FnG P w K mg base k fa fd [x] sp) (hbind : ∀ (s : Shared) (u : Value), BindsTo s fd ⟨[u], []⟩ [(x, u)])
    (hO : Only H) (hS : sp [.ref a] H (fun v _ => v = .bl true) fun _ _ _ => False) (hok : HOk P w H s₁.heap) (hA : ∀ b, H b ≠ none → b = a) (hK : H a ≠ none → K.lookup a = none) :
    codeAny (model P w) callerA (.call (.ref fa) ⟨[.ref a], []⟩) (OutG s₁) s₁ := by
  have only : ∀ {b : Addr} {u : HO}, H b = some u → b = a := fun {b u} q => hA b (by rw [q]; exact fun z => nomatch z)
  have nsK : ∀ {b : Addr} {m : Str → Option Value}, s₁.heap.Ns b m → (hidT s₁.heap H).Ns b m := fun {b m} ⟨o, es, ep, e, d, r⟩ => by
    refine ⟨o, es, ep, hidT_get e ?_, d, r⟩
    cases q : H b with
    | none => rfl
    | some u =>
      have eb := only q
      subst eb
      rw [ha] at e
      cases e
      exact nomatch (show Data.seq vs.toArray _ = Data.dict es ep from d)
  have hKb : K.In (hidT s₁.heap H) := fun b o e => by
    refine hidT_get (KX b o e) ?_
    cases q : H b with
    | none => rfl
    | some u =>
      have eb := only q
      subst eb
      have := hK (by rw [q]; exact fun z => nomatch z)
      rw [this] at e; cases e
  obtain ⟨mc, l1, l2⟩ := hlim
  have e0 : Env0 P w K mg (hidT s₁.heap H) callerA [] s₁ H :=
    ⟨rfl, ⟨hKb, nsK hns, ⟨mb, nsK hb, hbb⟩, ⟨mc, nsK l1, l2⟩⟩, fun b o e => of_hidT e, Nat.le_of_eq (hidT_size _ _), trivial, fun b z => (List.not_mem_nil z).elim, hok, .of_eq hg⟩
  have run := (F _ hKb (nsK hns)).rn callerA [] s₁ H ⟨[.ref a], []⟩ [.ref a] [.ref a] _ _ rfl hr e0 (hbind s₁ (.ref a)) (.cons rfl .nil) hS
  refine codeAny_mono run fun r s' h => ?_
  cases r with
  | error e => exact False.elim h
  | ok fl =>
    cases fl with
    | ret u =>
      obtain ⟨v, H', os, bare, un, hok', rv, hv⟩ := h
      cases (show v = .bl true from hv)
      cases (show u = Value.bool true from rv)
      refine ⟨rfl, OldK.of_keep fun b o e => ?_, os, bare⟩
      cases q : H b with
      | none => exact un.keep b o e q (fun z => (List.not_mem_nil z).elim) (fun z => (List.not_mem_nil z).elim)
      | some u =>
        rcases hO b with z | ⟨ob, xs, z⟩
        · rw [q] at z; cases z
        · have old := (hok b _ z).1
          rw [e] at old
          cases old
          exact (hok' b _ (un.frzs b _ _ z)).1
    | next => exact False.elim h
    | brk => exact False.elim h
    | cont => exact False.elim h
theorem lawG (KX : K.In s₁.heap) (hns : s₁.heap.Ns mainGlobals mg) (hb : s₁.heap.Ns builtinsNs mb) (hbb : ∀ x : Str, x ≠ "__name__" → mb x = bootBuiltins x) (hlim : s₁.heap.NoLimit) (hg : s₁.gens = #[])
    (ha : s₁.heap.get? a = some { cls := .type "list", data := .seq vs.toArray }) (hi : IntsAre vs ns) (hl : ns.length ≤ sizeLine) (hr : Room k callerA) (F : ∀ base : Heap, K.In base → base.Ns mainGlobals mg → FnG P w K mg base k fa fd [x] sp) (hbind : ∀ (s : Shared) (u : Value), BindsTo s fd ⟨[u], []⟩ [(x, u)])
    (hsp : ∀ H : Hp, Only H → HOk P w H s₁.heap → SqL K H a (ns.map V.int) → sp [.ref a] H (fun v _ => v = .bl true) fun _ _ _ => False) : codeAny (model P w) callerA (.call (.ref fa) ⟨[.ref a], []⟩) (OutG s₁) s₁ := by
  have rv := vals_ints hi
  have hl' : (ns.map V.int).length ≤ sizeLine := by rw [List.length_map]; exact hl
  cases hk : K.lookup a with
  | some o =>
    have eo := (KX a o hk).symm.trans ha
    cases eo
    have ok0 : HOk P w (fun _ => none) s₁.heap := fun b u z => nomatch (show (none : Option HO) = some u from z)
    exact entryG KX hns hb hbb hlim hg ha hr F hbind (fun _ => .inl rfl) (hsp _ (fun _ => .inl rfl) ok0 (.inr ⟨_, vs.toArray, _, hk, rfl, rfl, rfl, by rw [List.size_toArray, hi.length]; exact hl, by simpa using rv⟩)) ok0 (fun b z => absurd rfl z) fun z => absurd rfl z
  | none =>
    let T : HO := .frz { cls := .type "list", data := .seq vs.toArray } (.lst (ns.map V.int))
    have at_ : ∀ b, (upd (fun _ => none) a T) b ≠ none → b = a := fun b z => Decidable.byContradiction fun hb => z (upd_ne hb)
    have hO : Only (upd (fun _ => none) a T) := fun b => by
      by_cases e : b = a
      · subst e; exact .inr ⟨_, _, upd_same⟩
      · exact .inl (upd_ne e)
    have ok1 : HOk P w (upd (fun _ => none) a T) s₁.heap := fun b u z => by
      have e := at_ b (by rw [z]; exact fun z => nomatch z)
      subst e
      rw [upd_same] at z
      cases z
      exact ⟨ha, hl', vs, _, rv, ha⟩
    exact entryG KX hns hb hbb hlim hg ha hr F hbind hO (hsp _ hO ok1 (.inl (.inr ⟨_, upd_same⟩))) ok1 at_ fun _ => hk
end
theorem walkG {l : PySem.W.OpenLaw} {n k : Nat} {q : Program} {loose : List Str} {XP : (Str → Option Value) → Heap → Prop} {YP : World → Heap → Prop} {d : DefRec} {K : Params → PySem.W.Frag} {sp : World → Sp} {x : Str}
    (hn : l.most = some n) (hn2 : n ≤ sizeLine) (hdf : d.params.defaults = []) (hr : Room k callerA) (hY : ∀ (w : World) (h : Heap), YP w h → (K w.params).In h)
    (F : ∀ (w : World) (mg : Str → Option Value) (fa : Addr) (h : Heap), (K w.params).In h → h.Ns mainGlobals mg → mg d.name = some (.ref fa) →
      ∃ fd : FuncData, (∀ (s : Shared) (u : Value), BindsTo s fd ⟨[u], []⟩ [(x, u)]) ∧ ∀ base : Heap, (K w.params).In base → base.Ns mainGlobals mg → FnG l.prog w (K w.params) mg base k fa fd [x] (sp w))
    (hsp : ∀ (w : World) (h : Heap) (H : Hp) (a : Addr) (ns : List Int), ns.length ≤ n → Only H → HOk l.prog w H h → SqL (K w.params) H a (ns.map V.int) → sp w [.ref a] H (fun v _ => v = .bl true) fun _ _ _ => False) :
    PySem.W.WalkO q loose XP YP l.row.toRowW d [] (fun f vs => PySem.call f vs) := by
  refine Att.attach_call hn hdf fun w s₀ s₁ mg mb fa o pm cd doc a vs ns G Y ho hd hcd hmg hobj hints hlen hg => ?_
  have KX := hY w _ Y
  obtain ⟨fd, hb, hF⟩ := F w mg fa _ KX G.T.g hmg
  exact lawG KX G.T.g G.T.b G.T.builtins G.T.nolimit hg hobj hints (Nat.le_trans hlen hn2) hr hF hb fun H hO hk hS => hsp w _ H a ns hlen hO hk hS
end Cw

namespace Cw
open PySem PySem.Spec PyProof.Rows L2

/-! ### sorted({e for x in t}), e texts -/
def dSortSet (ti : TDs) (i : Nat) (te : TD) : TD := fun ρ c Φ => ti ρ c fun ds c1 => ∃ ys : List Str, ys.length = ds.length ∧ ds.length < 64 ∧
  (∀ (j : Nat) d y, ds[j]? = some d → ys[j]? = some y → ∀ Ψ : D → List Cell → Prop, Ψ (.str y) c1 → te (ρ.set i (some d)) c1 Ψ) ∧ ∀ zs : List Str, zs.Nodup → sortedS zs = true → (∀ x, x ∈ zs ↔ x ∈ ys) → Φ (.lst (zs.map .str)) c1
end Cw

namespace Cw
open PySem PySem.Spec PyProof.Rows L2 PySem.Froz

/-! ### a set of texts that can be walked -/
theorem tailTx_ris {ep : Nat} {es : Array (Int × Value)} {t : SetTable} {b : Bool} (r : Ris t.place.toList) : Ris (tailTx ep es t b).2.2.place.toList := by
  unfold tailTx
  split
  · exact relayAll_ris _ _ _
  · exact r
theorem tailTx_led {ep : Nat} {es : Array (Int × Value)} {t : SetTable} {b : Bool} : (tailTx ep es t b).2.2.led = t.led := by
  unfold tailTx
  split
  · exact relayAll_led _ _ _
  · rfl
theorem addTx_ris {h : Int} {v : Value} {D : SD} (r : Ris D.2.2.place.toList) : Ris (addTx h v D).2.2.place.toList := by
  unfold addTx
  refine tailTx_ris ?_
  have := layNew_ris D.2.2 D.1 h v r
  split <;> exact this
theorem addTx_led {h : Int} {v : Value} {D : SD} : (addTx h v D).2.2.led = D.2.2.led := by
  unfold addTx
  rw [tailTx_led]
  have := layNew_led D.2.2 D.1 h v
  split <;> exact this
/-- at a stands a set with just the texts l, no two alike, that can be walked -/
structure TxA (P : Program) (w : World) (h : Heap) (a : Addr) (l : List Str) : Prop where
  ex : ∃ D : SD, h.get? a = some (sObj "set" D) ∧ TxOk P w D l ∧ Ris D.2.2.place.toList ∧ (w.params.followText "set-order" = true ∨ D.2.2.led = true)
  nd : l.Nodup
section
variable {P : Program} {w : World} {A : Around} {E : Value → Shared → Prop} {s : Shared} {a : Addr} {l : List Str} {k : Str} {tk : Tok}
theorem TxA.put (R : TxA P w s.heap a l) (hb : l.length + 1 < scanBound) {Q : Bool → Shared → Prop}
    (h1 : k ∉ l → ∀ h', Heap.SameBut a s.heap h' → TxA P w h' a (k :: l) → Q true { s with heap := h' }) (h2 : k ∈ l → Q false s) :
    wpAny (model P w) A (setAddHashed a (.str k tk) (hashStr w k)) Q E s := by
  obtain ⟨⟨D, ho, F, r, le⟩, nd⟩ := R
  by_cases hk : k ∈ l
  · obtain ⟨es, ep, t⟩ := D
    have hd : (sObj "set" (es, ep, t)).data = .set es ep t := rfl
    have few : es.size < scanBound := by
      have := F.sz
      have this : es.size = l.length := this
      omega
    unfold setAddHashed setAddHashedIn
    refine wpAny_holding (wpAny_bind (wpAny_setState_of ho hd F.fit ?_))
    dsimp only
    rw [byScan_of rfl few F.el]
    simp only [↓reduceIte]
    unfold setAddByScan
    refine wpAny_bind (wpAny_bind (wpAny_rule (wpAny_bind (wpAny_setScan_of (knd := PySem.strKind P w) (k := k) (is_str k tk) ho hd F.fit F.el ?_))))
    cases e : List.findIdx? (fun e => (PySem.strKind P w).is k e.2) es.toList with
    | some j => exact wpAny_pure (wpAny_pure (h2 hk))
    | none =>
      obtain ⟨x, hx, hi⟩ := (F.mem k).mp hk
      have := List.findIdx?_eq_none_iff.mp e x hx
      rw [hi] at this; cases this
  · refine add_x ho F hk hb (h1 hk _ (Heap.SameBut.update s.heap a _) ⟨⟨addTx (hashStr w k) (.str k tk) D, ?_, add_ok tk F, addTx_ris r, by rw [addTx_led]; exact le⟩, List.nodup_cons.mpr ⟨hk, nd⟩⟩)
    exact Heap.get?_update_self _ ho rfl
open Builtin in
theorem TxA.add (R : TxA P w s.heap a l) (hb : l.length + 1 < scanBound) {Q : Value → Shared → Prop}
    (h1 : k ∉ l → ∀ h', Heap.SameBut a s.heap h' → TxA P w h' a (k :: l) → Q .none { s with heap := h', toks := s.toks + 1 }) (h2 : k ∈ l → Q .none { s with toks := s.toks + 1 }) :
    wpAny (model P w) A (call (.builtin "set.add") [.ref a, .str k tk]) Q E s := by
  obtain ⟨D, ho, _⟩ := R.ex
  refine wpAny_call_entry PySem.F.slot_set_add ⟨_, ho, rfl⟩ PySem.F.entry_set_add ?_ (PySem.F.args_set_add_2 _ _)
  unfold Builtin.«set.add» Builtin.Frozenset.oneOther
  simp only [List.isEmpty_nil, bind_assoc]
  unfold Builtin.Frozenset.addrOf setAdd
  refine wpAny_bind (wpAny_pure ?_)
  try dsimp only
  refine wpAny_bind (wpAny_pure ?_)
  try dsimp only
  refine wpAny_bind (wpAny_holding (wpAny_bind ((PySem.strKind P w).pyHash (is_str k tk) ?_)))
  refine TxA.put (s := { s with toks := s.toks + 1 }) R hb (fun hk h' sb r => ?_) fun hk => ?_
  · exact wpAny_pure ⟨_, rfl, h1 hk h' sb r⟩
  · exact wpAny_pure ⟨_, rfl, h2 hk⟩
end
/-- tracked -/
def TxO (P : Program) (w : World) (a : Addr) (l : List Str) : HO := .ext fun h => TxA P w h a l
theorem TxA.keep {P : Program} {w : World} {h h' : Heap} {a : Addr} {l : List Str} (R : TxA P w h a l) (k : ∀ o, h.get? a = some o → h'.get? a = some o) : TxA P w h' a l := by
  obtain ⟨⟨D, ho, r⟩, nd⟩ := R
  exact ⟨⟨D, k _ ho, r⟩, nd⟩
theorem TxA.fresh {P : Program} {w : World} {h : Heap} : TxA P w (h.push { cls := .type "set", dict := none, data := .set #[] 0 (.fresh 0 0 (!w.params.followText "set-order")) }) h.objs.size [] :=
  ⟨⟨(#[], 0, .fresh 0 0 (!w.params.followText "set-order")), Heap.get?_push_size _ rfl, TxOk.nil (by rfl), List.Pairwise.nil, by
    show _ ∨ (!w.params.followText "set-order") = true
    cases w.params.followText "set-order"
    · exact .inr rfl
    · exact .inl rfl⟩, List.nodup_nil⟩
theorem txO_new {P : Program} {w : World} {H : Hp} {h : Heap} {a : Addr} {l : List Str} (R : TxA P w h a l) : ObjOk P w H h a (TxO P w a l) := by
  obtain ⟨D, ho, _⟩ := R.ex
  exact ⟨R, ⟨_, ho⟩, fun _ _ p k => p.keep k⟩
theorem txO_get {X : Cx} {pins : List (Addr × Obj)} {σ : L2.St} {H : Hp} {s : Shared} {a : Addr} {l : List Str} (I : Inv X pins σ H s) (ha : H a = some (TxO X.prog X.w a l)) : TxA X.prog X.w s.heap a l := (I.hok a _ ha).1
theorem addT_ok {X : Cx} {pins : List (Addr × Obj)} {σ : L2.St} {H : Hp} {s : Shared} {E : Value → Shared → Prop} {D : Addr} {l : List Str} {k : Str} {tk : Tok} {Q : Value → Shared → Prop} (I : Inv X pins σ H s) (hD : H D = some (TxO X.prog X.w D l)) (room : l.length + 1 < scanBound)
    (h : ∀ s', Inv X pins σ (upd H D (TxO X.prog X.w D (if k ∈ l then l else k :: l))) s' → Q .none s') : wpAny (model X.prog X.w) X.A (call (.builtin "set.add") [.ref D, .str k tk]) Q E s := by
  have R := txO_get I hD
  refine R.add room (fun hk h' sb new => ?_) fun hk => ?_
  · rw [if_neg hk] at h
    obtain ⟨D', ho, _⟩ := new.ex
    exact h _ (I.write (e := D) (t' := s.toks + 1) (by rw [hD]; trivial) (.inl rfl) (fun b u hb hu => (sb.2 b hb).trans hu) ⟨_, ho⟩ (txO_new new))
  · rw [if_pos hk] at h
    have e : upd H D (TxO X.prog X.w D l) = H := by
      funext b
      by_cases hb : b = D
      · subst hb; rw [upd_same, hD]
      · rw [upd_ne hb]
    rw [e] at h
    exact h _ (I.tok _)
end Cw

namespace Cw
open PySem PySem.Spec PyProof.Rows L2 PySem.Froz

/-! ### {e for x in t}, e texts: the walk -/
def mem1 (k : Str) (l : List Str) : List Str := if k ∈ l then l else k :: l
def tTx (P : Program) (w : World) (wi : TI) (g : TG) (te : TE) (vs : List Nat) : TE := fun σ H Q => wi σ H fun J Ha => ∀ p, Ha p = none → ∃ Z : Nat → Nat → Hp → Prop, (∃ m, Z 0 m (upd Ha p (TxO P w p []))) ∧
  ∀ i m H, Z i m H → (J.stop i H ∧ Q (.ref p) H) ∨ (J.go i H ∧ ∃ Nx : Hp → Prop, (∀ H', Nx H' → ∃ m', m' < m ∧ Z (i + 1) m' H') ∧ ∀ x H', J.yld i H x H' → g x (wipe σ vs) H' fun σ2 H2 => wipe σ2 vs = wipe σ vs ∧
    te σ2 H2 fun y Hb => ∃ (k : Str) (l : List Str), y = .str k ∧ Hb p = some (TxO P w p l) ∧ l.length + 1 < scanBound ∧ Nx (upd Hb p (TxO P w p (mem1 k l))))
section
variable {X : Cx} {elt tg it : Expr} {scope : Scope} {own : List (Str × Nat)} {pos : Pos} {wi : TI} {g : TG} {te : TE}
theorem tx_walk (hc : X.calm = true) (hN : X.N.Nodup) (hi : PI X tg it wi) (ok : BlkOk X.N X.env.scope scope own)
    (hg : ∀ (s : Shared) (H : Hp) (C : Addr) (cl : List (Str × Addr)) (fp : List Addr), PG (X.blk s H scope (compEnvC scope cl C X.env) fp) tg g)
    (he : ∀ (s : Shared) (H : Hp) (C : Addr) (cl : List (Str × Addr)) (fp : List Addr), PE (X.blk s H scope (compEnvC scope cl C X.env) fp) elt te) (hs : ∀ x, foldedSetIterable it X.env x = pure x) :
    PE X (.SetComp elt [⟨tg, it, [], 0⟩] scope pos) (tTx X.prog X.w wi g te (own.map (·.2))) := by
  refine ⟨fun pins s σ H Q I h => ?_⟩
  rw [PpSet.eval_SetComp]
  have caps : ∀ n ∈ scope.names, n.2 = .free → ∃ c, X.env.cells.lookup n.1 = some c := fun n hn e => (ok.free n hn e).elim (fun z => I.ok.has _ (.inl z)) fun z => I.ok.has _ (.inr z)
  refine wpAny_comprehension_free (use := none) rfl hs (closure_ok caps) ok.kind (fun n hn e => by rw [ok.uniq n hn, e]) (thn (hi.run pins s σ H _ I h) fun v0 s1 a1 => thn a1 fun v1 s2 a2 => ?_)
  obtain ⟨b, fp, tn, J, Ha, ev, I2, T, st2, f2, q⟩ := a2
  subst ev
  refine PpSet.newSet_ok (newEnv_comp ?_)
  generalize hp : s2.heap.objs.size = p
  have pn : Ha p = none := I2.hok.fresh (Nat.le_of_eq hp)
  obtain ⟨Z, ⟨m0, z0⟩, turn⟩ := q p pn
  generalize hs3 : ({ s2 with heap := s2.heap.push { cls := .type "set", dict := none, data := .set #[] 0 (.fresh 0 0 (!X.w.params.followText "set-order")) } } : Shared) = s3
  have eh : s3.heap = s2.heap.push { cls := .type "set", dict := none, data := .set #[] 0 (.fresh 0 0 (!X.w.params.followText "set-order")) } := by subst hs3; rfl
  have I3 : Inv X pins σ (upd Ha p (TxO X.prog X.w p [])) s3 := by
    subst hs3
    refine I2.laid (t' := s2.toks) (fun _ _ e => Heap.get?_push_of_some _ e) (Nat.le_of_eq hp) ?_
    subst hp
    exact txO_new TxA.fresh
  have f3 : ∀ c ∈ fp, FpOk X pins (upd Ha p (TxO X.prog X.w p [])) c ∧ c < s3.heap.objs.size := fun c hm => by
    obtain ⟨o, eo, _⟩ := T.obj _ _ st2 c hm
    have lt := Heap.lt_size eo
    have ne : c ≠ p := by rw [← hp]; exact Nat.ne_of_lt lt
    exact ⟨⟨(upd_ne ne).trans (f2 c hm).1, (f2 c hm).2⟩, by rw [eh, Heap.size_push]; exact Nat.lt_succ_of_lt lt⟩
  have st3 : tn 0 s3.heap := T.keep _ _ _ st2 fun c _ o e => by rw [eh]; exact Heap.get?_push_of_some _ e
  generalize hHb : upd Ha p (TxO X.prog X.w p []) = Hb at I3 f3 z0
  have I4 := block_start I3 ok hN f3
  have pg := hg s3 Hb s3.heap.objs.size (cellsFrom (s3.heap.objs.size + 1) scope.names (cloFrom X.env.cells scope.names [])) fp
  have pe := he s3 Hb s3.heap.objs.size (cellsFrom (s3.heap.objs.size + 1) scope.names (cloFrom X.env.cells scope.names [])) fp
  show codeAny _ _ (.compStart (.SetComp elt [⟨tg, it, [], 0⟩] scope pos) 0 (.ref b) (.ref p) (compEnvC scope (cellsFrom (s3.heap.objs.size + 1) scope.names (cloFrom X.env.cells scope.names [])) s3.heap.objs.size X.env)) (compPost (model X.prog X.w) X.A X.xe none _ (.ref p) s3.heap.objs.size) { s3 with heap := pushCells (s3.heap.push { cls := .type "dict", data := .dict #[] }) scope.names }
  generalize hce : compEnvC scope (cellsFrom (s3.heap.objs.size + 1) scope.names (cloFrom X.env.cells scope.names [])) s3.heap.objs.size X.env = ce at I4 pg pe ⊢
  have el : ce.locals = s3.heap.objs.size := by subst hce; rfl
  generalize hs4 : ({ s3 with heap := pushCells (s3.heap.push { cls := .type "dict", data := .dict #[] }) scope.names } : Shared) = s4 at I4 ⊢
  have st4 : tn 0 s4.heap := T.keep _ _ _ st3 fun c _ o e => by subst hs4; exact pushCells_keeps _ _ _ _ (Heap.get?_push_of_some _ e)
  -- what is walked stands still
  have fpk : ∀ {τ : L2.St} {Hz : Hp} {sz : Shared}, Inv (X.blk s3 Hb scope ce fp) [] τ Hz sz → (∀ c ∈ fp, Hz c = none) → ∀ c ∈ fp, FpOk (X.blk s3 Hb scope ce fp) [] Hz c := fun Iz nz c hm => by
    refine ⟨nz c hm, (Iz.ok.exf c hm).1, Iz.ok.exfs c hm, .inl hm, fun n d e => (Iz.ok.exf c hm).2 n d e, fun pr hpr => ?_⟩
    rw [List.append_nil] at hpr
    cases hpr
  have loop : codeAny (model X.prog X.w) X.A (.compLoop (.SetComp elt [⟨tg, it, [], 0⟩] scope pos) 0 (.ref b) (.ref p) ce) (compPost (model X.prog X.w) X.A X.xe none (EP X pins σ Q) (.ref p) s3.heap.objs.size) s4 := by
    refine PpSet.compLoopS_any (fun n sz => ∃ i Hz, Inv (X.blk s3 Hb scope ce fp) [] (wipe σ (own.map (·.2))) Hz sz ∧ tn i sz.heap ∧ (∀ c ∈ fp, Hz c = none) ∧ Z i n Hz) ?_ m0 ⟨0, Hb, I4, st4, fun c hm => (f3 c hm).1.1, z0⟩
    rintro n s5 ⟨i, Hc, I5, st5, n5, z5⟩
    rcases turn i n Hc z5 with ⟨stop, fin⟩ | ⟨go, Nx, next, step⟩
    · refine thnF (T.done (X.blk s3 Hb scope ce fp) rfl rfl rfl hc i [] s5 _ Hc (fun _ _ => False) I5 (fpk I5 n5) st5 stop) fun r s6 ⟨er, I6⟩ => ?_
      subst er
      have I7 : Inv X pins σ Hc s6 := I3.call' (ch := fp) I6.os I6.base I6.hok I6.bare fun c hm => ⟨(f3 c hm).1.2.2.2.1, (f3 c hm).1.2.1, (f3 c hm).1.2.2.2.2.1, (f3 c hm).1.2.2.2.2.2⟩
      have nl : Hc s3.heap.objs.size = none := by rw [← el]; exact I6.free
      obtain ⟨m, hm, _⟩ := I6.loc
      have hm : s6.heap.Ns ce.locals m := hm
      rw [el] at hm
      obtain ⟨g0, g1, g2, g3, g4, g5⟩ := I3.fpOk (Nat.le_refl _) nl
      exact ⟨m, hm, fun h'' sb => ⟨.ref p, Hc, I7.turned (t' := s6.toks) (fun c o hb e => (sb.2 c hb).trans e) g0 g1 g3 g4 g5, rfl, fin⟩⟩
    · refine thnF (T.item (X.blk s3 Hb scope ce fp) rfl rfl rfl hc i [] s5 _ Hc (fun _ _ => False) I5 (fpk I5 n5) st5 go) fun r s6 ⟨u, er, a6⟩ => ?_
      subst er
      refine thnF a6 fun _ s7 ⟨x, Hd, I7, r7, y7, st7, n7⟩ => ?_
      refine thnF (pg.run _ s7 _ Hd x u _ (I7.pinned (fpk I7 n7) (T.obj _ _ st7)) r7 (step x Hd y7)) fun _ s8 ⟨τ, He, I8, ew, q8⟩ => ?_
      have still : ∀ {sz : Shared} {Hz : Hp}, Inv (X.blk s3 Hb scope ce fp) ([] ++ pinsAt fp s7.heap) τ Hz sz → Nx Hz → ∃ m, m < n ∧ ∃ i Hz, Inv (X.blk s3 Hb scope ce fp) [] (wipe σ (own.map (·.2))) Hz sz ∧ tn i sz.heap ∧ (∀ c ∈ fp, Hz c = none) ∧ Z i m Hz := fun {sz Hz} Iz nx => by
        obtain ⟨m', lt, z'⟩ := next Hz nx
        have pin : ∀ c ∈ fp, ∀ o, s7.heap.get? c = some o → sz.heap.get? c = some o ∧ Hz c = none := fun c hm o e => by
          have t := Iz.pin (c, o) (List.mem_append_right _ (List.mem_append_right _ (mem_pinsAt hm e)))
          exact ⟨t.1, t.2.1⟩
        refine ⟨m', lt, i + 1, Hz, (Iz.unpinned (pins := [])).weak (by rw [← ew, wipe_length]) (fun j v e => ?_), T.keep _ _ _ st7 fun c hm o e => (pin c hm o e).1, fun c hm => ?_, z'⟩
        · rw [← ew] at e; exact (wipe_some e).1
        · obtain ⟨o, e, _⟩ := T.obj _ _ st7 c hm
          exact (pin c hm o e).2
      show wpAny _ _ (pure true) _ _ _
      refine wpAny_pure ?_
      rw [if_pos rfl]
      refine thnF (pe.run _ s8 τ He _ I8 q8) fun u s9 ⟨v, Hf, I9, r9, k, l, evk, hp9, room, nx⟩ => ?_
      subst evk
      obtain ⟨tk, rfl⟩ := r9
      exact addT_ok (X := X.blk s3 Hb scope ce fp) I9 hp9 room fun s10 I10 => still I10 nx
  exact PpSet.codeAny_compStart_set loop (T.self X.A 0 _ _ _ st4 loop)
end
/-! ### sorted of it -/
theorem perm_in : ∀ {l ks : List Str}, l.Nodup → (∀ x ∈ l, x ∈ ks) → ks.length = l.length → ks.Perm l
  | [], ks, _, _, e => by
    have : ks = [] := List.eq_nil_of_length_eq_zero e
    subst this; exact .nil
  | x :: l, ks, nd, sub, e => by
    obtain ⟨hx, nd'⟩ := List.nodup_cons.mp nd
    have hm := sub x List.mem_cons_self
    refine (List.perm_cons_erase hm).trans (.cons x (perm_in nd' (fun y hy => ?_) ?_))
    · exact (List.mem_erase_of_ne (fun z => by subst z; exact hx hy)).mpr (sub y (List.mem_cons_of_mem _ hy))
    · rw [List.length_erase_of_mem hm, e]; rfl
def txtOf : Value → Str
  | .str k _ => k
  | _ => Str.empty
theorem txts_are : ∀ {us : List Value}, (∀ u ∈ us, ∃ k t, u = .str k t) → StrsAre us (us.map txtOf)
  | [], _ => .nil
  | u :: us, h => by
    obtain ⟨k, t, rfl⟩ := h u List.mem_cons_self
    exact .cons k t (txts_are fun v hv => h v (List.mem_cons_of_mem _ hv))
section
variable {X : Cx}
def rSortTx (P : Program) (w : World) : List V → Hp → VK → Prop := fun xs H Q => ∃ (a : Addr) (l : List Str), xs = [.ref a] ∧ H a = some (TxO P w a l) ∧ l.length < 64 ∧
  ∀ (ys : List Str) (p : Addr), ys.Nodup → (∀ x, x ∈ ys ↔ x ∈ l) → sortedS ys = true → H p = none → Q (.ref p) (upd H p (.lst (ys.map .str)))
theorem call_sortTx (hc : X.calm = true) : CallR X (.builtin "sorted") (rSortTx X.prog X.w) := by
  intro pins s σ H xs us Q I r q
  obtain ⟨a, l, rfl, ha, few, q⟩ := q
  rw [Vals.ref1 r]
  have R := txO_get I ha
  obtain ⟨⟨D, ho, F, rs, le⟩, nd⟩ := R
  obtain ⟨es, ep, tb⟩ := D
  have hsz : es.size = l.length := F.sz
  refine Calls.call_function_entry kind_sorted plain_sorted entry_sorted (args_sorted1 _) ?_
  unfold Builtin.«sorted»
  refine wpAny_bind (m := checkCount "sorted" 1 1 _) (wpAny_pure (wpAny_bind ?_))
  refine collect_set (I.ok.hd hc) ⟨_, ho, rfl, rfl⟩ F.fit (Nat.lt_trans (show es.size < 64 by omega) (by decide)) rs le fun s1 vs kp hz gn eo pm => ?_
  have hvl : vs.length = l.length := by rw [pm.length_eq, List.length_map, Array.length_toList]; exact hsz
  have shape : ∀ v ∈ vs, ∃ k t, v = Value.str k t := fun v hv => by
    obtain ⟨e, he, ev⟩ := List.mem_map.mp (pm.mem_iff.mp hv)
    obtain ⟨⟨k, hk, _⟩, _⟩ := F.el e he
    obtain ⟨t, et⟩ := Value.isStrOf_shape (x := k) (v := e.2) hk
    exact ⟨k, t, by rw [← ev]; exact et⟩
  have hS := txts_are shape
  have hks : (vs.map txtOf).Perm l := perm_in nd (fun k hk => by
    obtain ⟨e, he, hi⟩ := (F.mem k).mp hk
    obtain ⟨t, et⟩ := Value.isStrOf_shape (x := k) (v := e.2) hi
    exact List.mem_map.mpr ⟨e.2, pm.mem_iff.mpr (List.mem_map_of_mem he), by rw [et]; rfl⟩) (by rw [List.length_map, hvl])
  have e1 : s1 = { s with heap := s1.heap, gens := s1.gens, drawn := s1.drawn, toks := s1.toks } := by
    cases s1; cases s; cases eo; rfl
  refine wpAny_bind (wpAny_newList ?_ (by rw [hvl, sizeLine_eq]; omega))
  have at0 : (s1.heap.push (seqObj "list" vs.toArray 0)).get? s1.heap.objs.size = some (seqObj "list" vs.toArray 0) := Heap.get?_push_size _ rfl
  refine wpAny_bind (wpAny_holding (wpAny_call_entry slot_list_sort ⟨_, at0, rfl⟩ entry_list_sort (list_sort_treeK strKind_oneLt at0 hS.keysOf (fun v₁ v₂ rest e => keyKind_strs (by rw [← e]; exact hS)) (by rw [hvl]; exact few) fun st' hp hs => ⟨_, rfl, ?_⟩) (args_list_sort _)))
  obtain ⟨ys, g1, g2, g3⟩ := sorted_out_str hS hp hs
  obtain ⟨c, hc'⟩ := sortedHeap_at (vs := vs) (out := (arrOf st').map (·.2)) at0
  have lim : (ys.map V.str).length ≤ sizeLine := by
    rw [List.length_map, g2.length_eq, List.length_map, hvl, sizeLine_eq]; omega
  have old : ∀ b u, s.heap.get? b = some u → (sortedHeap (s1.heap.push (seqObj "list" vs.toArray 0)) s1.heap.objs.size vs ((arrOf st').map (·.2))).get? b = some u := fun b u e => by
    have z := kp b u e
    have lt := Heap.lt_size z
    rw [sortedHeap_old (Nat.ne_of_lt lt) (by rw [size_push']; exact Nat.lt_succ_of_lt lt)]
    exact Heap.get?_push_of_some _ z
  have pn : H s1.heap.objs.size = none := I.hok.fresh hz
  have J : Inv X pins σ (upd H s1.heap.objs.size (.lst (ys.map V.str))) { s with heap := sortedHeap (s1.heap.push (seqObj "list" vs.toArray 0)) s1.heap.objs.size vs ((arrOf st').map (·.2)), gens := s1.gens, drawn := s1.drawn, toks := s1.toks } :=
    I.call (ch := []) (Un.laid old hz pn) (I.hok.laid old hz ⟨lim, ((arrOf st').map (·.2)).toList, c, vals_of_strs g1, by rw [Array.toArray_toList]; exact hc'⟩) (by rw [gn]; exact I.bare) (fun _ z => nomatch z)
  rw [e1]
  exact wpAny_pure ⟨_, rfl, .ref s1.heap.objs.size, _, J, rfl, q ys _ ((g2.trans hks).nodup_iff.mpr nd) (fun x => (g2.trans hks).mem_iff) g3 pn⟩
end
/-! ### the set is no part of what is read -/
section
variable {K : PySem.W.Frag} {ix : List Addr} {H H' : Hp} {p : Addr} {f : Heap → Prop}
theorem no_rd {a : Addr} {u : HO} (hp : H p = some (.ext f)) (k : ∀ b o, b ≠ p → H b = some o → H' b = some o) (hu : ∀ g, u ≠ .ext g) (h : Rd H a u) : Rd H' a u := by
  rcases h with h | ⟨o, h⟩
  · by_cases e : a = p
    · subst e; rw [hp] at h; cases h; exact absurd rfl (hu f)
    · exact .inl (k a _ e h)
  · by_cases e : a = p
    · subst e; rw [hp] at h; cases h
    · exact .inr ⟨o, k a _ e h⟩
mutual
theorem R.off (hp : H p = some (.ext f)) (k : ∀ b o, b ≠ p → H b = some o → H' b = some o) : ∀ (d : D) (v : V), R K ix H d v → R K ix H' d v
  | .non, _, h => h
  | .bl _, _, h => h
  | .int _, _, h => h
  | .str _, _, h => h
  | .tup ds, _, ⟨a, xs, e1, h1, h2⟩ => ⟨a, xs, e1, h1.imp (no_rd hp k (fun _ z => nomatch z)) id, RL.off hp k ds xs h2⟩
  | .lst ds, _, ⟨a, xs, e1, h1, h2⟩ => ⟨a, xs, e1, k a _ (fun e => by subst e; rw [hp] at h1; cases h1) h1, RL.off hp k ds xs h2⟩
  | .fl ds, _, ⟨a, xs, e1, h1, h2⟩ => ⟨a, xs, e1, h1.imp (no_rd hp k (fun _ z => nomatch z)) id, RL.off hp k ds xs h2⟩
  | .cell j, _, h => h
  | .ins _ _ ds, _, ⟨a, dx, fs, e1, h1, h2, h3⟩ => ⟨a, dx, fs, e1, k a _ (fun e => by subst e; rw [hp] at h1; cases h1) h1, h2, RL.off hp k ds _ h3⟩
  | .dct _ ds, _, ⟨a, kvs, e1, h1, h2, h3⟩ => ⟨a, kvs, e1, no_rd hp k (fun _ z => nomatch z) h1, h2, RL.off hp k ds _ h3⟩
  | .dcT _ ds, _, ⟨a, kvs, e1, h1, h2, h3⟩ => ⟨a, kvs, e1, k a _ (fun e => by subst e; rw [hp] at h1; cases h1) h1, h2, RL.off hp k ds _ h3⟩
  | .raw _, _, h => h
theorem RL.off (hp : H p = some (.ext f)) (k : ∀ b o, b ≠ p → H b = some o → H' b = some o) : ∀ (ds : List D) (xs : List V), RL K ix H ds xs → RL K ix H' ds xs
  | [], _, h => h
  | d :: ds, _, ⟨x, r, e1, h1, h2⟩ => ⟨x, r, e1, R.off hp k d x h1, RL.off hp k ds r h2⟩
end
end
theorem CR.off {K : PySem.W.Frag} {H : Hp} {m : Ad} {c : List Cell} {p : Addr} {f : Heap → Prop} {o : HO} (C : CR K H m c) (hp : H p = some (.ext f)) (hn : p ∉ m.ix ∧ p ∉ m.hd) : CR K (upd H p o) m c := by
  have hp' : hid m H p = some (.ext f) := by rw [hid_of hn]; exact hp
  have k : ∀ b u, b ≠ p → hid m H b = some u → hid m (upd H p o) b = some u := fun b u ne e => by
    obtain ⟨h1, h2⟩ := hid_some e
    rw [hid_of h1, upd_ne ne]; exact h2
  refine ⟨C.len, C.nd, fun j ce e => ?_, fun b hb => ?_, C.dj⟩
  · obtain ⟨a, h1, h2⟩ := C.at_ j ce e
    have ne : a ≠ p := fun z => hn.1 (z ▸ List.mem_of_getElem? h1)
    refine ⟨a, h1, ?_⟩
    cases ce with
    | lst ds => obtain ⟨xs, h3, h4⟩ := h2; exact ⟨xs, by rw [upd_ne ne]; exact h3, RL.off hp' k ds xs h4⟩
    | obj C' ns ds => obtain ⟨dx, fs, h3, h4, h5⟩ := h2; exact ⟨dx, fs, by rw [upd_ne ne]; exact h3, h4, RL.off hp' k ds _ h5⟩
    | dct ks ds => obtain ⟨kvs, h3, h4, h5⟩ := h2; exact ⟨kvs, by rw [upd_ne ne]; exact h3, h4, RL.off hp' k ds _ h5⟩
    | dcT ks ds => obtain ⟨kvs, h3, h4, h5⟩ := h2; exact ⟨kvs, by rw [upd_ne ne]; exact h3, h4, RL.off hp' k ds _ h5⟩
  · have ne : b ≠ p := fun z => hn.2 (z ▸ hb)
    rw [upd_ne ne]; exact C.hs b hb
theorem Le.over {H0 H : Hp} {m : Ad} {p : Addr} {o : HO} (l : Le m H0 m H) (h0 : H0 p = none) (hn : p ∉ m.hd) : Le m H0 m (upd H p o) := by
  refine ⟨fun _ _ e => e, fun b u e => ?_, rfl, fun b hb => ?_, fun _ h => .inl h, fun a h => l.al a (upd_none h)⟩
  · obtain ⟨h1, h2⟩ := hid_some e
    have ne : b ≠ p := fun z => by rw [z, h0] at h2; cases h2
    have := l.ex b u e
    rw [hid_of h1] at this ⊢
    rw [upd_ne ne]; exact this
  · have ne : b ≠ p := fun z => hn (z ▸ hb)
    rw [upd_ne ne]; exact l.hk b hb
theorem mem1_mem {k x : Str} {l : List Str} : x ∈ mem1 k l ↔ x = k ∨ x ∈ l := by
  unfold mem1
  split
  · rename_i h
    exact ⟨.inr, fun z => z.elim (fun e => e ▸ h) id⟩
  · exact List.mem_cons
theorem mem1_len {k : Str} {l : List Str} : (mem1 k l).length ≤ l.length + 1 := by
  unfold mem1
  split
  · omega
  · exact Nat.le_refl _
section
variable {X : Cx} {iter elt : Expr} {te : TD} {pos pp tp sp : Pos} {ti : TDs} {scope : Scope} {x : Str} {i : Nat}
theorem pd_sortSet (hm : X.mg "sorted" = none) (hc : X.calm = true) (hN : X.N.Nodup) (hi : PID X (.Name x tp) iter ti) (ok : blkC X.N X.env.scope scope [(x, i)] = true)
    (hg : ∀ (s : Shared) (H : Hp) (C : Addr) (cl : List (Str × Addr)) (fp : List Addr), PG (X.blk s H scope (compEnvC scope cl C X.env) fp) (.Name x tp) (gName i))
    (he : ∀ (s : Shared) (H : Hp) (C : Addr) (cl : List (Str × Addr)) (fp : List Addr), PD (X.blk s H scope (compEnvC scope cl C X.env) fp) elt te) (hgl : Gl X "sorted" := by rfl) (hs : ∀ x, foldedSetIterable iter X.env x = pure x := by intro _; rfl)
    (he1 : starEach [.SetComp elt [⟨.Name x tp, iter, [], 0⟩] scope sp] X.env = (false, eval (.SetComp elt [⟨.Name x tp, iter, [], 0⟩] scope sp) X.env) :: starEach [] X.env := by rfl) (hpl : (backTo pos (starEach [] X.env)).any (·.1) = false := by rfl) :
    PD X (.Call (.Name "sorted" pp) [.SetComp elt [⟨.Name x tp, iter, [], 0⟩] scope sp] [] pos) (dSortSet ti i te) := by
  refine PE.imp (pe_callB (call_sortTx hc) hgl hm boot_sorted (pa_cons (tx_walk (te := lift X.K te) (own := [(x, i)]) hc hN hi (blkOk_by ok) hg (fun s H C cl fp => he s H C cl fp) hs) pa_nil he1) (by decide) (by decide) he1 hpl) fun σ H Q ⟨m, ρ, c, Φ, S, h, q⟩ => ?_
  refine ⟨m, ρ, c, _, S, h, fun ds c1 J Ha m1 ⟨ys, ln, few, hte, hz⟩ C1 wk L1 p hp => ?_⟩
  have pn := hid_new hp C1
  have S1 := S.step L1 C1
  have hl : m1.ix.length = c1.length := C1.len
  refine ⟨fun j mm Hj => mm = ds.length - j ∧ j ≤ ds.length ∧ CR X.K Hj m1 c1 ∧ Le m1 Ha m1 Hj ∧ ∃ l, Hj p = some (TxO X.prog X.w p l) ∧ (∀ z, z ∈ l ↔ z ∈ ys.take j) ∧ l.length ≤ j,
    ⟨ds.length, rfl, Nat.zero_le _, C1.new hp, Le.new hp C1, [], upd_same, by simp, Nat.le_refl _⟩, ?_⟩
  rintro j mm Hj ⟨rfl, hj, Cj, Lj, l, hpj, hmem, hlen⟩
  by_cases lt : j < ds.length
  · refine .inr ⟨wk.go j m1 Hj c1 Lj Cj lt, fun H' => CR X.K H' m1 c1 ∧ Le m1 Ha m1 H' ∧ ∃ l, H' p = some (TxO X.prog X.w p l) ∧ (∀ z, z ∈ l ↔ z ∈ ys.take (j + 1)) ∧ l.length ≤ j + 1, fun H' ⟨a, b, e⟩ => ⟨ds.length - (j + 1), by omega, rfl, lt, a, b, e⟩, fun v H2 y => ?_⟩
    obtain ⟨d, hd, C2, L2, rv⟩ := wk.yld j m1 Hj c1 v H2 Lj Cj lt y
    have hp2 : H2 p = some (TxO X.prog X.w p l) := (hid_some (L2.ex p _ (by rw [hid_of pn]; exact hpj))).2
    have hy : ys[j]? = some ys[j] := List.getElem?_eq_getElem (by omega)
    generalize ys[j] = k at hy
    have Lz := Lj.trans L2
    refine ⟨by rw [show ([(x, i)] : List (Str × Nat)).map (·.2) = [i] from rfl, wipe1, wipe1, List.set_set, List.set_set], m1, _, c1, fun d' c' => d' = .str k ∧ c' = c1, (S1.step Lz C2).blk rv, hte j d k hd hy _ ⟨rfl, rfl⟩, fun d' c' u H3 m3 ⟨ed, ec⟩ C3 R3 L3 => ?_⟩
    subst ed ec
    cases (show u = V.str k from R3)
    have em := CR.same hl.symm C3 L3
    subst em
    have hp3 : H3 p = some (TxO X.prog X.w p l) := (hid_some (L3.ex p _ (by rw [hid_of pn]; exact hp2))).2
    refine ⟨k, l, rfl, hp3, Nat.lt_trans (show l.length + 1 < 65 by omega) (by decide), C3.off hp3 pn, (Lz.trans L3).over hp pn.2, mem1 k l, upd_same, fun z => ?_, ?_⟩
    · rw [mem1_mem, hmem z, List.take_add_one, hy, List.mem_append]
      simp only [Option.toList_some, List.mem_singleton]
      exact Or.comm
    · exact Nat.le_trans mem1_len (by omega)
  · have ej : j = ds.length := by omega
    subst ej
    refine .inl ⟨wk.stop _ m1 Hj c1 Lj Cj (Nat.le_refl _), p, l, rfl, hpj, by omega, fun zs a nd mz so ha => ?_⟩
    rw [List.take_of_length_le (by omega)] at hmem
    exact q _ c1 _ _ m1 (hz zs nd so fun z => (mz z).trans (hmem z)) (Cj.new ha) (RR.newL Cj ha (rl_txts zs)) ((L1.trans Lj).trans (Le.new ha Cj))
end
end Cw

namespace Cw
open PySem PySem.Spec PyProof.Rows L2 PySem.Froz

/-! ### set(x) -/
abbrev newS (w : World) : Obj := { cls := .type "set", dict := none, data := .set #[] 0 (.fresh 0 0 (!w.params.followText "set-order")) }
/-- what stands is not touched by what moves elsewhere -/
structure Kept (h0 : Heap) (a : Addr) (G : Nat → Heap → Prop) : Prop where
  run : ∀ i h h', G i h → (∀ o, h.get? a = some o → h'.get? a = some o) → (∀ b o, h0.get? b = some o → h'.get? b = some o) → G i h'
/-- the item's adding leads on -/
structure Adds (P : Program) (w : World) (h0 : Heap) (a : Addr) (items : Array Value) (G : Nat → Heap → Prop) : Prop where
  run : ∀ i v (A : Around) (E : Value → Shared → Prop) (s : Shared) (Q : Bool → Shared → Prop), items[i]? = some v → A.units < cLine → G i s.heap → (∀ b o, h0.get? b = some o → s.heap.get? b = some o) →
    (∀ b h' tk, Heap.SameBut a s.heap h' → s.toks ≤ tk → G (i + 1) h' → Q b { s with heap := h', toks := tk }) → wpAny (model P w) A (setAdd a v) Q E s
/-- the ends of it -/
structure SetEnds (w : World) (s : Shared) (n : Nat) (G : Nat → Heap → Prop) (Q : Value → Shared → Prop) : Prop where
  g0 : ∀ h', h'.get? s.heap.objs.size = some (newS w) → G 0 h'
  q : ∀ h' tk, G n h' → (∀ b o, s.heap.get? b = some o → h'.get? b = some o) → Q (.ref s.heap.objs.size) { s with heap := h', toks := tk }
section
variable {P : Program} {w : World} {A : Around} {E : Value → Shared → Prop} {s : Shared}
theorem none_at {h : Heap} {b : Addr} (hb : h.objs.size ≤ b) : h.get? b = none := by
  cases e : h.get? b with
  | none => rfl
  | some o => exact absurd (Heap.lt_size e) (Nat.not_lt.mpr hb)
theorem loopG {I : Addr} {fp wr : List Addr} {Gn : Array GenState → Array GenState → Prop} {n : Nat} {St : Nat → Shared → Prop} {R : Result → Shared → Prop} {items : Array Value}
    (W : WalksS P w A.in1 I fp wr Gn n (fun i v => items[i]? = some v) St) (a : Addr) (ha : a ∉ fp) (h0 : Heap) (G : Nat → Heap → Prop) (gk : Kept h0 a G) (ga : Adds P w h0 a items G) (hn : n = items.size) (hu : A.in1.units < cLine)
    (hz : h0.get? a = none) (hw : ∀ b ∈ wr, ¬ b < h0.objs.size) : ∀ (k i : Nat) (s : Shared), n - i = k → i ≤ n → St i s → G i s.heap → (∀ b o, h0.get? b = some o → s.heap.get? b = some o) →
      (∀ s', Moved (a :: wr) Gn s s' → G n s'.heap → (∀ b o, h0.get? b = some o → s'.heap.get? b = some o) → R (.ok (.ret .none)) s') → codeAny (model P w) A (.builtin "set.update.loop" ⟨[.ref a, .ref I], []⟩) R s := by
  have aw : a ∉ wr := fun z => ha (W.sub _ z)
  have more : ∀ b ∈ wr, b ∈ a :: wr := fun b z => List.mem_cons_of_mem _ z
  have still : ∀ {s s' : Shared}, Moved wr Gn s s' → (∀ b o, h0.get? b = some o → s.heap.get? b = some o) → ∀ b o, h0.get? b = some o → s'.heap.get? b = some o := fun mv kp b o e => mv.heap b o (fun z => hw b z (Heap.lt_size e)) (kp b o e)
  intro k
  induction k with
  | zero =>
    intro i s ek hi st g kp q
    obtain rfl : i = n := by omega
    refine codeAny_builtin F.entry_set_update_loop ?_
    rw [Around.under_plainId F.plain_set_update_loop _]
    show wpAny _ A.in1 (pyNext (.ref I) >>= _) _ _ s
    refine wpAny_bind (W.done s _ _ st fun s' mv => ?_)
    show wpAny _ A.in1 (ret Value.none) _ _ s'
    exact wpAny_pure (q s' (mv.mono more) (gk.run _ _ _ g (fun o e => mv.heap a o aw e) (still mv kp)) (still mv kp))
  | succ k ih =>
    intro i s ek hi st g kp q
    have lt : i < n := by omega
    refine codeAny_builtin F.entry_set_update_loop ?_
    rw [Around.under_plainId F.plain_set_update_loop _]
    show wpAny _ A.in1 (pyNext (.ref I) >>= _) _ _ s
    refine wpAny_bind (W.item i s _ _ lt st fun v s1 hv st1 mv => ?_)
    have kp1 := still mv kp
    show wpAny _ A.in1 (holding [v] (setAdd a v) >>= _) _ _ s1
    refine wpAny_bind (wpAny_holding (ga.run i v A.in1 _ s1 _ hv hu (gk.run _ _ _ g (fun o e => mv.heap a o aw e) kp1) kp1 fun b h' tk same le g' => ?_))
    have kp2 : ∀ b o, h0.get? b = some o → h'.get? b = some o := fun b o e => by
      by_cases z : b = a
      · subst z
        rw [hz] at e; cases e
      · rw [same.2 b z]; exact kp1 b o e
    refine wpAny_pure ⟨plainId_quiet F.plain_set_update_loop _, ih (i + 1) _ (by omega) lt (W.frame _ s1 _ _ st1 le fun b hb o e => ?_) g' kp2 fun s2 mv2 g2 kp3 => ?_⟩
    · rw [same.2 b (fun z => ha (z ▸ hb))]; exact e
    · exact q s2 (Moved.trans W.gtrans ((mv.mono more).then_heap le fun b o hb e => by rw [same.2 b (fun z => hb (z ▸ List.mem_cons_self))]; exact e) mv2) g2 kp3

/-- set(x), x a list: G says what stands behind the first i items -/
theorem set_list {l : Addr} {items : Array Value} (G : Nat → Heap → Prop) {Q : Value → Shared → Prop} (hh : A.handled = none) (hx : s.heap.IsList l items) (hu : A.in1.in1.in1.units < cLine)
    (gk : Kept s.heap s.heap.objs.size G) (ga : Adds P w s.heap s.heap.objs.size items G) (en : SetEnds w s items.size G Q) : wpAny (model P w) A (call (.type "set") [.ref l]) Q E s := by
  have ⟨_, _, mro⟩ := F.called_set.mro
  have mk := F.called_set.made
  have sb := F.called_set.sub
  have nt := F.called_set.notType
  have cc := F.called_set.canCreate
  have tc := F.typeCall_set_1 (.ref l)
  have lk := F.called_set.init.lookup
  have bd := F.called_set.init.bind (.ref s.heap.objs.size)
  refine wpAny_call (codeAny_of_tree (show wpAny _ _ (callAny (.type "set") _) _ _ _ from wpAny_pure ⟨Code.quiet_builtin _ (by decide +kernel), codeAny_builtin F.entry_type_call ?_⟩))
  rw [Around.under_plain (weight_type_call_type "set" [.ref l] []) rfl]
  repeat any_goals first | assumption | wp_step

  refine codeAny_mono (code_set_led1 (.ref l) (E := E) (Q₁ := fun u sz => u = .ref s.heap.objs.size ∧ sz = { s with heap := s.heap.push (newS w) }) ⟨rfl, rfl⟩) fun r sz hr => ?_
  rcases r with er | fl
  · exact hr
  cases fl with
  | next => exact False.elim hr
  | brk => exact False.elim hr
  | cont => exact False.elim hr
  | ret u =>
  obtain ⟨eu, es⟩ := hr
  subst eu es
  have at0 : (s.heap.push (newS w)).get? s.heap.objs.size = some (newS w) := Heap.get?_push_size _ rfl
  have ty0 : Shared.TypeIs { s with heap := s.heap.push (newS w) } (.ref s.heap.objs.size) "set" := ⟨_, at0, rfl⟩
  repeat any_goals first | assumption | wp_step

  refine codeAny_mono (codeAny_call_builtin (R := wants (fun u sz => u = .none ∧ ∃ h' tk, sz = { s with heap := h', toks := tk } ∧ G items.size h' ∧ ∀ b o, s.heap.get? b = some o → h'.get? b = some o) E) F.called_set.init.plain F.entry_set_init (check_set_init_1 ty0 ?_)) fun r2 sz2 hr2 => ?_
  · obtain ⟨⟨_, dl, _, sl⟩, hol, cl, nl, da⟩ := hx
    dsimp only at cl da
    subst cl da
    have ltl : l < s.heap.objs.size := Heap.lt_size hol
    have hol1 := Heap.get?_push_of_some (newS w) hol
    have sub1 := F.sub_list_set
    have sub2 := F.sub_list_frozenset
    have nod : (Value.type "list" == Value.type "dict") = false := by decide
    have hx1 : (s.heap.push (newS w)).IsList l items := ⟨_, hol1, rfl, nl, rfl⟩
    unfold Builtin.«set.__init__» noKeywords Builtin.Frozenset.updateFrom
    generalize hit : pyIter = it
    wp_walk
    subst hit

    refine wpAny_pyIter_list hx1 (wpAny_bind (wpAny_runValue ?_))
    have sz1 : (s.heap.push (newS w)).objs.size = s.heap.objs.size + 1 := Heap.size_push ..
    have ni : l ≠ (s.heap.push (newS w)).objs.size := by rw [sz1]; exact Nat.ne_of_lt (Nat.lt_succ_of_lt ltl)
    have hh3 : A.in1.in1.in1.handled = none := by simp [hh]
    have old : ∀ b o, s.heap.get? b = some o → b < s.heap.objs.size := fun _ _ => Heap.lt_size
    refine loopG ((Walks.list hh3 _ l ni items).toS) s.heap.objs.size (by rw [sz1]; simp only [List.mem_cons, List.not_mem_nil, or_false, not_or]; exact ⟨Nat.ne_of_lt (Nat.lt_succ_self _), Nat.ne_of_gt ltl⟩) s.heap G gk ga rfl hu (none_at (Nat.le_refl _)) (fun b hb z => ?_) items.size 0 _ rfl (Nat.zero_le _) ⟨⟨_, Heap.get?_push_size _ rfl, rfl, rfl⟩, hx1.push _⟩ (en.g0 _ (Heap.get?_push_of_some _ at0)) (fun b o e => Heap.get?_push_of_some _ (Heap.get?_push_of_some _ e)) fun s' mv g' kp => ?_
    · rw [List.mem_singleton.mp hb, sz1] at z; exact absurd z (Nat.not_lt.mpr (Nat.le_succ _))
    · obtain ⟨h', gn, dr, tk, os⟩ := s'
      cases mv.gens
      cases mv.drawn
      cases mv.os
      show wpAny _ _ (pure _) _ _ _
      refine wpAny_pure ?_
      show wpAny _ _ (ret Value.none) _ _ _
      exact wpAny_pure ⟨rfl, h', tk, rfl, g', kp⟩
  · rcases r2 with er | fl
    · exact hr2
    cases fl with
    | next => exact False.elim hr2
    | brk => exact False.elim hr2
    | cont => exact False.elim hr2
    | ret u =>
      obtain ⟨eu, h', tk, es, g', kp⟩ := hr2
      subst eu es
      repeat any_goals first | assumption | wp_step
      exact en.q _ _ g' kp

/-- set(x), x a tuple: G says what stands behind the first i items -/
theorem set_tuple {l : Addr} {items : Array Value} (G : Nat → Heap → Prop) {Q : Value → Shared → Prop} (hh : A.handled = none) (hx : s.heap.IsTuple l items) (hu : A.in1.in1.in1.units < cLine)
    (gk : Kept s.heap s.heap.objs.size G) (ga : Adds P w s.heap s.heap.objs.size items G) (en : SetEnds w s items.size G Q) : wpAny (model P w) A (call (.type "set") [.ref l]) Q E s := by
  have ⟨_, _, mro⟩ := F.called_set.mro
  have mk := F.called_set.made
  have sb := F.called_set.sub
  have nt := F.called_set.notType
  have cc := F.called_set.canCreate
  have tc := F.typeCall_set_1 (.ref l)
  have lk := F.called_set.init.lookup
  have bd := F.called_set.init.bind (.ref s.heap.objs.size)
  refine wpAny_call (codeAny_of_tree (show wpAny _ _ (callAny (.type "set") _) _ _ _ from wpAny_pure ⟨Code.quiet_builtin _ (by decide +kernel), codeAny_builtin F.entry_type_call ?_⟩))
  rw [Around.under_plain (weight_type_call_type "set" [.ref l] []) rfl]
  repeat any_goals first | assumption | wp_step

  refine codeAny_mono (code_set_led1 (.ref l) (E := E) (Q₁ := fun u sz => u = .ref s.heap.objs.size ∧ sz = { s with heap := s.heap.push (newS w) }) ⟨rfl, rfl⟩) fun r sz hr => ?_
  rcases r with er | fl
  · exact hr
  cases fl with
  | next => exact False.elim hr
  | brk => exact False.elim hr
  | cont => exact False.elim hr
  | ret u =>
  obtain ⟨eu, es⟩ := hr
  subst eu es
  have at0 : (s.heap.push (newS w)).get? s.heap.objs.size = some (newS w) := Heap.get?_push_size _ rfl
  have ty0 : Shared.TypeIs { s with heap := s.heap.push (newS w) } (.ref s.heap.objs.size) "set" := ⟨_, at0, rfl⟩
  repeat any_goals first | assumption | wp_step

  refine codeAny_mono (codeAny_call_builtin (R := wants (fun u sz => u = .none ∧ ∃ h' tk, sz = { s with heap := h', toks := tk } ∧ G items.size h' ∧ ∀ b o, s.heap.get? b = some o → h'.get? b = some o) E) F.called_set.init.plain F.entry_set_init (check_set_init_1 ty0 ?_)) fun r2 sz2 hr2 => ?_
  · obtain ⟨⟨_, dl, _, sl⟩, hol, cl, nl, da⟩ := hx
    dsimp only at cl da
    subst cl da
    have ltl : l < s.heap.objs.size := Heap.lt_size hol
    have hol1 := Heap.get?_push_of_some (newS w) hol
    have sub1 := F.sub_tuple_set
    have sub2 := F.sub_tuple_frozenset
    have nod : (Value.type "tuple" == Value.type "dict") = false := by decide
    have hx1 : (s.heap.push (newS w)).IsTuple l items := ⟨_, hol1, rfl, nl, rfl⟩
    unfold Builtin.«set.__init__» noKeywords Builtin.Frozenset.updateFrom
    generalize hit : pyIter = it
    wp_walk
    subst hit

    refine wpAny_pyIter_tuple hx1 (wpAny_bind (wpAny_runValue ?_))
    have sz1 : (s.heap.push (newS w)).objs.size = s.heap.objs.size + 1 := Heap.size_push ..
    have ni : l ≠ (s.heap.push (newS w)).objs.size := by rw [sz1]; exact Nat.ne_of_lt (Nat.lt_succ_of_lt ltl)
    have hh3 : A.in1.in1.in1.handled = none := by simp [hh]
    have old : ∀ b o, s.heap.get? b = some o → b < s.heap.objs.size := fun _ _ => Heap.lt_size
    refine loopG ((Walks.tuple hh3 _ l ni items).toS) s.heap.objs.size (by rw [sz1]; simp only [List.mem_cons, List.not_mem_nil, or_false, not_or]; exact ⟨Nat.ne_of_lt (Nat.lt_succ_self _), Nat.ne_of_gt ltl⟩) s.heap G gk ga rfl hu (none_at (Nat.le_refl _)) (fun b hb z => ?_) items.size 0 _ rfl (Nat.zero_le _) ⟨⟨_, Heap.get?_push_size _ rfl, rfl, rfl⟩, hx1.push _⟩ (en.g0 _ (Heap.get?_push_of_some _ at0)) (fun b o e => Heap.get?_push_of_some _ (Heap.get?_push_of_some _ e)) fun s' mv g' kp => ?_
    · rw [List.mem_singleton.mp hb, sz1] at z; exact absurd z (Nat.not_lt.mpr (Nat.le_succ _))
    · obtain ⟨h', gn, dr, tk, os⟩ := s'
      cases mv.gens
      cases mv.drawn
      cases mv.os
      show wpAny _ _ (pure _) _ _ _
      refine wpAny_pure ?_
      show wpAny _ _ (ret Value.none) _ _ _
      exact wpAny_pure ⟨rfl, h', tk, rfl, g', kp⟩
  · rcases r2 with er | fl
    · exact hr2
    cases fl with
    | next => exact False.elim hr2
    | brk => exact False.elim hr2
    | cont => exact False.elim hr2
    | ret u =>
      obtain ⟨eu, h', tk, es, g', kp⟩ := hr2
      subst eu es
      repeat any_goals first | assumption | wp_step
      exact en.q _ _ g' kp

end
end Cw

namespace Cw
open PySem PySem.Spec PyProof.Rows L2 PySem.Froz

/-! ### a set of tuples of ints and texts, no two alike -/
abbrev kh (P : Program) (w : World) (k : List Key) : Int := tupleKeyHash (mixKind P w) k
abbrev Ky (P : Program) (w : World) (h : Heap) (k : List Key) (b : Addr) : Prop := IsTupleKey (mixKind P w) h k b
section
variable {P : Program} {w : World} {A : Around} {E : Value → Shared → Prop} {s : Shared}
theorem cls_flat (n : Nat) {v : Value} (h : carriedByValue v = true) : ofAClassStatement n v = pure false := by
  cases v <;> first | (cases h; done) | (cases n <;> rfl)
theorem hash_flat (n : Nat) {v : Value} {k : Key} (h : keyIs k v = true) : ∃ b, hashByValue n v = pure b := by
  rcases keyIs_shape h with ⟨_, _, _, ev⟩ | ⟨_, _, _, ev⟩ <;> subst ev <;> exact ⟨_, by cases n <;> rfl⟩
theorem items_keys {k : List Key} {vs : List Value} (h : ItemsAre (mixKind P w) k vs) : ∀ v ∈ vs, ∃ x : Key, keyIs x v = true := by
  induction h with
  | nil => intro v hv; cases hv
  | @cons x u _ _ hx _ ih =>
    intro v hv
    rcases List.mem_cons.mp hv with rfl | z
    · exact ⟨x, hx⟩
    · exact ih v z
theorem Ky.noCls {k : List Key} {b : Addr} {Q : Bool → Shared → Prop} (hk : Ky P w s.heap k b) (q : Q false s) : wpAny (model P w) A (ofAClassStatement 8 (.ref b)) Q E s := by
  have ty := hk.typeIs
  obtain ⟨o, xs, n, ho, _, hd, hi⟩ := hk
  have flat := hi.byValue
  unfold ofAClassStatement
  refine wpAny_bind (wpAny_typeOf ty ?_)
  dsimp only
  simp only [show (("tuple" : String) == "tuple") = true from rfl, if_true, Bool.not_true, Bool.false_eq_true, if_false]
  try refine wpAny_bind (wpAny_pure ?_)
  try simp only [Bool.not_true, Bool.false_eq_true, if_false]
  show wpAny _ _ (seqItems? (.ref b) >>= _) _ _ s
  refine wpAny_bind (wpAny_seqItems ho hd (wpAny_bind ?_))
  show wpAny _ _ (forIn xs _ _) _ _ s
  rw [← Array.forIn_toList]
  refine wpAny_forIn_list _ (fun more b sz => b.1 = none ∧ sz = s ∧ ∀ v ∈ more, carriedByValue v = true) _ (fun v more b sz ⟨e1, e2, e3⟩ => ?_) (fun b sz ⟨e1, e2, _⟩ => ?_) _ _ ⟨rfl, rfl, flat⟩
  · subst e2
    rw [cls_flat _ (e3 v List.mem_cons_self)]
    refine wpAny_bind (wpAny_pure ?_)
    simp only [Bool.false_eq_true, if_false]
    exact wpAny_pure ⟨rfl, rfl, fun u hu => e3 u (List.mem_cons_of_mem _ hu)⟩
  · obtain ⟨b1, b2⟩ := b
    cases (show b1 = none from e1)
    subst e2
    exact wpAny_pure q
theorem Ky.hashBy {k : List Key} {b : Addr} {Q : Bool → Shared → Prop} (hk : Ky P w s.heap k b) (q : ∀ y, Q y s) : wpAny (model P w) A (hashByValue 8 (.ref b)) Q E s := by
  have ty := hk.typeIs
  obtain ⟨o, xs, n, ho, _, hd, hi⟩ := hk
  have flat := items_keys hi
  unfold hashByValue
  refine wpAny_bind (wpAny_specialOf ty F.slot_tuple_hash.lookup ?_)
  show wpAny _ _ (seqItems? (.ref b) >>= _) _ _ s
  refine wpAny_bind (wpAny_seqItems ho hd (wpAny_bind ?_))
  show wpAny _ _ (forIn xs _ _) _ _ s
  rw [← Array.forIn_toList]
  refine wpAny_forIn_list _ (fun more b sz => b.1 = none ∧ sz = s ∧ ∀ v ∈ more, ∃ x : Key, keyIs x v = true) _ (fun v more b sz ⟨e1, e2, e3⟩ => ?_) (fun b sz ⟨e1, e2, _⟩ => ?_) _ _ ⟨rfl, rfl, flat⟩
  · subst e2
    obtain ⟨x, hx⟩ := e3 v List.mem_cons_self
    obtain ⟨y, ey⟩ := hash_flat 7 hx
    rw [ey]
    refine wpAny_bind (wpAny_pure ?_)
    cases y with
    | true =>
      simp only [Bool.not_true, Bool.false_eq_true, if_false]
      exact wpAny_pure ⟨rfl, rfl, fun u hu => e3 u (List.mem_cons_of_mem _ hu)⟩
    | false =>
      simp only [Bool.not_false, if_true]
      exact wpAny_pure (wpAny_pure (q false))
  · obtain ⟨b1, b2⟩ := b
    cases (show b1 = none from e1)
    subst e2
    exact wpAny_pure (q true)
theorem Ky.unseen {k : List Key} {b : Addr} {Q : Bool → Shared → Prop} (hk : Ky P w s.heap k b) {ys : List Value} (hy : ∀ y ∈ ys, ∃ l c, y = Value.ref c ∧ Ky P w s.heap l c) (q : Q false s) :
    wpAny (model P w) A (searchCouldBeSeen (.ref b) ys) Q E s := by
  unfold searchCouldBeSeen
  refine wpAny_bind (wpAny_forIn_list _ (fun more b sz => b.1 = none ∧ sz = s ∧ ∀ y ∈ more, ∃ l c, y = Value.ref c ∧ Ky P w s.heap l c) _ (fun v more r sz ⟨e1, e2, e3⟩ => ?_) (fun b sz ⟨e1, e2, _⟩ => ?_) _ _ ⟨rfl, rfl, hy⟩)
  · subst e2
    obtain ⟨l, c, ev, hc⟩ := e3 v List.mem_cons_self
    subst ev
    have e4 := fun u hu => e3 u (List.mem_cons_of_mem _ hu)
    dsimp only
    by_cases same : (b == c || (carriedByValue (.ref b) && carriedByValue (.ref c))) = true
    · exact wp_if_pos same (wpAny_pure ⟨rfl, rfl, e4⟩)
    · refine wp_if_neg same (wpAny_bind (wpAny_eqIsQuiet_tuple hk ?_))
      simp only [Bool.not_true, Bool.false_eq_true, if_false]
      refine wpAny_bind (wpAny_eqIsQuiet_tuple hc ?_)
      simp only [Bool.not_true, Bool.false_eq_true, if_false]
      refine wpAny_bind (hk.noCls ?_)
      simp only [Bool.false_eq_true, if_false]
      refine wpAny_bind (Ky.noCls hc ?_)
      simp only [Bool.false_eq_true, if_false]
      exact wpAny_pure ⟨rfl, rfl, e4⟩
  · obtain ⟨b1, b2⟩ := b
    cases (show b1 = none from e1)
    subst e2
    exact wpAny_pure q
end
/-- the entries of the members L -/
def mrows (P : Program) (w : World) (L : List (Addr × List Key)) : List (Int × Value) := L.map fun m => (kh P w m.2, Value.ref m.1)
def mhs (P : Program) (w : World) (L : List (Addr × List Key)) : List Int := L.map fun m => kh P w m.2
structure MxS (P : Program) (w : World) (h : Heap) (a : Addr) (L : List (Addr × List Key)) (es : Array (Int × Value)) (ep : Nat) (t : SetTable) : Prop where
  ob : ∃ o, h.get? a = some o ∧ o.ExactSet ∧ o.data = .set es ep t
  en : es.toList = mrows P w L
  tab : TabOk t (mhs P w L)
  nd : (L.map (·.2)).Nodup
  ks : ∀ m ∈ L, Ky P w h m.2 m.1
  led : w.params.followText "set-order" = true ∨ t.led = true
  wide : L.length * 5 < t.mask * 3
  few : L.length < 64
section
variable {P : Program} {w : World} {A : Around} {E : Value → Shared → Prop} {s : Shared} {a : Addr} {L : List (Addr × List Key)} {es : Array (Int × Value)} {ep : Nat} {t : SetTable}
theorem mrows_len (h : es.toList = mrows P w L) : es.size = L.length := by
  rw [← Array.length_toList, h]; exact List.length_map ..
theorem mhs_len : (mhs P w L).length = L.length := List.length_map ..
theorem MxS.fits (R : MxS P w s.heap a L es ep t) : t.fits es.size = true := by
  have h1 := R.tab.sz
  rw [mhs_len] at h1
  have h2 := mrows_len R.en
  have h3 := R.wide
  simp only [SetTable.fits, SetTable.fill, R.tab.dm, Bool.and_eq_true, beq_iff_eq, decide_eq_true_eq]
  show t.place.size = es.size ∧ t.place.size + 0 ≤ t.mask
  omega
theorem MxS.at (R : MxS P w s.heap a L es ep t) {i : Nat} {m : Addr × List Key} (h : L[i]? = some m) : es[i]? = some (kh P w m.2, Value.ref m.1) := by
  have z : es.toList[i]? = some (kh P w m.2, Value.ref m.1) := by rw [R.en, mrows, List.getElem?_map, h]; rfl
  rw [← Array.getElem?_toList]; exact z
/-- the c-th stop on the way of the hash h -/
abbrev stop (m : Nat) (h : Int) (c : Nat) : SetTable.Probe := nth m (runAt m (SetTable.bits h % (m + 1)) (SetTable.bits h)) c
theorem stop_on (m : Nat) (h : Int) (c q : Nat) : nth m (stop m h c) q = stop m h (c + q) := (nth_add m c _ q).symm
theorem nth_plain (m : Nat) : ∀ (n : Nat) (p : SetTable.Probe), p.dummy = none → (nth m p n).dummy = none
  | 0, _, h => h
  | n + 1, p, h => nth_plain m n (adv m p) (by unfold adv; split <;> exact h)
/-- a new member is found nowhere -/
theorem MxS.search (R : MxS P w s.heap a L es ep t) {x : Addr} {k : List Key} (hx : Ky P w s.heap k x) (hu : A.units < cLine) (new : ∀ m ∈ L, m.2 ≠ k) {K : Nat} (lim : K < 10 * SetTable.turns t.mask)
    (gap : way t.mask (kh P w k) K ∉ t.place.toList) (ahead : ∀ c, c < K → way t.mask (kh P w k) c ∈ t.place.toList) {Q : SetFound → Shared → Prop} (q : Q (.free (way t.mask (kh P w k) K) false) s) :
    ∀ (f c : Nat) (from? : Option SetTable.Probe), from?.getD (t.probeStart (kh P w k)) = stop t.mask (kh P w k) c → c ≤ K → K - c < f → wpAny (model P w) A (setSearchFrom a (.ref x) (kh P w k) true f from?) Q E s
  | 0, c, _, _, _, z => absurd z (Nat.not_lt_zero _)
  | f + 1, c, from?, est, hc, hf => by
    obtain ⟨o, ho, hex, hd⟩ := R.ob
    rw [setSearchFrom_succ]
    refine wpAny_bind (wpAny_setState_of ho hd R.fits ?_)
    dsimp only
    refine wp_if_neg (by unfold SetTable.gaveWay; rw [mask_odd R.tab.mok]; decide) ?_
    try refine wpAny_bind (wpAny_pure ?_)
    have jj : ∀ q, (nth t.mask (stop t.mask (kh P w k) c) q).j = way t.mask (kh P w k) (c + q) := fun q => congrArg SetTable.Probe.j (stop_on ..)
    rw [est]
    rcases go_spec t R.tab.ris R.tab.dm (fun i => (es[i]?.map (·.1)).getD 0) (kh P w k) (10 * SetTable.turns t.mask) (K - c) (stop t.mask (kh P w k) c) (nth_plain _ _ _ rfl) (by omega)
      (fun q hq => by rw [jj]; exact ahead _ (by omega)) (by rw [jj, show c + (K - c) = K by omega]; exact gap) with ⟨q', i, hq, hi, _, _, hp⟩ | ⟨_, hp⟩
    · have hp' : t.probe (fun i => (es[i]?.map (·.1)).getD 0) (kh P w k) (stop t.mask (kh P w k) c) = some (.candidate (way t.mask (kh P w k) (c + q')) i (stop t.mask (kh P w k) (c + (q' + 1)))) := by
        rw [← jj, ← stop_on]; exact hp
      rw [hp']
      dsimp only
      rw [jj] at hi
      have il : i < L.length := by
        have h1 := (List.getElem?_eq_some_iff.mp hi).1
        have h2 := R.tab.sz
        rw [mhs_len] at h2
        rw [Array.length_toList] at h1
        omega
      obtain ⟨m, hm⟩ : ∃ m, L[i]? = some m := ⟨_, List.getElem?_eq_getElem il⟩
      have mm := List.mem_of_getElem? hm
      have ne := new m mm
      have rest : wpAny (model P w) A (searchRest a (.ref x) (kh P w k) true f es t (way t.mask (kh P w k) (c + q')) i (stop t.mask (kh P w k) (c + (q' + 1)))) Q E s := by
        unfold searchRest
        rw [R.at hm]
        dsimp only
        refine wpAny_bind (wpAny_holding (wpAny_eqBool_tuple hu (R.ks m mm) hx ?_))
        rw [decide_eq_false ne]
        refine wpAny_bind (wpAny_setState_of ho hd R.fits ?_)
        dsimp only
        refine wp_if_neg (by decide) ?_
        try refine wpAny_bind (wpAny_pure ?_)
        rw [sameMem]
        dsimp only
        simp only [if_true, slot_live R.tab.ris hi, R.at hm]
        refine wpAny_bind (wpAny_isSame_ref_self (wpAny_bind (wpAny_pure ?_)))
        simp only [if_true]
        refine wp_if_neg (by decide) ?_
        exact MxS.search R hx hu new lim gap ahead q f _ _ rfl (by omega) (by omega)
      by_cases hl : t.led = true
      · refine wp_if_neg (by rw [hl]; decide) ?_
        try refine wpAny_bind (wpAny_pure ?_)
        exact rest
      · refine wp_if_pos (by rw [Bool.eq_false_iff.mpr hl]; rfl) (wpAny_bind (hx.unseen (fun y hy => ?_) ?_))
        · obtain ⟨e, he, ey⟩ := List.mem_map.mp hy
          have he2 : e ∈ es.toList := by
            have : e ∈ es ∧ e.1 = kh P w k := by simpa using he
            simpa using this.1
          rw [R.en] at he2
          obtain ⟨m2, hm2, e2⟩ := List.mem_map.mp he2
          exact ⟨m2.2, m2.1, by rw [← ey, ← e2], R.ks m2 hm2⟩
        · refine wp_if_neg (by decide) ?_
          try refine wpAny_bind (wpAny_pure ?_)
          exact rest
    · have hp' : t.probe (fun i => (es[i]?.map (·.1)).getD 0) (kh P w k) (stop t.mask (kh P w k) c) = some (.empty (way t.mask (kh P w k) K) none) := by
        have e2 : way t.mask (kh P w k) K = (nth t.mask (stop t.mask (kh P w k) c) (K - c)).j := by rw [jj, show c + (K - c) = K by omega]
        rw [e2]; exact hp
      rw [hp']
      exact wpAny_pure q
/-! adding -/
theorem tab_unplain {hs : List Int} (T : TabOk t hs) : TabOk { t with plain := false } hs := ⟨T.ris, T.dm, T.sz, T.mok, T.bd, T.reach⟩
theorem Ky.off {h h' : Heap} {k : List Key} {b : Addr} {o : Obj} (hb : Ky P w h k b) (ho : h.get? a = some o) (hd : o.data = .set es ep t) (same : Heap.SameBut a h h') : Ky P w h' k b := by
  obtain ⟨u, xs, n, hu, hc, hx, hi⟩ := hb
  refine ⟨u, xs, n, (same.2 b fun z => ?_).trans hu, hc, hx, hi⟩
  subst z
  rw [ho] at hu
  cases hu
  rw [hd] at hx
  cases hx
theorem range_all : ∀ (L : List (Addr × List Key)), (List.range L.length).filterMap (fun i => L[i]?) = L
  | [] => rfl
  | x :: L => by
    rw [List.length_cons, List.range_succ_eq_map, List.filterMap_cons_some (f := fun i => (x :: L)[i]?) (a := 0) (b := x) rfl, List.filterMap_map]
    have e : ((fun i => (x :: L)[i]?) ∘ Nat.succ) = fun i => L[i]? := by funext i; simp
    rw [e, range_all L]
theorem reorder (en : es.toList = mrows P w L) {order : Array Nat} (pm : order.toList.Perm (List.range L.length)) :
    ∃ L2, (order.filterMap (es[·]?)).toList = mrows P w L2 ∧ L2.Perm L ∧ mhs P w L2 = order.toList.map fun i => (es.map (·.1)).getD i 0 := by
  have ent : ∀ (i : Nat) (m : Addr × List Key), L[i]? = some m → es[i]? = some (kh P w m.2, Value.ref m.1) := fun i m h => by
    have z : es.toList[i]? = some (kh P w m.2, Value.ref m.1) := by rw [en, mrows, List.getElem?_map, h]; rfl
    rw [← Array.getElem?_toList]; exact z
  have go : ∀ l : List Nat, (∀ i ∈ l, i < L.length) → l.filterMap (fun i => es[i]?) = mrows P w (l.filterMap fun i => L[i]?) ∧ mhs P w (l.filterMap fun i => L[i]?) = l.map fun i => (es.map (·.1)).getD i 0 := by
    intro l
    induction l with
    | nil => intro _; exact ⟨rfl, rfl⟩
    | cons i l ih =>
      intro h
      obtain ⟨h1, h2⟩ := ih fun j hj => h j (List.mem_cons_of_mem _ hj)
      obtain ⟨m, hm⟩ : ∃ m, L[i]? = some m := ⟨_, List.getElem?_eq_getElem (h i List.mem_cons_self)⟩
      have e := ent i m hm
      rw [List.filterMap_cons_some e, List.filterMap_cons_some hm, h1, List.map_cons, ← h2]
      refine ⟨rfl, ?_⟩
      have e5 : (es.map (·.1))[i]? = some (kh P w m.2) := by rw [Array.getElem?_map, e]; rfl
      have e6 : (es.map (·.1)).getD i 0 = kh P w m.2 := by simp [Array.getD_eq_getD_getElem?, e5]
      rw [e6]; rfl
  obtain ⟨h1, h2⟩ := go order.toList fun i hi => List.mem_range.mp (pm.mem_iff.mp hi)
  refine ⟨_, by first | (rw [Array.toList_filterMap]; exact h1) | simpa using h1, ?_, h2⟩
  have := pm.filterMap fun i => L[i]?
  rwa [range_all] at this
theorem relayM {o : Obj} (ho : s.heap.get? a = some o) (hex : o.ExactSet) (hd : o.data = .set es ep t) (en : es.toList = mrows P w L) (sz : t.place.size = es.size) (dm : t.dummies = #[]) (fl : es.size ≤ t.mask)
    (nd : (L.map (·.2)).Nodup) (ks : ∀ m ∈ L, Ky P w s.heap m.2 m.1) (led : w.params.followText "set-order" = true ∨ t.led = true) (few : L.length < 64) {wanted M : Nat}
    (hw : SetTable.sizeAbove wanted - 1 = M) (hM : MaskOk M) (hw2 : SetTable.sizeAbove wanted ≤ 128) (wide : L.length * 5 < M * 3) {Q : Unit → Shared → Prop}
    (q : ∀ h' L' es' ep' t', Heap.SameBut a s.heap h' → MxS P w h' a L' es' ep' t' → L'.Perm L → Q () { s with heap := h' }) : wpAny (model P w) A (setRelay a wanted) Q E s := by
  have len := mrows_len en
  have fits : t.fits es.size = true := by
    simp only [SetTable.fits, SetTable.fill, dm, Bool.and_eq_true, beq_iff_eq, decide_eq_true_eq]
    show t.place.size = es.size ∧ t.place.size + 0 ≤ t.mask
    omega
  obtain ⟨t', order, er, pm, T, em, el, _, _⟩ := relaid_ok t (hs := es.map (·.1)) (wanted := wanted) hw hM (by rw [Array.size_map, len]; omega)
  rw [Array.size_map, len] at pm
  obtain ⟨L2, r1, r2, r3⟩ := reorder en pm
  rw [← r3] at T
  have s2 : (order.filterMap (es[·]?)).size = es.size := by rw [mrows_len r1, r2.length_eq, len]
  rw [setRelay_eq]
  refine wpAny_bind (wpAny_setState_of ho hd fits ?_)
  dsimp only
  refine wp_if_neg (by rw [sizeLine_eq]; omega) ?_
  try refine wpAny_bind (wpAny_pure ?_)
  rw [er]
  dsimp only
  refine wpAny_bind (wp_if_neg (by rw [s2]; simp) ?_)
  try refine wpAny_bind (wpAny_pure ?_)
  refine wpAny_pure ?_
  dsimp only
  refine wpAny_storeSet_of ho hd ?_ (by rw [s2, len, sizeLine_eq]; omega)
  have same : Heap.SameBut a s.heap (s.heap.update a (Obj.putSet (order.filterMap (es[·]?)) t')) := Heap.SameBut.update ..
  exact q _ L2 _ (ep + 1) t' same ⟨⟨_, store_at ho hd, ⟨hex.1, hex.2.1, hex.2.2⟩, rfl⟩, r1, T, (r2.map (·.2)).nodup_iff.mpr nd, fun m hm => (ks m (r2.mem_iff.mp hm)).off ho hd same, by rw [el]; exact led, by rw [r2.length_eq, em]; exact wide, by rw [r2.length_eq]; exact few⟩ r2
/-- behind the search -/
theorem addTail {o : Obj} (ho : s.heap.get? a = some o) (hex : o.ExactSet) (hd : o.data = .set es ep t) {L1 : List (Addr × List Key)} {es1 : Array (Int × Value)} {t1 : SetTable} (en : es1.toList = mrows P w L1) (tab : TabOk t1 (mhs P w L1)) (fill : t1.fill = L1.length) (mask : t1.mask = t.mask)
    (nd : (L1.map (·.2)).Nodup) (ks : ∀ m ∈ L1, Ky P w s.heap m.2 m.1) (led : w.params.followText "set-order" = true ∨ t1.led = true) (few : L1.length < 64) (len : L1.length = es.size + 1) (wide : es.size * 5 < t.mask * 3) {Q : Bool → Shared → Prop}
    (q : ∀ h' L' es' ep' t', Heap.SameBut a s.heap h' → MxS P w h' a L' es' ep' t' → L'.Perm L1 → Q true { s with heap := h' }) :
    wpAny (model P w) A (do
      storeSet a es1 t1
      if !false && t1.tooFull then setRelay a (SetTable.grown (es.size + 1))
      return true) Q E s := by
  have n1 := mrows_len en
  refine wpAny_bind (wpAny_storeSet_of ho hd ?_ (by rw [n1, sizeLine_eq]; omega))
  have same : Heap.SameBut a s.heap (s.heap.update a (Obj.putSet es1 t1)) := Heap.SameBut.update ..
  have ho1 := store_at (es' := es1) (t' := t1) ho hd
  generalize s.heap.update a (Obj.putSet es1 t1) = h1 at same ho1 ⊢
  have ks1 : ∀ m ∈ L1, Ky P w h1 m.2 m.1 := fun m hm => (ks m hm).off ho hd same
  by_cases full : t1.tooFull = true
  · have big : L1.length * 5 ≥ t1.mask * 3 := by
      have z := full
      unfold SetTable.tooFull at z
      rw [decide_eq_true_eq, fill] at z
      exact z
    have sz1 : t1.place.size = es1.size := by rw [n1, ← mhs_len (P := P) (w := w)]; exact tab.sz
    have go : ∀ M, SetTable.sizeAbove (SetTable.grown (es.size + 1)) - 1 = M → MaskOk M → SetTable.sizeAbove (SetTable.grown (es.size + 1)) ≤ 128 → L1.length * 5 < M * 3 → es1.size ≤ t1.mask →
        wpAny (model P w) A (setRelay a (SetTable.grown (es.size + 1))) (fun _ sz => wpAny (model P w) A (pure true) Q E sz) E { s with heap := h1 } := fun M g1 g2 g3 g4 g5 =>
      relayM (s := { s with heap := h1 }) ho1 ⟨hex.1, hex.2.1, hex.2.2⟩ rfl en sz1 tab.dm g5 nd ks1 led few g1 g2 g3 g4 fun h2 L2 es2 ep2 t2 same2 R2 pm2 => wpAny_pure (q h2 L2 es2 ep2 t2 (same.trans same2) R2 pm2)
    have two : (t1.mask = 7 ∧ es.size = 4) ∨ (t1.mask = 31 ∧ es.size = 18) := by
      rcases tab.mok with e | e | e
      · exact .inl ⟨e, by omega⟩
      · exact .inr ⟨e, by omega⟩
      · omega
    first
      | (refine wpAny_bind ?_; refine wp_if_pos (by rw [full]; rfl) ?_)
      | (refine wp_if_pos (by rw [full]; rfl) ?_; refine wpAny_bind ?_)
    rcases two with ⟨e1, e2⟩ | ⟨e1, e2⟩
    · exact go 31 (by rw [e2]; exact congrArg (· - 1) size_20) (.inr (.inl rfl)) (by rw [e2]; exact Nat.le_trans (Nat.le_of_eq size_20) (by decide)) (by omega) (by omega)
    · exact go 127 (by rw [e2]; exact congrArg (· - 1) size_76) (.inr (.inr rfl)) (by rw [e2]; exact Nat.le_of_eq size_76) (by omega) (by omega)
  · first
      | refine wp_if_neg (by rw [Bool.eq_false_iff.mpr full]; decide) ?_
      | (refine wpAny_bind ?_; refine wp_if_neg (by rw [Bool.eq_false_iff.mpr full]; decide) ?_; refine wpAny_pure ?_)
    refine wpAny_pure (q h1 L1 es1 (ep + 1) t1 same ⟨⟨_, ho1, ⟨hex.1, hex.2.1, hex.2.2⟩, rfl⟩, en, tab, nd, ks1, led, ?_, few⟩ (.refl _))
    have z : ¬ (L1.length * 5 ≥ t1.mask * 3) := fun y => full (by unfold SetTable.tooFull; rw [decide_eq_true_eq, fill]; exact y)
    omega
theorem MxS.add (R : MxS P w s.heap a L es ep t) {x : Addr} {k : List Key} (hx : Ky P w s.heap k x) (hu : A.units < cLine) (new : ∀ m ∈ L, m.2 ≠ k) (few : L.length + 1 < 64) {Q : Bool → Shared → Prop}
    (q : ∀ b h' L' es' ep' t', Heap.SameBut a s.heap h' → MxS P w h' a L' es' ep' t' → L'.Perm ((x, k) :: L) → Q b { s with heap := h' }) : wpAny (model P w) A (setAddHashed a (.ref x) (kh P w k)) Q E s := by
  obtain ⟨o, ho, hex, hd⟩ := R.ob
  have len := mrows_len R.en
  have wide := R.wide
  unfold setAddHashed
  refine wpAny_holding ?_
  rw [show (100000 : Nat) = 99999 + 1 from rfl, setAddHashedIn_succ]
  refine wpAny_bind (wpAny_setState_of ho hd R.fits ?_)
  dsimp only
  refine wp_if_neg (by simp [byScan, Value.scannable]) ?_
  try refine wpAny_bind (wpAny_pure ?_)
  obtain ⟨K, lim, gap, ahead⟩ := R.tab.first (by rw [mhs_len]; omega) (kh P w k)
  have lim2 : K < 100000 := by
    have : 10 * SetTable.turns t.mask ≤ 1420 := by
      unfold SetTable.turns
      rcases R.tab.mok with e | e | e <;> omega
    omega
  refine wpAny_bind (m := setSearch a (.ref x) (kh P w k) true) ?_
  unfold setSearch
  refine R.search hx hu new lim gap ahead ?_ 100000 0 none rfl (Nat.zero_le _) (by omega)
  dsimp only
  refine wpAny_bind (wpAny_setState_of ho hd R.fits ?_)
  dsimp only
  obtain ⟨p1, p2, p3, p4, p5, p6, p7, p8, p9⟩ := R.tab.put gap ahead
  generalize epp : SetTable.below t.place (way t.mask (kh P w k) K) = i at p1 p2 p3
  have hin : (SetTable.insertAt es i (kh P w k, Value.ref x)).toList = mrows P w (L.take i ++ (x, k) :: L.drop i) := by
    rw [SetTable.toList_insertAt, R.en]
    simp [mrows]
  have hhs : mhs P w (L.take i ++ (x, k) :: L.drop i) = (mhs P w L).take i ++ kh P w k :: (mhs P w L).drop i := by simp [mhs]
  rw [← hhs] at p3
  have pm := put_perm L i (x, k)
  have pl : (L.take i ++ (x, k) :: L.drop i).length = L.length + 1 := pm.length_eq
  have nd1 : ((L.take i ++ (x, k) :: L.drop i).map (·.2)).Nodup := (pm.map (·.2)).nodup_iff.mpr (List.nodup_cons.mpr ⟨fun z => by
    obtain ⟨m, hm, e⟩ := List.mem_map.mp z
    exact new m hm e, R.nd⟩)
  have ks1 : ∀ m ∈ L.take i ++ (x, k) :: L.drop i, Ky P w s.heap m.2 m.1 := fun m hm => by
    rcases List.mem_cons.mp (pm.mem_iff.mp hm) with e | hm
    · rw [e]; exact hx
    · exact R.ks m hm
  generalize L.take i ++ (x, k) :: L.drop i = L1 at hin hhs p3 pm pl nd1 ks1
  rw [mhs_len] at p9
  generalize t.put (way t.mask (kh P w k) K) = pt at p1 p3 p4 p5 p6 p7 p8 p9 ⊢
  obtain ⟨t1, i1⟩ := pt
  dsimp only at p1 p3 p4 p5 p6 p7 p8 p9 ⊢
  subst p1
  have led1 : w.params.followText "set-order" = true ∨ t1.led = true := by rw [p5]; exact R.led
  have tail : ∀ y : Bool, wpAny (model P w) A (do
      storeSet a (SetTable.insertAt es i1 (kh P w k, Value.ref x)) (if y = true then t1 else { t1 with plain := false })
      if !false && (if y = true then t1 else { t1 with plain := false }).tooFull then setRelay a (SetTable.grown (es.size + 1))
      return true) Q E s := fun y => by
    refine addTail ho hex hd hin (by cases y <;> first | exact p3 | exact tab_unplain p3) (by cases y <;> exact p9.trans pl.symm) (by cases y <;> exact p4) nd1 ks1 (by cases y <;> exact led1) (by omega) (by omega) (by omega) fun h' L' es' ep' t' same R' pm' => q true h' L' es' ep' t' same R' (pm'.trans pm)
  by_cases pt1 : t1.plain = true
  · first
      | (refine wpAny_bind ?_; refine wp_if_pos pt1 ?_; exact hx.hashBy tail)
      | exact wp_if_pos pt1 (wpAny_bind (hx.hashBy tail))
  · first
      | (refine wpAny_bind ?_; refine wp_if_neg pt1 ?_; exact wpAny_pure (tail true))
      | exact wp_if_neg pt1 (wpAny_bind (wpAny_pure (tail true)))
      | exact wp_if_neg pt1 (tail true)
end
end Cw

namespace Cw
open PySem PySem.Spec PyProof.Rows L2 PySem.Froz

/-! ### set(t), t a tuple of tuples, no two alike; its len -/
theorem MxS.keep {P : Program} {w : World} {h h' : Heap} {a : Addr} {L : List (Addr × List Key)} {es : Array (Int × Value)} {ep : Nat} {t : SetTable} (R : MxS P w h a L es ep t) (k : ∀ o, h.get? a = some o → h'.get? a = some o) (ks : ∀ m ∈ L, Ky P w h' m.2 m.1) : MxS P w h' a L es ep t := by
  obtain ⟨o, ho, r⟩ := R.ob
  exact ⟨⟨o, k o ho, r⟩, R.en, R.tab, R.nd, ks, R.led, R.wide, R.few⟩
theorem MxS.fresh {P : Program} {w : World} {h : Heap} {a : Addr} (ho : h.get? a = some (newS w)) : MxS P w h a [] #[] 0 (.fresh 0 0 (!w.params.followText "set-order")) where
  ob := ⟨_, ho, ⟨rfl, rfl, rfl⟩, rfl⟩
  en := rfl
  tab := ⟨.nil, rfl, rfl, .inl rfl, fun x z => absurd z (by simp [SetTable.fresh]), fun i _ _ z => absurd z (by simp [mhs])⟩
  nd := .nil
  ks := fun m z => absurd z (by simp)
  led := by
    show _ ∨ (!w.params.followText "set-order") = true
    cases w.params.followText "set-order"
    · exact .inr rfl
    · exact .inl rfl
  wide := by show 0 * 5 < 7 * 3; decide
  few := by show 0 < 64; decide
theorem ky_keep {P : Program} {w : World} {h h' : Heap} {k : List Key} {b : Addr} (x : Ky P w h k b) (kp : ∀ c o, h.get? c = some o → h'.get? c = some o) : Ky P w h' k b := by
  obtain ⟨o, xs, n, ho, r⟩ := x
  exact ⟨o, xs, n, kp b o ho, r⟩
theorem items_mix {P : Program} {w : World} : ∀ {k : List Key} {us : List Value}, Vals (k.map kV) us → ItemsAre (mixKind P w) k us
  | [], _, .nil => .nil
  | .inl i :: k, _, .cons r t => by
    obtain ⟨tk, rfl⟩ := r
    exact .cons (by show keyIs (.inl i) (.int i tk) = true; simp [keyIs, Value.isInt]) (items_mix t)
  | .inr x :: k, _, .cons r t => by
    obtain ⟨tk, rfl⟩ := r
    exact .cons (by show keyIs (.inr x) (.str x tk) = true; simp [keyIs, Value.isStrOf]) (items_mix t)
theorem refs_at {ms : List (Addr × List Key)} : ∀ {us : List Value}, Vals (ms.map fun m => V.ref m.1) us → us = ms.map fun m => Value.ref m.1 := by
  induction ms with
  | nil => intro us r; cases r; rfl
  | cons m ms ih =>
    intro us r
    cases r with
    | cons r t => cases r; rw [ih t]; rfl
/-- a set of so many members -/
def SzO (a : Addr) (n : Nat) : HO := .ext fun h => ∃ (o : Obj) (es : Array (Int × Value)) (ep : Nat) (t : SetTable), h.get? a = some o ∧ o.ExactSet ∧ o.data = .set es ep t ∧ t.fits es.size = true ∧ es.size = n
section
variable {X : Cx}
def rSetMx (K : PySem.W.Frag) : List V → Hp → VK → Prop := fun xs H Q => ∃ (l : Addr) (ms : List (Addr × List Key)), xs = [.ref l] ∧ SqT K H l (ms.map fun m => .ref m.1) ∧ (∀ m ∈ ms, SqT K H m.1 (m.2.map kV)) ∧ (ms.map (·.2)).Nodup ∧ ms.length < 64 ∧
  ∀ a, H a = none → Q (.ref a) (upd H a (SzO a ms.length))
theorem call_setMx (hc : X.calm = true) (hu : X.A.units + 64 < cLine) : CallR X (.type "set") (rSetMx X.K) := by
  intro pins s σ H xs us Q I r ⟨l, ms, ex, hl, hm, nd, few, q⟩
  subst ex
  rw [Vals.ref1 r]
  obtain ⟨its, rv, tp, _⟩ := I.tuple hl
  have ei := refs_at rv
  have hn : H s.heap.objs.size = none := I.hok.fresh (Nat.le_refl _)
  have base : ∀ m ∈ ms, Ky X.prog X.w s.heap m.2 m.1 := fun m hmm => by
    obtain ⟨ys, ry, ⟨o, ho, hcl, n, hd⟩, _⟩ := I.tuple (hm m hmm)
    exact ⟨o, ys.toArray, n, ho, hcl, hd, by simpa using items_mix ry⟩
  have sz : its.toArray.size = ms.length := by rw [ei]; simp
  refine set_tuple (fun i h => ∃ L es ep t, MxS X.prog X.w h s.heap.objs.size L es ep t ∧ (∀ m ∈ L, m ∈ ms.take i) ∧ L.length = i) (I.ok.hd hc) tp (show X.A.units + 3 < cLine by omega) ⟨?_⟩ ⟨?_⟩ ⟨?_, ?_⟩
  · rintro i h h' ⟨L, es, ep, t, R, sub, len⟩ k kp
    exact ⟨L, es, ep, t, R.keep k fun m hmm => ky_keep (base m (List.mem_of_mem_take (sub m hmm))) kp, sub, len⟩
  · rintro i v A E s1 Q1 hv un ⟨L, es, ep, t, R, sub, len⟩ kp q1
    obtain ⟨m, em, ev⟩ : ∃ m, ms[i]? = some m ∧ v = .ref m.1 := by
      have z : its.toArray[i]? = some v := hv
      rw [ei] at z
      simp only [List.getElem?_toArray, List.getElem?_map, Option.map_eq_some_iff] at z
      obtain ⟨m, e1, e2⟩ := z
      exact ⟨m, e1, e2.symm⟩
    subst ev
    have il := (List.getElem?_eq_some_iff.mp em).1
    have hx := ky_keep (base m (List.mem_of_getElem? em)) kp
    have new : ∀ m2 ∈ L, m2.2 ≠ m.2 := fun m2 h2 e => by
      obtain ⟨j, hj, e2⟩ := List.getElem_of_mem (sub m2 h2)
      have jl : j < i := by rw [List.length_take] at hj; omega
      rw [List.getElem_take] at e2
      have e3 : ms[i] = m := (List.getElem?_eq_some_iff.mp em).2
      have z := List.pairwise_iff_getElem.mp nd j i (by simp; omega) (by simp; omega) jl
      simp only [List.getElem_map] at z
      rw [e2, e3] at z
      exact z e
    unfold setAdd
    refine wpAny_holding (wpAny_bind (wpAny_pyHash_tuple un hx ?_))
    refine MxS.add (s := { s1 with toks := s1.toks + (m.2.length + 1) }) R hx un new (by omega) fun b h' L' es' ep' t' same R' pm => q1 b h' _ same (Nat.le_add_right _ _) ⟨L', es', ep', t', R', fun m2 h2 => ?_, by rw [pm.length_eq, List.length_cons, len]⟩
    rw [List.take_add_one, em]
    rcases List.mem_cons.mp (pm.mem_iff.mp h2) with e | z
    · subst e; exact List.mem_append_right _ (by simp)
    · exact List.mem_append_left _ (sub m2 z)
  · intro h' e
    exact ⟨[], #[], 0, _, .fresh e, fun m z => absurd z (by simp), rfl⟩
  · rintro h' tk ⟨L, es, ep, t, R, _, len⟩ kp
    obtain ⟨o, ho, hex, hd⟩ := R.ob
    refine ⟨.ref _, _, I.laid (a := s.heap.objs.size) (o := SzO s.heap.objs.size ms.length) (t' := tk) kp (Nat.le_refl _) ⟨⟨o, es, ep, t, ho, hex, hd, MxS.fits (s := { s with heap := h' }) R, by rw [mrows_len R.en, len, sz]⟩, ⟨o, ho⟩, fun h1 h2 ⟨o, es, ep, t, r1, r⟩ k => ⟨o, es, ep, t, k o r1, r⟩⟩, rfl, q _ hn⟩
def rLenSz : List V → Hp → VK → Prop := fun xs H Q => ∃ (a : Addr) (n : Nat), xs = [.ref a] ∧ H a = some (SzO a n) ∧ n < 64 ∧ Q (.int n) H
theorem call_lenSz : CallR X (.builtin "len") rLenSz := by
  intro pins s σ H xs us Q I r ⟨a, n, ex, ha, few, q⟩
  subst ex
  rw [Vals.ref1 r]
  obtain ⟨o, es, ep, t, ho, hex, hd, hf, en⟩ := (I.hok a _ ha).1
  exact call_len_set ho hex hd hf (by rw [en]; omega) ⟨.int n, H, I.tok _, ⟨_, by rw [en]⟩, q⟩
/-! set(xs), xs a list of texts -/
def rSetTx (K : PySem.W.Frag) (P : Program) (w : World) : List V → Hp → VK → Prop := fun xs H Q => ∃ (l : Addr) (ys : List Str), xs = [.ref l] ∧ SqL K H l (ys.map V.str) ∧ ys.length < 64 ∧
  ∀ a m, (∀ z, z ∈ m ↔ z ∈ ys) → m.length ≤ ys.length → H a = none → Q (.ref a) (upd H a (TxO P w a m))
theorem call_setTx (hc : X.calm = true) (hu : X.A.units + 64 < cLine) : CallR X (.type "set") (rSetTx X.K X.prog X.w) := by
  intro pins s σ H xs us Q I r ⟨l, ys, ex, hl, few, q⟩
  subst ex
  rw [Vals.ref1 r]
  obtain ⟨its, rv, pl, _⟩ := I.list hl
  have hn : H s.heap.objs.size = none := I.hok.fresh (Nat.le_refl _)
  have hS := rv.strs
  have sz : its.length = ys.length := by have := rv.length; rw [List.length_map] at this; exact this.symm
  refine set_list (fun i h => ∃ m, TxA X.prog X.w h s.heap.objs.size m ∧ (∀ z, z ∈ m ↔ z ∈ ys.take i) ∧ m.length ≤ i) (I.ok.hd hc) pl.isList (show X.A.units + 3 < cLine by omega) ⟨?_⟩ ⟨?_⟩ ⟨?_, ?_⟩
  · rintro i h h' ⟨m, R, mem, len⟩ k kp
    exact ⟨m, R.keep k, mem, len⟩
  · rintro i v A E s1 Q1 hv un ⟨m, R, mem, len⟩ kp q1
    have hv' : its[i]? = some v := by simpa using hv
    obtain ⟨k, tk, e1, e2⟩ : ∃ k tk, ys[i]? = some k ∧ v = .str k tk := by
      have il : i < ys.length := by rw [← sz]; exact (List.getElem?_eq_some_iff.mp hv').1
      obtain ⟨tk, e⟩ := SS.strs_at hS i v hv'
      exact ⟨_, tk, List.getElem?_eq_getElem il, by rw [e, List.getD_eq_getElem?_getD, List.getElem?_eq_getElem il]; rfl⟩
    subst e2
    have il := (List.getElem?_eq_some_iff.mp e1).1
    have tk2 : ∀ z, (z ∈ (if k ∈ m then m else k :: m)) ↔ z ∈ ys.take (i + 1) := fun z => by
      rw [List.take_add_one, e1, List.mem_append, ← mem z]
      show z ∈ mem1 k m ↔ _
      rw [mem1_mem]
      simp only [Option.toList_some, List.mem_singleton]
      exact Or.comm
    unfold setAdd
    refine wpAny_holding (wpAny_bind ((PySem.strKind X.prog X.w).pyHash (is_str k tk) ?_))
    refine TxA.put (s := { s1 with toks := s1.toks + 1 }) R (Nat.lt_trans (show m.length + 1 < 65 by omega) (by decide)) (fun hk h' same R' => q1 true h' _ same (Nat.le_succ _) ⟨k :: m, R', fun z => ?_, by rw [List.length_cons]; omega⟩) fun hk => ?_
    · rw [← tk2 z, if_neg hk]
    · have := q1 false s1.heap (s1.toks + 1) (Heap.SameBut.refl _ _) (Nat.le_succ _) ⟨m, R, fun z => by rw [← tk2 z, if_pos hk], by omega⟩
      exact this
  · intro h' e
    exact ⟨[], ⟨⟨(#[], 0, .fresh 0 0 (!X.w.params.followText "set-order")), e, TxOk.nil (by rfl), .nil, by
      show _ ∨ (!X.w.params.followText "set-order") = true
      cases X.w.params.followText "set-order"
      · exact .inr rfl
      · exact .inl rfl⟩, .nil⟩, fun z => by simp, Nat.le_refl _⟩
  · rintro h' tk ⟨m, R, mem, len⟩ kp
    have e : its.toArray.size = ys.length := by simpa using sz
    rw [e] at mem len
    rw [List.take_length] at mem
    exact ⟨.ref _, _, I.laid (a := s.heap.objs.size) (t' := tk) kp (Nat.le_refl _) (txO_new R), rfl, q _ m mem len hn⟩
end
end Cw

namespace Cw
open PySem PySem.Spec PyProof.Rows L2 PySem.Froz

/-! ### targets: a list's items, an attribute -/
section
variable {X : Cx} {pos : Pos}
def gLs (k : Nat) (t : TGDs) : TGD := fun d ρ c Φ => match seqOf d with
  | some ds => (match d with
    | .tup _ => False
    | _ => ds.length = k ∧ t ds ρ c Φ)
  | none => False
theorem pgd_lst {es : List Expr} {k : Nat} {t : TGDs} {n : Nat} (hc : X.calm = true) (h : PGDs X es t) (hn : (assignEach es X.env).length = n := by rfl) (hst : (assignEach es X.env).findIdx? (·.1) = none := by rfl) : PGD X (.Tuple es k pos) (gLs n t) :=
  PG.imp (pg_lst hc h hn hst) fun v σ H Q ⟨m, ρ, c, d, Φ, S, r, h, nn⟩ => by
    cases d <;> first | exact h.elim | skip
    · obtain ⟨a, xs, rfl, h1, h2⟩ := r
      exact ⟨a, xs, rfl, .inl (.inl (ex_hid m H _ _ h1)), by rw [rlen h2]; exact h.1, m, ρ, c, _, Φ, S, h2, h.2, nn⟩
    · obtain ⟨a, xs, rfl, h1, h2⟩ := r
      exact ⟨a, xs, rfl, ex_l (ex_hid m H) h1, by rw [rlen h2]; exact h.1, m, ρ, c, _, Φ, S, h2, h.2, nn⟩
def gFld (C : Addr) (f : Str) (ta : TD) : TGD := fun d ρ c Φ => ta ρ c fun x c1 => ∃ k ns ds, x = .cell k ∧ c1[k]? = some (.obj C ns ds) ∧ ns.length < 1000 ∧ Φ ρ (c1.set k (.obj C (setF f d ns ds).1 (setF f d ns ds).2))
theorem pgd_fld {C : Addr} {f : Str} {o : Expr} {ta : TD} (cl : Cls X.K C) (na : NoAttr X.K C f) (ha : PD X o ta) : PGD X (.Attribute o f pos) (gFld C f ta) := by
  refine ⟨fun pins s σ H v u Q I r ⟨m, ρ, c, d, Φ, S, rv, h, n⟩ => ?_⟩
  rw [PySem.assign_Attribute]
  refine wpAny_bind (wpAny_holding (thn (ha.run pins s σ H (fun x H' => ∃ m' c' D', D' = x ∧ (∃ k ns ds, ∃ a, m'.ix[k]? = some a ∧ x = .ref a ∧ c'[k]? = some (.obj C ns ds) ∧ ns.length < 1000 ∧ Φ ρ (c'.set k (.obj C (setF f d ns ds).1 (setF f d ns ds).2))) ∧ CR X.K H' m' c' ∧ Le m H m' H') I ⟨m, ρ, c, _, S, h, fun x c1 w H1 m1 ⟨k, ns, ds, ex, h1, h2, h3⟩ C1 R1 L1 => ?_⟩) fun ov s1 ⟨x, H1, I1, rx, m1, c1, D', eD, ⟨k, ns, ds, a, h4, ex, h1, h2, h3⟩, C1, L1⟩ => ?_))
  · subst ex
    obtain ⟨a, h4, ew⟩ := R1
    exact ⟨m1, c1, w, rfl, ⟨k, ns, ds, a, h4, ew, h1, h2, h3⟩, C1, L1⟩
  · subst ex
    obtain rfl : ov = Value.ref a := rx
    obtain ⟨a', h5, dx, fs, h6, h7, h8⟩ := C1.at_ k _ h1
    rw [h4] at h5; cases h5
    have hm : a ∈ m1.ix := List.mem_of_getElem? h4
    have z1 := setF_at (f := f) (L1.r rv) h7 h8
    have z := cell_put (o := .ins C dx (putF f v fs)) (ce := .obj C (setF f d ns ds).1 (setF f d ns ds).2) C1 h4 ⟨dx, _, upd_same, z1.1, by show RL _ _ (hid m1 _) _ _; rw [hid_mut hm]; exact z1.2⟩
    refine wpAny_bind (wpAny_standAt (wpAny_bind (wpAny_holding (setattr_ok I1 h6 cl na (by rw [← List.length_map (f := (·.1)), h7]; exact h2) r fun s2 I2 => wpAny_release ⟨σ, _, I2, ?_⟩))))
    exact n σ _ m1 ρ _ h3 ((S.step L1 C1).step z.2 z.1) (L1.trans z.2)
end
/-! ### f'{a}{b}' -/
def fmtS : D → Option Str
  | .int i => if i.natAbs.log2 < 1920 then some (toString i) else none
  | .str x => if x.length ≤ sizeLine then some x else none
  | _ => none
def dFs2 (ta tb : TD) : TD := fun ρ c Φ => ta ρ c fun x c1 => ∃ a, fmtS x = some a ∧ a.length ≤ sizeLine ∧ tb ρ c1 fun y c2 => ∃ b, fmtS y = some b ∧ a.length + b.length ≤ sizeLine ∧ Φ (.str (a ++ b)) c2
section
variable {X : Cx} {a b : Expr} {ta tb : TD} {pos : Pos}
theorem fmt_lift {K : PySem.W.Frag} {H : Hp} {m : Ad} {d : D} {v : V} {y : Str} {Q : VK} (h : fmtS d = some y) (r : RR K H m d v) (q : Q (.str y) H) : (∃ x : Str, v = .str x ∧ x.length ≤ sizeLine ∧ Q (.str x) H) ∨ ∃ i : Int, v = .int i ∧ i.natAbs.log2 < 1920 ∧ Q (.str (toString i)) H := by
  cases d <;> first | (cases h; done) | skip
  · rename_i i
    have h : (if i.natAbs.log2 < 1920 then some (toString i : Str) else none) = some y := h
    by_cases c : i.natAbs.log2 < 1920
    · rw [if_pos c] at h; cases h
      exact .inr ⟨i, r, c, q⟩
    · rw [if_neg c] at h; cases h
  · rename_i x
    have h : (if x.length ≤ sizeLine then some x else none) = some y := h
    by_cases c : x.length ≤ sizeLine
    · rw [if_pos c] at h; cases h
      exact .inl ⟨_, r, c, q⟩
    · rw [if_neg c] at h; cases h
theorem str_nil_app (x : Str) : Str.empty ++ x = x := by cases x with | mk l => show (⟨#[] ++ l⟩ : Str) = ⟨l⟩; simp
theorem pd_fs2 {p1 p2 : Pos} (ha : PD X a ta) (hb : PD X b tb) : PD X (.JoinedStr [.FormattedValue a (-1) none p1, .FormattedValue b (-1) none p2] pos) (dFs2 ta tb) :=
  PE.imp (pe_joined (.cons (pe_fmt ha) (.cons (pe_fmt hb) .nil))) fun σ H Q ⟨m, ρ, c, Φ, S, h, q⟩ =>
    ⟨m, ρ, c, _, S, h, fun x c1 u H1 m1 ⟨xa, ea, la, hx⟩ C1 R1 L1 => fmt_lift (Q := fun v H' => ∃ y : Str, v = .str y ∧ (Str.empty ++ y).length ≤ sizeLine ∧ tJs [tFmt (lift X.K tb)] (Str.empty ++ y) σ H' fun out H1 => Q (.str out) H1) ea R1
      ⟨xa, rfl, by rw [str_nil_app]; exact la, m1, ρ, c1, _, S.step L1 C1, hx, fun y c2 v H2 m2 ⟨xb, eb, lb, hy⟩ C2 R2 L2 => fmt_lift (Q := fun v H' => ∃ y : Str, v = .str y ∧ (Str.empty ++ xa ++ y).length ≤ sizeLine ∧ tJs [] (Str.empty ++ xa ++ y) σ H' fun out H1 => Q (.str out) H1) eb R2
        ⟨xb, rfl, by rw [str_nil_app, Str.length_append]; exact lb, by
          show Q (.str (Str.empty ++ xa ++ xb)) H2
          rw [str_nil_app]
          exact q (.str (xa ++ xb)) c2 _ H2 m2 hy C2 rfl (L1.trans L2)⟩⟩⟩
end
end Cw

namespace Cw
open PySem PySem.Spec PyProof.Rows L2 PySem.Froz

/-! ### [e for x in .. for y in ..], no cells around it -/
def dLc2 (ti : TDs) (i : Nat) (tj : TDs) (j : Nat) (te : TD) : TD := fun ρ c Φ => ti ρ c fun ds c1 => ∃ (es : D → List D) (f : D → D → D), c1 = [] ∧
  (∀ d ∈ ds, ∀ acc (Ψ : List D → List Cell → Prop), Ψ (es d) [.lst acc] → tj (((ρ.set j none).set i none).set i (some d)) [.lst acc] Ψ) ∧
  (∀ d ∈ ds, ∀ e ∈ es d, okD 0 (f d e) = true ∧ ∀ acc (Ψ : D → List Cell → Prop), Ψ (f d e) [.lst acc] → te ((((ρ.set j none).set i none).set i (some d)).set j (some e)) [.lst acc] Ψ) ∧
  (ds.flatMap fun d => (es d).map (f d)).length ≤ sizeLine ∧ Φ (.lst (ds.flatMap fun d => (es d).map (f d))) []
theorem SR.wipe {K : PySem.W.Frag} {σ : L2.St} {H : Hp} {m : Ad} {ρ : Env} {c : List Cell} (S : SR K σ H m ρ c) (i : Nat) : SR K (σ.set i none) H m (ρ.set i none) c :=
  ⟨S.cr, by rw [List.length_set, List.length_set]; exact S.len, fun k d e => by
    by_cases hk : i = k
    · subst hk
      rw [List.getElem?_set_self'] at e
      cases h : ρ[i]? with
      | none => rw [h] at e; cases e
      | some x => rw [h] at e; cases e
    · rw [List.getElem?_set_ne hk] at e
      obtain ⟨v, h1, h2⟩ := S.sl k d e
      exact ⟨v, by rw [List.getElem?_set_ne hk]; exact h1, h2⟩⟩
theorem okDs_flat {es : D → List D} {f : D → D → D} : ∀ {ds : List D}, (∀ d ∈ ds, ∀ e ∈ es d, okD 0 (f d e) = true) → okDs 0 (ds.flatMap fun d => (es d).map (f d)) = true := fun {ds} h => okDs_of fun x hx => by
  obtain ⟨d, hd, hx⟩ := List.mem_flatMap.mp hx
  obtain ⟨e, he, rfl⟩ := List.mem_map.mp hx
  exact h d hd e he
theorem lc2_walk {K : PySem.W.Frag} {J : It} {m : Ad} {H1 : Hp} {ds : List D} {σ : L2.St} {ρ : Env} {i j : Nat} {tj : TDs} {te : TD} {Qd : Addr → Hp → Prop} {es : D → List D} {f : D → D → D} (wk : Walks K J m H1 ds) (S : SR K σ H1 m ρ [])
    (hj : ∀ d ∈ ds, ∀ acc (Ψ : List D → List Cell → Prop), Ψ (es d) [.lst acc] → tj (((ρ.set j none).set i none).set i (some d)) [.lst acc] Ψ)
    (he : ∀ d ∈ ds, ∀ e ∈ es d, okD 0 (f d e) = true ∧ ∀ acc (Ψ : D → List Cell → Prop), Ψ (f d e) [.lst acc] → te ((((ρ.set j none).set i none).set i (some d)).set j (some e)) [.lst acc] Ψ)
    (hl : (ds.flatMap fun d => (es d).map (f d)).length ≤ sizeLine)
    (q : ∀ p H', CR K H' m [] → RR K H' m (.lst (ds.flatMap fun d => (es d).map (f d))) (.ref p) → Le m H1 m H' → Qd p H') : ∀ p, H1 p = none → ∃ W : Nat → Nat → Hp → Prop, (∃ mm, W 0 mm (upd H1 p (.lst []))) ∧ ∀ n mm H, W n mm H →
      (J.stop n H ∧ Qd p H) ∨ (J.go n H ∧ ∃ Nx : Hp → Prop, (∀ H', Nx H' → ∃ m', m' < mm ∧ W (n + 1) m' H') ∧ ∀ x H', J.yld n H x H' → gName i x (L2.wipe σ [i, j]) H' fun σ2 H2 => L2.wipe σ2 [i, j] = L2.wipe σ [i, j] ∧
        liftI K tj σ2 H2 fun J1 H4 => ∃ W1 : Nat → Nat → Hp → Prop, (∃ mm, W1 0 mm H4) ∧ ∀ n1 k H, W1 n1 k H →
          (J1.stop n1 H ∧ Nx H) ∨ (J1.go n1 H ∧ ∃ Nx1 : Hp → Prop, (∀ H', Nx1 H' → ∃ k', k' < k ∧ W1 (n1 + 1) k' H') ∧ ∀ x H', J1.yld n1 H x H' → gName j x (L2.wipe σ2 [j]) H' fun σ3 H5 => L2.wipe σ3 [j] = L2.wipe σ2 [j] ∧
            lift K te σ3 H5 fun y H7 => ∃ acc, H7 p = some (.lst acc) ∧ acc.length < sizeLine ∧ Nx1 (upd H7 p (.lst (acc ++ [y]))))) := by
  intro p hp
  have z0 := cell_new (ce := .lst []) (o := .lst []) S.cr hp ⟨[], upd_same, rfl⟩
  have ix0 : m.ix = [] := List.eq_nil_of_length_eq_zero S.cr.len
  have last : (m.push p).ix[0]? = some p := by show (m.ix ++ [p])[0]? = _; rw [ix0]; rfl
  have inp : p ∈ (m.push p).ix := List.mem_of_getElem? last
  have S0 := (S.wipe j).wipe i
  refine ⟨fun n mm H => mm = ds.length - n ∧ n ≤ ds.length ∧ CR K H (m.push p) [.lst ((ds.take n).flatMap fun d => (es d).map (f d))] ∧ Le m H1 (m.push p) H, ⟨ds.length, rfl, Nat.zero_le _, z0.1, z0.2.1⟩, ?_⟩
  rintro n mm H ⟨rfl, hn, C, l⟩
  by_cases lt : n < ds.length
  · refine .inr ⟨wk.go n (m.push p) H _ l C lt, fun H' => CR K H' (m.push p) [.lst ((ds.take (n + 1)).flatMap fun d => (es d).map (f d))] ∧ Le m H1 (m.push p) H', fun H' w => ⟨ds.length - (n + 1), by omega, rfl, lt, w⟩, fun x H2 y => ?_⟩
    obtain ⟨d, hd, C2, l2, rx⟩ := wk.yld n (m.push p) H _ x H2 l C lt y
    have dm := List.mem_of_getElem? hd
    have S2 : SR K ((L2.wipe σ [i, j]).set i (some x)) H2 (m.push p) (((ρ.set j none).set i none).set i (some d)) [.lst ((ds.take n).flatMap fun d => (es d).map (f d))] := (S0.step (l.trans l2) C2).set rx
    refine ⟨?_, m.push p, _, _, fun t c' => t = es d ∧ c' = [.lst ((ds.take n).flatMap fun d => (es d).map (f d))], S2, hj d dm _ _ ⟨rfl, rfl⟩, fun t c' J1 H4 m4 ⟨et, ec⟩ C4 wk1 l4 => ?_⟩
    · show ((((σ.set j none).set i none).set i (some x)).set j none).set i none = (σ.set j none).set i none
      by_cases ij : i = j
      · subst ij; simp [List.set_set]
      · rw [List.set_set, List.set_comm (some x) none ij, List.set_set, List.set_set]
    subst et ec
    have em := CR.same (by simp [Ad.push, ix0]) C4 l4
    subst em
    have grow : (ds.take (n + 1)).flatMap (fun d => (es d).map (f d)) = (ds.take n).flatMap (fun d => (es d).map (f d)) ++ (es d).map (f d) := by
      rw [List.take_add_one, hd]; simp
    have lim : ((ds.take n).flatMap fun d => (es d).map (f d)).length + (es d).length ≤ sizeLine := by
      have h1 : ((ds.take (n + 1)).flatMap fun d => (es d).map (f d)).length ≤ (ds.flatMap fun d => (es d).map (f d)).length := by
        conv => rhs; rw [← List.take_append_drop (n + 1) ds, List.flatMap_append, List.length_append]
        exact Nat.le_add_right _ _
      rw [grow, List.length_append, List.length_map] at h1
      omega
    refine ⟨fun n1 k H => k = (es d).length - n1 ∧ n1 ≤ (es d).length ∧ CR K H (m.push p) [.lst ((ds.take n).flatMap (fun d => (es d).map (f d)) ++ ((es d).take n1).map (f d))] ∧ Le (m.push p) H4 (m.push p) H, ⟨_, rfl, Nat.zero_le _, by simpa using C4, Le.refl _ _⟩, ?_⟩
    rintro n1 k H5 ⟨rfl, hn1, C5, l5⟩
    by_cases lt1 : n1 < (es d).length
    · refine .inr ⟨wk1.go n1 (m.push p) H5 _ l5 C5 lt1, fun H' => CR K H' (m.push p) [.lst ((ds.take n).flatMap (fun d => (es d).map (f d)) ++ ((es d).take (n1 + 1)).map (f d))] ∧ Le (m.push p) H4 (m.push p) H', fun H' w => ⟨(es d).length - (n1 + 1), by omega, rfl, lt1, w⟩, fun x1 H6 y1 => ?_⟩
      obtain ⟨e, hee, C6, l6, rx1⟩ := wk1.yld n1 (m.push p) H5 _ x1 H6 l5 C5 lt1 y1
      have S3 := (S2.step (l4.trans (l5.trans l6)) C6).wipe j
      have S4 := S3.set (i := j) rx1
      rw [show ((((ρ.set j none).set i none).set i (some d)).set j none).set j (some e) = (((ρ.set j none).set i none).set i (some d)).set j (some e) from List.set_set ..] at S4
      refine ⟨?_, m.push p, _, _, fun t c' => t = f d e ∧ c' = [.lst ((ds.take n).flatMap (fun d => (es d).map (f d)) ++ ((es d).take n1).map (f d))], S4, (he d dm e (List.mem_of_getElem? hee)).2 _ _ ⟨rfl, rfl⟩, fun t c' u H7 m7 ⟨et, ec⟩ C7 R7 l7 => ?_⟩
      · show (((((L2.wipe σ [i, j]).set i (some x)).set j none).set j (some x1)).set j none) = ((L2.wipe σ [i, j]).set i (some x)).set j none
        rw [List.set_set, List.set_set]
      subst et ec
      have em := CR.same (by simp [Ad.push, ix0]) C7 l7
      subst em
      obtain ⟨a, h5, xs, h6, h7⟩ := C7.at_ 0 _ rfl
      rw [last] at h5; cases h5
      have hx := rlen h7
      have zl : xs.length < sizeLine := by
        rw [hx, List.length_append, List.length_map, List.length_take]; omega
      have z := cell_put (o := .lst (xs ++ [u])) (ce := .lst (((ds.take n).flatMap (fun d => (es d).map (f d)) ++ ((es d).take n1).map (f d)) ++ [f d e])) C7 last ⟨_, upd_same, by show RL _ _ (hid (m.push p) _) _ _; rw [hid_mut inp]; exact RL.append h7 ⟨u, [], rfl, R7, rfl⟩⟩
      refine ⟨xs, h6, zl, ?_, (l5.trans (l6.trans l7)).trans z.2⟩
      have z1 := z.1
      rw [List.take_add_one, hee, Option.toList_some, List.map_append, ← List.append_assoc]
      exact z1
    · have e1 : n1 = (es d).length := by omega
      subst e1
      rw [List.take_length] at C5
      exact .inl ⟨wk1.stop _ (m.push p) H5 _ l5 C5 (Nat.le_refl _), by rw [grow]; exact C5, (l.trans (l2.trans l4)).trans l5⟩
  · have en : n = ds.length := by omega
    subst en
    rw [List.take_length] at C
    obtain ⟨C', _, ⟨xs, h4, h5⟩, hp1, hp2⟩ := CR.pop (c := []) C rfl
    exact .inl ⟨wk.stop _ (m.push p) H _ l C (Nat.le_refl _), q p H C' ⟨p, xs, rfl, by rw [hid_of ⟨hp1, hp2⟩]; exact h4, RL.low ex_pop (low_push C'.len) _ xs (okDs_flat fun d hd e he' => (he d hd e he').1) h5⟩ ⟨fun _ _ e => e, l.ex.trans ex_pop, rfl, l.hk, fun _ h => .inl h, l.al⟩⟩
section
variable {X : Cx} {iter iter1 elt : Expr} {te : TD} {pos tp tp1 : Pos} {ti tj : TDs} {scope : Scope} {x y : Str} {i j : Nat}
theorem pd_lc2 (hc : X.calm = true) (hN : X.N.Nodup) (hi : PID X (.Name x tp) iter ti) (ok : blkC X.N X.env.scope scope [(x, i), (y, j)] = true)
    (hg : ∀ (s : Shared) (H : Hp) (C : Addr) (cl : List (Str × Addr)) (fp : List Addr), PG (X.blk s H scope (compEnvC scope cl C X.env) fp) (.Name x tp) (gName i))
    (hi1 : ∀ (s : Shared) (H : Hp) (C : Addr) (cl : List (Str × Addr)) (fp : List Addr), PID (X.blk s H scope (compEnvC scope cl C X.env) fp) (.Name y tp1) iter1 tj)
    (hg1 : ∀ (s : Shared) (H : Hp) (C : Addr) (cl : List (Str × Addr)) (fp : List Addr), PG (X.blk s H scope (compEnvC scope cl C X.env) fp) (.Name y tp1) (gName j))
    (he : ∀ (s : Shared) (H : Hp) (C : Addr) (cl : List (Str × Addr)) (fp : List Addr), PD (X.blk s H scope (compEnvC scope cl C X.env) fp) elt te) (hs : ∀ x, foldedSetIterable iter X.env x = pure x := by intro _; rfl) (hs1 : ∀ env x, foldedSetIterable iter1 env x = pure x := by intro _ _; rfl) :
    PD X (.ListComp elt [⟨.Name x tp, iter, [], 0⟩, ⟨.Name y tp1, iter1, [], 0⟩] scope pos) (dLc2 ti i tj j te) :=
  PE.imp (pe_lc2 (own := [(x, i), (y, j)]) (vs1 := [j]) (te := lift X.K te) (wi1 := liftI X.K tj) hc hN hi (blkOk_by ok) (by simp) hg (fun _ _ _ _ _ => pts_nil) (fun s H C cl fp => hi1 s H C cl fp) hg1 (fun _ _ _ _ _ => pts_nil) (fun s H C cl fp => he s H C cl fp) hs hs1) fun σ H Q ⟨m, ρ, c, Φ, S, h, q⟩ =>
    ⟨m, ρ, c, _, S, h, fun ds c1 J H1 m1 ⟨es, f, ec, h1, h2, h3, h4⟩ C1 wk L1 => by
      subst ec
      exact lc2_walk wk (S.step L1 C1) h1 h2 h3 fun p H' C' R' l' => q _ [] _ H' m1 h4 C' R' (L1.trans l')⟩
end
end Cw

namespace Cw
open PySem PySem.Spec PyProof.Rows L2 PySem.Froz

/-! ### len(set(t)), sorted(set(l)) -/
def kD : Key → D
  | .inl i => .int i
  | .inr x => .str x
def keyD (k : List Key) : D := .tup (k.map kD)
theorem rl_keys {K : PySem.W.Frag} {ix : List Addr} {H : Hp} : ∀ {k : List Key} {xs : List V}, RL K ix H (k.map kD) xs → xs = k.map kV
  | [], _, h => h
  | .inl i :: k, _, ⟨x, r, e, h1, h2⟩ => by subst e; rw [rl_keys h2]; cases h1; rfl
  | .inr z :: k, _, ⟨x, r, e, h1, h2⟩ => by subst e; rw [rl_keys h2]; cases h1; rfl
theorem rl_rows {K : PySem.W.Frag} {ix : List Addr} {H : Hp} : ∀ {ks : List (List Key)} {xs : List V}, RL K ix H (ks.map keyD) xs → ∃ ms : List (Addr × List Key), xs = ms.map (fun m => .ref m.1) ∧ ms.map (·.2) = ks ∧ ∀ m ∈ ms, SqT K H m.1 (m.2.map kV)
  | [], _, h => ⟨[], h, rfl, fun m z => absurd z (by simp)⟩
  | k :: ks, _, ⟨x, r, e, ⟨b, ys, ex, h1, h2⟩, h3⟩ => by
    subst e ex
    obtain ⟨ms, e1, e2, e3⟩ := rl_rows h3
    have ey := rl_keys h2
    subst ey
    exact ⟨(b, k) :: ms, by rw [e1]; rfl, by rw [List.map_cons, e2], fun m z => by
      rcases List.mem_cons.mp z with e | z
      · subst e; exact h1
      · exact e3 m z⟩
theorem txts_eq {K : PySem.W.Frag} {ix : List Addr} {H : Hp} : ∀ {ys : List Str} {xs : List V}, RL K ix H (ys.map D.str) xs → xs = ys.map V.str
  | [], _, h => h
  | z :: ys, _, ⟨x, r, e, h1, h2⟩ => by subst e; rw [txts_eq h2]; cases h1; rfl
def dLenSet (te : TD) : TD := fun ρ c Φ => te ρ c fun d c1 => ∃ ks : List (List Key), d = .tup (ks.map keyD) ∧ ks.Nodup ∧ ks.length < 64 ∧ Φ (.int ks.length) c1
def dSortL (te : TD) : TD := fun ρ c Φ => te ρ c fun d c1 => ∃ ys : List Str, d = .lst (ys.map .str) ∧ ys.length < 64 ∧ ∀ zs : List Str, zs.Nodup → sortedS zs = true → (∀ x, x ∈ zs ↔ x ∈ ys) → Φ (.lst (zs.map .str)) c1
section
variable {X : Cx} {e : Expr} {te : TD} {pos pp p1 p2 : Pos}
theorem pd_lenSet (hu : X.A.units + 64 < cLine) (hc : X.calm = true) (he : PD X e te) (hm : X.mg "len" = none) (hm2 : X.mg "set" = none) (hg : Gl X "len" := by rfl) (hg2 : Gl X "set" := by rfl)
    (h1 : starEach [e] X.env = (false, eval e X.env) :: starEach [] X.env := by rfl) (h2 : (backTo p1 (starEach [] X.env)).any (·.1) = false := by rfl)
    (h3 : starEach [.Call (.Name "set" p2) [e] [] p1] X.env = (false, eval (.Call (.Name "set" p2) [e] [] p1) X.env) :: starEach [] X.env := by rfl) (h4 : (backTo pos (starEach [] X.env)).any (·.1) = false := by rfl) :
    PD X (.Call (.Name "len" pp) [.Call (.Name "set" p2) [e] [] p1] [] pos) (dLenSet te) :=
  PE.imp (pe_callB call_lenSz hg hm boot_len (pa_cons (pe_callTy (call_setMx hc hu) hg2 hm2 boot_set (pa_cons he pa_nil h1) (by decide) (by decide) h1 h2) pa_nil h3) (by decide) (by decide) h3 h4) fun σ H Q ⟨m, ρ, c, Φ, S, h, q⟩ =>
    ⟨m, ρ, c, _, S, h, fun d c1 u H1 m1 ⟨ks, ed, nd, few, hΦ⟩ C1 R1 L1 => by
      subst ed
      obtain ⟨l, xs, eu, s1, s2⟩ := R1
      obtain ⟨ms, e1, e2, e3⟩ := rl_rows s2
      subst eu e1 e2
      rw [List.length_map] at few hΦ
      exact ⟨l, ms, rfl, ex_t (ex_hid m1 H1) s1, fun k hk => ex_t (ex_hid m1 H1) (e3 k hk), nd, few, fun a ha => ⟨a, ms.length, rfl, upd_same, few, q _ c1 _ _ m1 hΦ (C1.new ha) rfl (L1.trans (Le.new ha C1))⟩⟩⟩
theorem pd_sortL (hu : X.A.units + 64 < cLine) (hc : X.calm = true) (he : PD X e te) (hm : X.mg "sorted" = none) (hm2 : X.mg "set" = none) (hg : Gl X "sorted" := by rfl) (hg2 : Gl X "set" := by rfl)
    (h1 : starEach [e] X.env = (false, eval e X.env) :: starEach [] X.env := by rfl) (h2 : (backTo p1 (starEach [] X.env)).any (·.1) = false := by rfl)
    (h3 : starEach [.Call (.Name "set" p2) [e] [] p1] X.env = (false, eval (.Call (.Name "set" p2) [e] [] p1) X.env) :: starEach [] X.env := by rfl) (h4 : (backTo pos (starEach [] X.env)).any (·.1) = false := by rfl) :
    PD X (.Call (.Name "sorted" pp) [.Call (.Name "set" p2) [e] [] p1] [] pos) (dSortL te) :=
  PE.imp (pe_callB (call_sortTx hc) hg hm boot_sorted (pa_cons (pe_callTy (call_setTx hc hu) hg2 hm2 boot_set (pa_cons he pa_nil h1) (by decide) (by decide) h1 h2) pa_nil h3) (by decide) (by decide) h3 h4) fun σ H Q ⟨m, ρ, c, Φ, S, h, q⟩ =>
    ⟨m, ρ, c, _, S, h, fun d c1 u H1 m1 ⟨ys, ed, few, hΦ⟩ C1 R1 L1 => by
      subst ed
      obtain ⟨l, xs, eu, s1, s2⟩ := R1
      have ex : xs = ys.map .str := txts_eq s2
      subst eu ex
      exact ⟨l, ys, rfl, .inl (.inl (ex_hid m1 H1 _ _ s1)), few, fun a z mz ml ha => ⟨a, z, rfl, upd_same, by omega, fun zs b nd mb so hb => by
        have C2 := C1.new (o := TxO X.prog X.w a z) ha
        have L2 := Le.new (o := TxO X.prog X.w a z) ha C1
        exact q _ c1 _ _ m1 (hΦ zs nd so fun x => (mb x).trans (mz x)) (C2.new hb) (RR.newL C2 hb (rl_txts zs)) ((L1.trans L2).trans (Le.new hb C2))⟩⟩⟩
end
/-! ### bool(x) of an object without a truth of its own -/
section
variable {prog : Program} {w : World} {A : Around} {E : Value → Shared → Prop} {s : Shared} {K : PySem.W.Frag} {x C : Addr} {ox : Obj} {od : Option Obj}
theorem tru_plain {Q : Bool → Shared → Prop} (X : K.In s.heap) (I : PySem.W.InstAt s.heap x ox C od) (hs : PySem.W.findIn K (.ref C) "__bool__" = some none) (hl : PySem.W.findIn K (.ref C) "__len__" = some none) (q : Q true s) : wpAny (model prog w) A (truthy (.ref x)) Q E s := by
  unfold truthy
  refine wpAny_bind (m := callSpecial? (.ref x) (Str.ofString "__bool__")) (wpAny_bind (wpAny_bind (I.type.here ((PySem.W.looks_findIn X hs).here (wpAny_pure ?_)))))
  refine wpAny_bind (wpAny_bind (I.type.here ((PySem.W.looks_findIn X hl).here ?_)))
  exact wp_if_pos (by rfl) (wpAny_pure q)
end
section
variable {X : Cx} {C : Addr} {e : Expr} {te : TD} {pos p : Pos}
theorem call_boolP (hn : PySem.W.findIn X.K (.ref C) "__bool__" = some none) (hs : PySem.W.findIn X.K (.ref C) "__len__" = some none) : CallR X (.type "bool") (fun xs H Q => ∃ a dx fs, xs = [.ref a] ∧ H a = some (.ins C dx fs) ∧ Q (.bl true) H) := by
  intro pins s σ H xs us Q I r ⟨a, dx, fs, ex, ha, q⟩
  subst ex
  obtain rfl := Vals.ref1 r
  obtain ⟨mA, J, _⟩ := ins_get I.hok ha
  obtain ⟨od, J, _⟩ := J.look
  exact bool_tru (tru_plain I.kIn J hn hs ⟨.bl true, H, I, rfl, q⟩)
def dBoolP (C : Addr) (te : TD) : TD := fun ρ c Φ => te ρ c fun d c1 => ∃ ns ds, d = .ins C ns ds ∧ Φ (.bl true) c1
theorem pd_boolP (hn : PySem.W.findIn X.K (.ref C) "__bool__" = some none) (hs : PySem.W.findIn X.K (.ref C) "__len__" = some none) (he : PD X e te) (hm : X.mg "bool" = none) (hg : Gl X "bool" := by rfl) (h1 : starEach [e] X.env = (false, eval e X.env) :: starEach [] X.env := by rfl) (h2 : (backTo pos (starEach [] X.env)).any (·.1) = false := by rfl) :
    PD X (.Call (.Name "bool" p) [e] [] pos) (dBoolP C te) := PE.imp (pe_callTy (call_boolP hn hs) hg hm (by decide +kernel) (pa_cons he pa_nil h1) (by decide) (by decide) h1 h2) fun σ H Q ⟨m, ρ, c, Φ, S, h, q⟩ =>
    ⟨m, ρ, c, _, S, h, fun d c1 u H1 m1 ⟨ns, ds, ed, hΦ⟩ C1 R1 L1 => by
      subst ed
      obtain ⟨a, dx, fs, eu, h3, _, _⟩ := R1
      subst eu
      exact ⟨a, dx, fs, rfl, ex_hid m1 H1 _ _ h3, q _ c1 _ H1 m1 hΦ C1 rfl L1⟩⟩
end
end Cw

namespace Cw
open PySem PySem.Spec PyProof.Rows L2 PySem.Froz

/-! ### t[::-1] of a tuple -/
section
variable {prog : Program} {w : World} {A : Around} {E : Value → Shared → Prop} {s : Shared}
theorem applied_rev {sl : Addr} {vs : Value} {n : Nat} {Q : Int × Int × Nat → Shared → Prop} (hs : s.heap.IsSliceOf sl .none .none vs) (ps : IsPart vs (some (-1))) (q : Q ((n : Int) - 1, -1, n) s) :
    wpAny (model prog w) A (Builtin.Slice.sliceApplied (.ref sl) (pure (n : Int))) Q E s := by
  obtain ⟨os, hos, hcs, hds⟩ := id hs
  unfold Builtin.Slice.sliceApplied Builtin.Slice.sliceFields
  refine wpAny_bind (wpAny_bind (wpAny_field hos hds (x := Value.none) rfl (wpAny_bind (wpAny_field hos hds (x := Value.none) rfl (wpAny_bind (wpAny_field hos hds (x := vs) rfl (wpAny_pure ?_)))))))
  refine wpAny_bind (HT.slicePart_ ps ?_)
  show wpAny _ _ (if ((-1 : Int) == 0) = true then _ else _) _ _ s
  rw [if_neg (by decide)]
  refine wpAny_bind (HT.slicePart_ .none (wpAny_bind (HT.slicePart_ .none (wpAny_bind (wpAny_pure ?_)))))
  show wpAny _ _ (pure ((n : Int) - 1, (-1 : Int), Builtin.Slice.slicePlaces ((n : Int) - 1) (-1) (-1))) _ _ s
  have e : Builtin.Slice.slicePlaces ((n : Int) - 1) (-1) (-1) = n := by
    unfold Builtin.Slice.slicePlaces
    rw [if_neg (by decide)]
    by_cases h : (n : Int) - 1 > -1
    · rw [if_pos h, show (- -1 : Int) = 1 from rfl, Int.ediv_one]; omega
    · rw [if_neg h]; omega
  rw [e]
  exact wpAny_pure q
theorem pick_rev (xs : Array Value) : ((List.range xs.size).filterMap fun (k : Nat) => xs[(((xs.size : Int) - 1) + (k : Int) * (-1)).toNat]?) = xs.toList.reverse := by
  have e : ∀ k ∈ List.range xs.size, xs[(((xs.size : Int) - 1) + (k : Int) * (-1)).toNat]? = some ((xs.toList.reverse)[k]?.getD .none) := fun k hk => by
    have hk := List.mem_range.mp hk
    have h1 : (((xs.size : Int) - 1) + (k : Int) * (-1)).toNat = xs.size - 1 - k := by omega
    rw [h1, List.getElem?_reverse (by rw [Array.length_toList]; exact hk), Array.length_toList, Array.getElem?_toList, Array.getElem?_eq_getElem (by omega)]
    rfl
  have key : ∀ l : List Nat, (∀ k ∈ l, k < xs.size) → l.filterMap (fun (k : Nat) => xs[(((xs.size : Int) - 1) + (k : Int) * (-1)).toNat]?) = l.map fun k => (xs.toList.reverse)[k]?.getD .none := by
    intro l
    induction l with
    | nil => intro _; rfl
    | cons k l ih =>
      intro h
      rw [List.filterMap_cons_some (f := fun (k : Nat) => xs[(((xs.size : Int) - 1) + (k : Int) * (-1)).toNat]?) (e k (List.mem_range.mpr (h k List.mem_cons_self))), ih fun j hj => h j (List.mem_cons_of_mem _ hj)]; rfl
  rw [key _ fun k hk => List.mem_range.mp hk]
  apply List.ext_getElem
  · simp
  · intro k h1 h2
    rw [List.getElem_map, List.getElem_range, List.getElem?_eq_getElem h2]; rfl
theorem getItem_rev {t sl : Addr} {items : Array Value} {vs : Value} {Q : Value → Shared → Prop} (ht : IsTup s.heap t items) (hs : s.heap.IsSliceOf sl .none .none vs) (ps : IsPart vs (some (-1)))
    (q : Q (.ref s.heap.objs.size) { s with heap := s.heap.push { cls := .type "tuple", data := .seq items.toList.reverse.toArray } }) (hz : items.size ≤ sizeLine) : wpAny (model prog w) A (getItem (.ref t) (.ref sl)) Q E s := by
  have lim : sizeOk (.seq items.toList.reverse.toArray) := by
    show items.toList.reverse.toArray.size ≤ sizeLine
    rw [List.size_toArray, List.length_reverse, Array.length_toList]; exact hz
  obtain ⟨os, hos, hcs, hds⟩ := id hs
  have ty : s.TypeIs (.ref sl) "slice" := ⟨os, hos, hcs⟩
  unfold getItem
  try with_reducible refine wpAny_holding ?_
  first | refine wpAny_bind (wpAny_pure ?_) | skip
  refine wpAny_bind (wpAny_sequenceKey ht.typeIs (by decide) (wpAny_bind (wpAny_callSpecial?_slot (name := Str.ofString "__getitem__") ht.typeIs PyProof.Rows.slot_tuple_getitem (wpAny_call_entry PyProof.Rows.slot_tuple_getitem ht.typeIs entry_tuple_getitem ?_ (args_tuple_getitem _ _)))))
  show wpAny _ _ (Builtin.Tuple.tupleItemsOf (.ref t) >>= _) _ _ s
  refine wpAny_bind (tupleItemsOf_ ht (wpAny_bind (wpAny_typeOf ty ?_)))
  rw [if_pos (by decide)]
  refine wpAny_bind (applied_rev hs ps ?_)
  have no : ¬ (((items.size : Int) - 1 == 0 && (-1 : Int) == 1 && items.size == items.size) = true) := by
    rw [show ((-1 : Int) == 1) = false from rfl, Bool.and_false, Bool.false_and]; decide
  show wpAny _ _ (if ((items.size : Int) - 1 == 0 && (-1 : Int) == 1 && items.size == items.size) = true then _ else _) _ _ s
  rw [if_neg no, pick_rev]
  first
    | exact wpAny_bind (m := Builtin.Tuple.tupleExact _) (wpAny_newObj_type (wpAny_pure ⟨_, rfl, wpAny_pure q⟩) lim)
    | exact wpAny_bind (m := Builtin.Tuple.tupleExact _) (wpAny_newObj_type (wpAny_bind (wpAny_pure (wpAny_pure ⟨_, rfl, wpAny_pure q⟩))) lim)
    | exact wpAny_bind (wpAny_bind (m := Builtin.Tuple.tupleExact _) (wpAny_newObj_type (wpAny_pure (wpAny_pure ⟨_, rfl, wpAny_pure q⟩)) lim))
    | exact wpAny_bind (wpAny_bind (m := Builtin.Tuple.tupleExact _) (wpAny_newObj_type (wpAny_pure ⟨_, rfl, wpAny_pure q⟩) lim))
end
theorem RL.reverse {K : PySem.W.Frag} {m : List Addr} {H : Hp} : ∀ {ds : List D} {xs : List V}, RL K m H ds xs → RL K m H ds.reverse xs.reverse
  | [], _, h => by cases (show _ = [] from h); exact rfl
  | d :: ds, _, ⟨x, r, e, h1, h2⟩ => by
    subst e
    rw [List.reverse_cons, List.reverse_cons]
    exact RL.append (RL.reverse h2) ⟨x, [], rfl, h1, rfl⟩
def dRevT (te : TD) : TD := fun ρ c Φ => te ρ c fun d c1 => ∃ ds, d = .tup ds ∧ Φ (.tup ds.reverse) c1
section
variable {X : Cx} {e : Expr} {te : TD} {k : Nat} {p1 p2 p3 pos : Pos}
theorem pd_revT (he : PD X e te) : PD X (.Subscript e (.Slice none none (some (.UnaryOp .USub (.Constant (.int 1) k p1) p2)) p3) pos) (dRevT te) := by
  refine PE.imp (t := fun σ H Q => lift X.K te σ H fun x H1 => ∃ a xs, x = .ref a ∧ SqT X.K H1 a xs ∧ ∀ p, H1 p = none → Q (.ref p) (upd H1 p (.tup xs.reverse))) ⟨fun pins s σ H Q I h => ?_⟩ fun σ H Q ⟨m, ρ, c, Φ, S, h, q⟩ =>
    ⟨m, ρ, c, _, S, h, fun d c1 u H1 m1 ⟨ds, ed, hΦ⟩ C1 R1 L1 => by
      subst ed
      obtain ⟨a, xs, eu, h1, h2⟩ := R1
      exact ⟨a, xs, eu, ex_t (ex_hid m1 H1) h1, fun p hp => q _ c1 _ _ m1 hΦ (C1.new hp) (RR.newT C1 hp (RL.reverse h2)) (L1.trans (Le.new hp C1))⟩⟩
  refine Subscript_ (thn (he.run pins s σ H _ I h) fun v s1 ⟨x, H1, I1, r1, a, xs, ex, hx, q⟩ => ?_)
  subst ex
  cases r1
  have st : PO X (some (.UnaryOp .USub (.Constant (.int 1) k p1) p2)) (tPart (tUn (rU fun i => .int (-i)) (tC (.int 1)))) := po_some (pe_un un_neg pe_int)
  refine wpAny_Slice (thn (po_none.run pins s1 σ H1 (fun o Hz => o = none ∧ Hz = H1) I1 ⟨rfl, rfl⟩) fun vl s2 ⟨l, H2, I2, pl, el, e2⟩ => ?_)
  subst el e2
  refine thn (po_none.run pins s2 σ H2 (fun o Hz => o = none ∧ Hz = H2) I2 ⟨rfl, rfl⟩) fun vu s3 ⟨u, H3, I3, pu, eu, e3⟩ => ?_
  subst eu e3
  refine thn (st.run pins s3 σ H3 (fun o Hz => o = some (-1) ∧ Hz = H3) I3 ⟨1, rfl, -1, rfl, rfl, rfl⟩) fun vs s4 ⟨o, H4, I4, ps, eo, e4⟩ => ?_
  subst eo e4
  cases pl
  cases pu
  have I5 : Inv X pins σ H4 { s4 with heap := s4.heap.push { cls := .type "slice", data := .fields #[.none, .none, vs] } } := I4.kept (t' := s4.toks) fun b ob e => Heap.get?_push_of_some _ e
  obtain ⟨its, r, ht, hz⟩ := I5.tuple hx
  have len := r.length
  refine tail_any (ops := [.ref a, .ref s4.heap.objs.size]) ht.typeIs PyProof.Rows.slot_tuple_getitem.lookup (getItem_rev ht (Heap.IsSliceOf.new _ .none .none vs) ps ?_ (by rw [List.size_toArray]; omega)) (by with_unfolding_all rfl)
  exact ⟨.ref _, _, I5.laid (t' := s4.toks) (o := .tup xs.reverse) (fun b ob e => Heap.get?_push_of_some _ e) (Nat.le_refl _) ⟨by rw [List.length_reverse]; exact hz, _, r.reverse, ⟨_, Heap.get?_push_size _ rfl, rfl, _, rfl⟩⟩, rfl, q _ (I5.hok.fresh (Nat.le_refl _))⟩
end
end Cw

namespace Cw
open PySem PySem.Spec PyProof.Rows L2

/-! ### a def called by keywords alone, in any order -/
def perm {α : Type} (is : List Nat) (xs : List α) : List α := is.filterMap fun i => xs[i]?
theorem vals_get : ∀ {vs : List V} {us : List Value} (i : Nat), Vals vs us → (vs[i]? = none ∧ us[i]? = none) ∨ ∃ v u, vs[i]? = some v ∧ us[i]? = some u ∧ RelV v u
  | [], us, i, h => by cases h; exact .inl ⟨by simp, by simp⟩
  | v :: vs, us, 0, h => by
    cases h with
    | cons h1 h2 => exact .inr ⟨_, _, rfl, rfl, h1⟩
  | v :: vs, us, i + 1, h => by
    cases h with
    | cons h1 h2 => simpa using vals_get i h2
theorem vals_perm {vs : List V} {us : List Value} (h : Vals vs us) : ∀ is : List Nat, Vals (perm is vs) (perm is us)
  | [] => .nil
  | i :: is => by
    unfold perm
    rcases vals_get i h with ⟨e1, e2⟩ | ⟨v, u, e1, e2, r⟩
    · rw [List.filterMap_cons_none e1, List.filterMap_cons_none e2]; exact vals_perm h is
    · rw [List.filterMap_cons_some e1, List.filterMap_cons_some e2]; exact .cons r (vals_perm h is)
theorem rl_perm {K : PySem.W.Frag} {m : List Addr} {H : Hp} {ds : List D} {xs : List V} (h : RL K m H ds xs) : ∀ is : List Nat, RL K m H (perm is ds) (perm is xs)
  | [] => rfl
  | i :: is => by
    unfold perm
    cases e : ds[i]? with
    | none =>
      have e2 : xs[i]? = none := by
        rw [List.getElem?_eq_none_iff] at e ⊢
        rw [← RL.length h]; exact e
      rw [List.filterMap_cons_none e, List.filterMap_cons_none e2]; exact rl_perm h is
    | some d =>
      obtain ⟨x, e2, r⟩ := RL.get h e
      rw [List.filterMap_cons_some e, List.filterMap_cons_some e2]
      exact ⟨x, _, rfl, r, rl_perm h is⟩
section
variable {X : Cx} {CX : CXT} {k np : Nat} {f : Addr} {fd : FuncData} {ps ks : List Str} {S : Pm} {E : XK} {x : Str} {p pos : Pos} {kws : List Keyword} {tks : TDs} {sp : Sp} {tk : TA} {g : List Value → List Value → List Value} {gV : List V → List V → List V}
theorem pe_callN0 (F : FnOk X.prog X.w X.K X.mg X.base CX k f fd ps sp) (hr : Room k X.A) (hg : Gl X x) (hm : X.mg x = some (.ref f)) (hk : PySem.W.keepIn X.K (.ref f) = true) (hb : KBn X.K fd ps 0 ks g gV) (hx : Passes CX X E)
    (hkw : PK X kws tk) (hall : (backToKw pos (keywordEach kws X.env)).all (·.1.isSome) = true := by rfl) (hks : (backToKw pos (keywordEach kws X.env)).filterMap (·.1) = ks := by rfl)
    (hdb : (x == ("__debug__" : Str)) = false := by decide)
    (hpl : ((backTo pos (starEach [] X.env)).any (·.1) || (backToKw pos (keywordEach kws X.env)).any (·.1.isNone)) = false := by rfl) :
    PE X (.Call (.Name x p) [] kws pos) (tCallN 0 ks.length sp gV E tNil tk) := by
  refine ⟨fun pins s σ H Q I h => ?_⟩
  refine wpAny_Call_Name_kw (ld_glob I hg hm ?_ hdb)
  refine PySem.W.callWith_KW0 (h₀ := X.base) I.ok.mod.kin hk hall ?_ hpl
  refine thn (hkw.run pos pins s σ H _ I h) fun ws s2 ⟨zs, H2, I2, rz, l1, l2, q2⟩ => ⟨I2.kIn, ?_⟩
  rw [hks]
  exact run_fnN (us := []) (vs := []) F hr hb hx I2 .nil rz rfl l2 q2
def dCallPK (S : Pm) (np n : Nat) (is : List Nat) (t : TDs) : TD := fun ρ c Φ => t ρ c fun ds c1 => ds.length = n ∧ (perm is ds).length = np ∧ callP S (perm is ds) c1 Φ
theorem pd_callPK {is : List Nat} (F : FnOk X.prog X.w X.K X.mg X.base CX k f fd ps (spD X.K 0 np S)) (hr : Room k X.A) (hm : X.mg x = some (.ref f)) (hk : PySem.W.keepIn X.K (.ref f) = true) (hb : KBn X.K fd ps 0 ks (fun _ ws => perm is ws) (fun _ ws => perm is ws)) (hx : Passes CX X E)
    (hkw : PK X kws (liftA X.K tks)) (hg : Gl X x := by rfl) (hall : (backToKw pos (keywordEach kws X.env)).all (·.1.isSome) = true := by rfl) (hks : (backToKw pos (keywordEach kws X.env)).filterMap (·.1) = ks := by rfl)
    (hdb : (x == ("__debug__" : Str)) = false := by decide)
    (hpl : ((backTo pos (starEach [] X.env)).any (·.1) || (backToKw pos (keywordEach kws X.env)).any (·.1.isNone)) = false := by rfl) :
    PD X (.Call (.Name x p) [] kws pos) (dCallPK S np ks.length is tks) := PE.imp (pe_callN0 F hr hg hm hk hb hx hkw hall hks hdb hpl) fun σ H Q ⟨m, ρ, c, Φ, S', h, q⟩ => by
  show liftA X.K tks σ H _
  exact ⟨m, ρ, c, _, S', h, fun ds c1 vs H1 m1 ⟨hn, hl, hc⟩ C1 R1 L1 => ⟨rfl, by rw [← RL.length R1]; exact hn, sp_pure C1 (rl_perm R1 is) hl hc (KQ.le (K := X.K) q L1)⟩⟩
end

/-! ### str * int -/
theorem op_mul_str {X : Cx} : OpR X (binaryOp .Mult) (fun x y H Q => ∃ i n, x = .str i ∧ y = .int n ∧ MulOk i n ∧ Q (.str (Txt.mul i n)) H) := by
  intro pins s σ H x y v u Q I rx ry h
  obtain ⟨i, n, rfl, rfl, hz, q⟩ := h
  obtain ⟨t, rfl⟩ := rx
  obtain ⟨t', rfl⟩ := ry
  exact SB.mul hz fun t' tk => ⟨.str (Txt.mul i n), H, I.tok _, ⟨_, rfl⟩, q⟩
def fMulS : F2 := fun x y c Φ => match x, y with
  | .str x, .int n => MulOk x n ∧ Φ (.str (Txt.mul x n)) c
  | _, _ => False
section
variable {X : Cx} {a b : Expr} {ta tb : TD} {pos : Pos}
theorem pd_mulS (ha : PD X a ta) (hb : PD X b tb) : PD X (.BinOp a .Mult b pos) (dBin fMulS ta tb) := PE.imp (pe_op op_mul_str ha hb) fun σ H Q h => lift_bin (by
  intro x y c Φ h H m u v Cc r1 r2 Q k
  cases x <;> cases y <;> first | exact h.elim | skip
  cases r1; cases r2
  exact ⟨_, _, rfl, rfl, h.1, k.pure Cc h.2 rfl⟩) h
end

/-! ### s[::-1] of a str -/
def revStr (z : Str) : Str := ⟨z.cps.toList.reverse.toArray⟩
theorem sidx_rev (n : Nat) : Builtin.Str.strSliceIndices none none (-1) n = (List.range n).map fun k => n - 1 - k := by
  unfold Builtin.Str.strSliceIndices
  show sliceRange ((n : Int) - 1) (-1) (-1) = _
  unfold sliceRange
  have e : (if (-1 : Int) > 0 then (if (n : Int) - 1 < -1 then (-1 - ((n : Int) - 1) + -1 - 1) / -1 else 0) else (if (n : Int) - 1 > -1 then ((n : Int) - 1 - -1 - -1 - 1) / (- -1) else 0)) = (n : Int) := by
    rw [if_neg (by decide)]
    by_cases h : (n : Int) - 1 > -1
    · rw [if_pos h, show (- -1 : Int) = 1 from rfl, Int.ediv_one]; omega
    · rw [if_neg h]; omega
  rw [e]
  show (List.range ((n : Int)).toNat).map _ = _
  rw [Int.toNat_natCast]
  refine List.map_congr_left fun k hk => ?_
  have := List.mem_range.mp hk
  omega
theorem pick_revS (z : Str) : ((Builtin.Str.strSliceIndices none none (-1) z.length).filterMap (z.cps[·]?)) = z.cps.toList.reverse := by
  rw [sidx_rev, List.filterMap_map]
  have hz : z.length = z.cps.size := rfl
  have e : ∀ k ∈ List.range z.length, ((z.cps[·]?) ∘ fun k => z.length - 1 - k) k = some ((z.cps.toList.reverse)[k]?.getD 0) := fun k hk => by
    have hk := List.mem_range.mp hk
    show z.cps[z.length - 1 - k]? = _
    rw [List.getElem?_reverse (by rw [Array.length_toList]; omega), Array.length_toList, Array.getElem?_toList, hz, Array.getElem?_eq_getElem (by omega)]
    rfl
  have key : ∀ l : List Nat, (∀ k ∈ l, k < z.length) → l.filterMap ((z.cps[·]?) ∘ fun k => z.length - 1 - k) = l.map fun k => (z.cps.toList.reverse)[k]?.getD 0 := by
    intro l
    induction l with
    | nil => intro _; rfl
    | cons k l ih =>
      intro h
      rw [List.filterMap_cons_some (f := (z.cps[·]?) ∘ fun k => z.length - 1 - k) (e k (List.mem_range.mpr (h k List.mem_cons_self))), ih fun j hj => h j (List.mem_cons_of_mem _ hj)]; rfl
  rw [key _ fun k hk => List.mem_range.mp hk]
  apply List.ext_getElem
  · simp [hz]
  · intro k h1 h2
    rw [List.getElem_map, List.getElem_range, List.getElem?_eq_getElem h2]; rfl
def dRevS (te : TD) : TD := fun ρ c Φ => te ρ c fun d c1 => ∃ z, d = .str z ∧ z.length ≤ sizeLine ∧ Φ (.str (revStr z)) c1
section
variable {X : Cx} {e : Expr} {te : TD} {k : Nat} {p1 p2 p3 pos : Pos}
theorem pd_revS (he : PD X e te) : PD X (.Subscript e (.Slice none none (some (.UnaryOp .USub (.Constant (.int 1) k p1) p2)) p3) pos) (dRevS te) := by
  refine PE.imp (t := fun σ H Q => lift X.K te σ H fun x H1 => ∃ z, x = .str z ∧ z.length ≤ sizeLine ∧ Q (.str (revStr z)) H1) ⟨fun pins s σ H Q I h => ?_⟩ fun σ H Q ⟨m, ρ, c, Φ, S, h, q⟩ =>
    ⟨m, ρ, c, _, S, h, fun d c1 u H1 m1 ⟨z, ed, hz, hΦ⟩ C1 R1 L1 => by
      subst ed
      cases (show u = _ from R1)
      exact ⟨z, rfl, hz, q _ c1 _ _ m1 hΦ C1 rfl L1⟩⟩
  refine Subscript_ (thn (he.run pins s σ H _ I h) fun v s1 ⟨x, H1, I1, r1, z, ex, hz, q⟩ => ?_)
  subst ex
  obtain ⟨t, rfl⟩ := r1
  have st : PO X (some (.UnaryOp .USub (.Constant (.int 1) k p1) p2)) (tPart (tUn (rU fun i => .int (-i)) (tC (.int 1)))) := po_some (pe_un un_neg pe_int)
  refine wpAny_Slice (thn (po_none.run pins s1 σ H1 (fun o Hz => o = none ∧ Hz = H1) I1 ⟨rfl, rfl⟩) fun vl s2 ⟨l, H2, I2, pl, el, e2⟩ => ?_)
  subst el e2
  refine thn (po_none.run pins s2 σ H2 (fun o Hz => o = none ∧ Hz = H2) I2 ⟨rfl, rfl⟩) fun vu s3 ⟨u, H3, I3, pu, eu, e3⟩ => ?_
  subst eu e3
  refine thn (st.run pins s3 σ H3 (fun o Hz => o = some (-1) ∧ Hz = H3) I3 ⟨1, rfl, -1, rfl, rfl, rfl⟩) fun vs s4 ⟨o, H4, I4, ps, eo, e4⟩ => ?_
  subst eo e4
  cases pl
  cases pu
  have I5 : Inv X pins σ H4 { s4 with heap := s4.heap.push { cls := .type "slice", data := .fields #[.none, .none, vs] } } := I4.kept (t' := s4.toks) fun b ob e => Heap.get?_push_of_some _ e
  obtain ⟨os, hos, hcs, hds⟩ := Heap.IsSliceOf.new s4.heap .none .none vs
  obtain ⟨q2, e2, e3⟩ := IsPart.raw ps
  subst e2
  refine tail_any (ops := [.str z t, .ref s4.heap.objs.size]) (typeIs_str _ _ _) F.slot_str_getitem.lookup (wpAny_getItem_str_slice (l := none) (u := none) (st := q2) ⟨os, hos, hcs, hds⟩ (by rw [e3]; rfl) ?_) (by with_unfolding_all rfl)
  show Made.post (if (((q2.map (·.1)).getD 1 == 1) && (Builtin.Str.strSliceIndices none none ((q2.map (·.1)).getD 1) z.length).length == z.length) = true then Made.val (.str z t)
    else Made.str ⟨((Builtin.Str.strSliceIndices none none ((q2.map (·.1)).getD 1) z.length).filterMap (z.cps[·]?)).toArray⟩) (EP X pins σ Q) _
  rw [e3]
  show Made.post (if (false && _) = true then _ else _) _ _
  rw [Bool.false_and, if_neg (by decide)]
  show Made.post (Made.str ⟨((Builtin.Str.strSliceIndices none none (-1) z.length).filterMap (z.cps[·]?)).toArray⟩) _ _
  rw [pick_revS]
  refine ⟨?_, .str (revStr z), H4, I5.tok _, ⟨_, rfl⟩, q⟩
  show z.cps.toList.reverse.toArray.size ≤ sizeLine
  rw [List.size_toArray, List.length_reverse, Array.length_toList]; exact hz
end
end Cw

namespace Cw
open PySem PySem.Spec PyProof.Rows L2

/-! ### for over a mutable list that no turn changes -/
def forK (k : Nat) (all : List D) (g : TGD) (tb : TSD) (De : DEnds) : List D → Env → List Cell → Prop
  | [], ρ, c => c[k]? = some (.lst all) ∧ De.nx ρ c
  | d :: ds, ρ, c => c[k]? = some (.lst all) ∧ g d ρ c fun ρ1 c1 => tb ⟨forK k all g tb De ds, De.rt, De.nx, forK k all g tb De ds⟩ ρ1 c1
def dForC (ta : TD) (g : TGD) (tb : TSD) : TSD := fun De ρ c => ta ρ c fun x c1 => ∃ k all, x = .cell k ∧ c1[k]? = some (.lst all) ∧ forK k all g tb De all ρ c1
theorem forK_inv {k : Nat} {all : List D} {g : TGD} {tb : TSD} {De : DEnds} (I : List D → Env → List Cell → Prop) (at_ : ∀ ds ρ c, I ds ρ c → c[k]? = some (.lst all)) (fin : ∀ ρ c, I [] ρ c → De.nx ρ c)
    (step : ∀ d ds ρ c (F : Env → List Cell → Prop), (∀ ρ c, I ds ρ c → F ρ c) → I (d :: ds) ρ c → g d ρ c fun ρ1 c1 => tb ⟨F, De.rt, De.nx, F⟩ ρ1 c1) : ∀ ds ρ c, I ds ρ c → forK k all g tb De ds ρ c
  | [], ρ, c, h => ⟨at_ _ _ _ h, fin ρ c h⟩
  | d :: ds, ρ, c, h => ⟨at_ _ _ _ h, step d ds ρ c _ (fun ρ c h => forK_inv I at_ fin step ds ρ c h) h⟩
section
variable {X : Cx} {tg iter : Expr} {ta : TD} {pos : Pos}
theorem psd_forC {body : List Stmt} {g : TGD} {tb : TSD} (hp : PassesOwn (model X.prog X.w) X.A X.env X.xe) (hc : X.calm = true) (hi : PD X iter ta) (hg : PGD X tg g) (hb : PSDs X body tb) (hs : ∀ x, foldedSetIterable iter X.env x = pure x := by intro _; rfl) :
    PSD X (.For tg iter body [] pos) (dForC ta g tb) := PS.imp (ps_for hp hc (pi_list hi) hg hb hs) fun Dn σ H ⟨m, ρ, c, De, S, h, n, r, b, kk⟩ =>
  ⟨m, ρ, c, _, S, h, fun x c1 v H1 m1 hx C1 R1 L1 => by
    obtain ⟨k, all, rfl, hk, hf⟩ := hx
    obtain ⟨a, ha, rfl⟩ := R1
    have here : ∀ {m' H' c'}, Le m1 H1 m' H' → CR X.K H' m' c' → c'[k]? = some (.lst all) → ∃ xs, H' a = some (.lst xs) ∧ RRL X.K H' m' all xs := fun {m' H' c'} l C e => by
      obtain ⟨b, h1, xs, h2, h3⟩ := C.at_ k _ e
      rw [l.pre k a ha] at h1; cases h1
      exact ⟨xs, h2, h3⟩
    obtain ⟨xs1, hx1, _⟩ := here (Le.refl _ _) C1 hk
    refine ⟨a, rfl, ⟨xs1, SqL.of hx1⟩, fun i mm σ' H' => mm = all.length - i ∧ i ≤ all.length ∧ ∃ m' ρ' c', Le m1 H1 m' H' ∧ SR X.K σ' H' m' ρ' c' ∧ forK k all g tb De (all.drop i) ρ' c',
     ⟨all.length, by simp, Nat.zero_le _, m1, ρ, c1, Le.refl _ _, S.step L1 C1, by simpa using hf⟩, ?_⟩
    rintro i mm σ' H' ⟨rfl, hi, m', ρ', c', l, S', hf⟩
    by_cases hlt : i < all.length
    · have e : all.drop i = all[i] :: all.drop (i + 1) := List.drop_eq_getElem_cons hlt
      rw [e] at hf
      obtain ⟨hk', hf⟩ := hf
      obtain ⟨xs, hxa, rx⟩ := here l S'.cr hk'
      have hd : all[i]? = some all[i] := List.getElem?_eq_getElem hlt
      obtain ⟨z, hz, rz⟩ := RL.get rx hd
      refine .inr ⟨⟨xs, z, SqL.of hxa, hz⟩, fun σ2 H2 => ∃ m2 ρ2 c2, Le m1 H1 m2 H2 ∧ SR X.K σ2 H2 m2 ρ2 c2 ∧ forK k all g tb De (all.drop (i + 1)) ρ2 c2, fun σ2 H2 ⟨m2, ρ2, c2, l2, S2, h2⟩ => ⟨all.length - (i + 1), by omega, rfl, hlt, m2, ρ2, c2, l2, S2, h2⟩, fun x H2 y => ?_⟩
      obtain ⟨rfl, y⟩ := y
      have := y xs (SqL.of hxa)
      rw [hz] at this; cases this
      have L2 := L1.trans l
      refine ⟨m', ρ', c', all[i], _, S', rz, hf, fun σ3 H3 m3 ρ3 c3 h3 S3 l3 => ?_⟩
      have L3 := L2.trans l3
      refine ⟨m3, ρ3, c3, _, S3, h3, fun σ4 H4 m4 ρ4 c4 h4 S4 l4 => ?_, r.le L3, fun σ4 H4 m4 ρ4 c4 h4 S4 l4 => n σ4 H4 m4 ρ4 c4 h4 S4 (L3.trans l4), fun σ4 H4 m4 ρ4 c4 h4 S4 l4 => ?_⟩
      · exact ⟨m4, ρ4, c4, l.trans (l3.trans l4), S4, h4⟩
      · exact ⟨m4, ρ4, c4, l.trans (l3.trans l4), S4, h4⟩
    · have ei : i = all.length := by omega
      subst ei
      rw [List.drop_length] at hf
      obtain ⟨hk', hf⟩ := hf
      obtain ⟨xs, hxa, rx⟩ := here l S'.cr hk'
      exact .inl ⟨⟨xs, SqL.of hxa, by rw [rlen rx]; exact Nat.le_refl _⟩, n σ' H' m' ρ' c' hf S' (L1.trans l)⟩⟩
end

/-! ### name += e -/
def dAug (i : Nat) (te : TD) (f : F2) : TSD := fun De ρ c => ∃ x, ρ[i]? = some (some x) ∧ te ρ c fun y c1 => f (vw c1 x) (vw c1 y) c1 fun z c2 => De.nx (ρ.set i (some z)) c2
section
variable {X : Cx} {te : TD} {e : Expr} {pos pos' : Pos} {x : Str} {i : Nat}
theorem psd_aug {op : Operator} {f : F2} {r : TIp} (ho : PIp X op r) (l : L2f X.K f r) (hN : X.N.Nodup) (he : PD X e te) (hi : X.N[i]? = some x := by rfl) (hx : Loc X.env.scope x := by first | exact Or.inl rfl | exact Or.inr rfl)
    (hf : X.fn x = true ∨ X.env.scope.names.lookup x = some .local := by first | exact .inl rfl | exact .inr rfl) : PSD X (.AugAssign (.Name x pos') op e pos) (dAug i te f) :=
  PS.imp (ps_aug hN hi hx he ho hf) fun Dn σ H ⟨m, ρ, c, De, S, ⟨d, hd, h⟩, n, r, b, k⟩ => by
    obtain ⟨v, hv, rv⟩ := S.sl i d hd
    refine ⟨v, hv, m, ρ, c, _, S, h, fun y c1 w H1 m1 hy C1 R1 L1 => ?_⟩
    exact l _ _ c1 _ hy H1 m1 v w C1 (W.vw C1 (L1.r rv)) (W.vw C1 R1) _ fun z c2 u H2 m2 hz C2 R2 L2 => n _ H2 m2 _ c2 hz ((S.step (L1.trans L2) C2).set R2) (L1.trans L2)
def fIAdd : F2 := fun x y c Φ => match x, y with
  | .int i, .int j => Φ (.int (i + j)) c
  | _, _ => False
def fISub : F2 := fun x y c Φ => match x, y with
  | .int i, .int j => Φ (.int (i - j)) c
  | _, _ => False
theorem psd_iadd (hN : X.N.Nodup) (he : PD X e te) (hi : X.N[i]? = some x := by rfl) (hx : Loc X.env.scope x := by first | exact Or.inl rfl | exact Or.inr rfl)
    (hf : X.fn x = true ∨ X.env.scope.names.lookup x = some .local := by first | exact .inl rfl | exact .inr rfl) : PSD X (.AugAssign (.Name x pos') .Add e pos) (dAug i te fIAdd) :=
  psd_aug ip_add (by
    intro x y c Φ h H m u v Cc r1 r2 Q k
    cases x <;> cases y <;> first | exact h.elim | skip
    cases r1; cases r2
    exact ⟨_, _, rfl, rfl, k.pure Cc h rfl⟩) hN he hi hx hf
theorem psd_isub (hN : X.N.Nodup) (he : PD X e te) (hi : X.N[i]? = some x := by rfl) (hx : Loc X.env.scope x := by first | exact Or.inl rfl | exact Or.inr rfl)
    (hf : X.fn x = true ∨ X.env.scope.names.lookup x = some .local := by first | exact .inl rfl | exact .inr rfl) : PSD X (.AugAssign (.Name x pos') .Sub e pos) (dAug i te fISub) :=
  psd_aug ip_sub (by
    intro x y c Φ h H m u v Cc r1 r2 Q k
    cases x <;> cases y <;> first | exact h.elim | skip
    cases r1; cases r2
    exact ⟨_, _, rfl, rfl, k.pure Cc h rfl⟩) hN he hi hx hf
end

/-! ### while -/
def dWhile (tc : TDt) (tb : TSD) : TSD := fun De ρ c => ∃ W : Nat → Env → List Cell → Prop, (∃ n, W n ρ c) ∧ ∀ n ρ c, W n ρ c → tc ρ c fun b c1 => match b with
  | true => ∃ N : Env → List Cell → Prop, (∀ ρ' c', N ρ' c' → ∃ n', n' < n ∧ W n' ρ' c') ∧ tb ⟨N, De.rt, De.nx, N⟩ ρ c1
  | false => De.nx ρ c1
section
variable {X : Cx} {e : Expr} {pos : Pos} {tc : TDt} {tb : TSD} {body : List Stmt}
theorem psd_while (hp : PassesOwn (model X.prog X.w) X.A X.env X.xe) (hc : PDt X e tc) (hb : PSDs X body tb) : PSD X (.While e body [] pos) (dWhile tc tb) :=
  PS.imp (ps_while hp hc hb) fun Dn σ H ⟨m, ρ, c, De, S, ⟨W, ⟨n0, w0⟩, hW⟩, n, r, b, k⟩ => by
    refine ⟨fun j σ' H' => ∃ m' ρ' c', Le m H m' H' ∧ SR X.K σ' H' m' ρ' c' ∧ W j ρ' c', ⟨n0, m, ρ, c, Le.refl _ _, S, w0⟩, ?_⟩
    rintro j σ' H' ⟨m', ρ', c', l, S', w⟩
    refine ⟨m', ρ', c', _, S', hW j ρ' c' w, fun bo c1 H1 m1 h1 C1 L1 => ?_⟩
    have L' := l.trans L1
    cases bo with
    | false => dsimp only; rw [if_neg (by decide)]; exact n _ H1 m1 _ c1 h1 (S'.step L1 C1) L'
    | true =>
      dsimp only
      rw [if_pos rfl]
      obtain ⟨N, hN, ht⟩ := h1
      refine ⟨fun σ2 H2 => ∃ m2 ρ2 c2, Le m H m2 H2 ∧ SR X.K σ2 H2 m2 ρ2 c2 ∧ N ρ2 c2, fun σ2 H2 ⟨m2, ρ2, c2, l2, S2, h2⟩ => ?_, m1, ρ', c1, _, S'.step L1 C1, ht, fun σ4 H4 m4 ρ4 c4 h4 S4 l4 => ⟨m4, ρ4, c4, L'.trans l4, S4, h4⟩, r.le L', fun σ4 H4 m4 ρ4 c4 h4 S4 l4 => n σ4 H4 m4 ρ4 c4 h4 S4 (L'.trans l4), fun σ4 H4 m4 ρ4 c4 h4 S4 l4 => ⟨m4, ρ4, c4, L'.trans l4, S4, h4⟩⟩
      obtain ⟨n', hn, w'⟩ := hN ρ2 c2 h2
      exact ⟨n', hn, m2, ρ2, c2, l2, S2, w'⟩
end
end Cw

namespace Cw
open PySem PySem.Spec PyProof.Rows L2
open PySem.Sem (wp)

/-! ### enumerate of a tuple -/
theorem draws_tuple {prog : Program} {w : World} {A : Around} (hh : A.handled = none) (it l : Addr) (hne : l ≠ it) (items : Array Value) :
    Draws prog w A it [it, l] items.size (fun i v => items[i]? = some v) (fun i h => h.IsTupleIter it l i ∧ h.IsTuple l items) where
  live := fun _ _ st => let ⟨o, ho, _⟩ := st.1; ⟨o, ho⟩
  frame := fun _ _ _ st hk => ⟨st.1.at fun o e => hk it (by simp) o e, let ⟨o, ho, r⟩ := st.2; ⟨o, hk l (by simp) o ho, r⟩⟩
  item := fun i s Q E hi st hQ => by
    refine RZ.nextOf_tuple_item st.1 st.2 (x := items[i]) (by simp [hi]) fun h' hit' hs' => ?_
    exact hQ _ h' s.toks (by simp [hi]) ⟨hit', st.2.extBut hs'.extBut hne⟩ hs'
  done := fun s Q E st hE => RZ.nextOf_tuple_end hh st.1 st.2 (by simp) hE
theorem meets_enumerate_newT (l : Addr) (items : Array Value) :
    Meets (Builtin.«enumerate.__new__» ⟨[.type "enumerate", .ref l], []⟩) (fun _ R s => s.heap.IsTuple l items ∧
      R (.ok (.ret (.ref (s.heap.push { cls := .type "tuple_iterator", data := .fields #[.ref l, .int 0 0] }).objs.size)))
        { s with heap := (s.heap.push { cls := .type "tuple_iterator", data := .fields #[.ref l, .int 0 0] }).push { cls := .type "enumerate", data := .fields #[.none, .bool false, .ref s.heap.objs.size, rawInt 0, .none, .none] } }) :=
  .of_wp fun prog w A R s h => by
    obtain ⟨hp, g, d, tk, os⟩ := s; obtain ⟨hl, h⟩ := h
    have hsub := sub_enumerate
    have hL : Heap.IsTuple (Shared.heap ⟨hp, g, d, tk, os⟩) l items := hl
    wp_walk using wpAny_pyIter_tuple hL
    refine wpAny_stack_any fun st => wpAny_pure ?_
    split
    · rename_i c _ _ _ _ _
      cases (c == Value.type "enumerate")
      · wp_walk using wpAny_pyIter_tuple hL
        exact ⟨_, rfl, h⟩
      · wp_walk using wpAny_pyIter_tuple hL
        exact ⟨_, rfl, h⟩
    · wp_walk using wpAny_pyIter_tuple hL
      exact ⟨_, rfl, h⟩
section
variable {prog : Program} {w : World} {A : Around} {E : Value → Shared → Prop} {s : Shared}
theorem call_enumerate_tuple {l : Addr} {items : Array Value} {Q : Value → Shared → Prop} (hL : s.heap.IsTuple l items)
    (h : ∀ h', IsEnum h' (s.heap.objs.size + 1) s.heap.objs.size 0 .none → h'.IsTupleIter s.heap.objs.size l 0 → h'.objs.size = s.heap.objs.size + 2 →
      (∀ b o, s.heap.get? b = some o → h'.get? b = some o) → Q (.ref (s.heap.objs.size + 1)) { s with heap := h' }) :
    wpAny (model prog w) A (call (.type "enumerate") [.ref l]) Q E s := by
  refine callType_new F.called_enumerate (by decide) (F.typeCall_enumerate_1 _) (F.newCall_enumerate_1 _) (fun obj => F.args_object_init_2 obj _) F.entry_enumerate_new
    (meets_enumerate_newT l items) ⟨hL, ?_⟩
  have hz : (s.heap.push { cls := .type "tuple_iterator", data := .fields #[.ref l, .int 0 0] }).objs.size = s.heap.objs.size + 1 := Heap.size_push ..
  show _ ∧ _
  rw [hz]
  have he : IsEnum ((s.heap.push { cls := .type "tuple_iterator", data := .fields #[.ref l, .int 0 0] }).push
      { cls := .type "enumerate", data := .fields #[.none, .bool false, .ref s.heap.objs.size, rawInt 0, .none, .none] }) (s.heap.objs.size + 1) s.heap.objs.size 0 .none := by
    have := Heap.get?_push_size (s.heap.push { cls := .type "tuple_iterator", data := .fields #[.ref l, .int 0 0] })
      (o := { cls := .type "enumerate", data := .fields #[.none, .bool false, .ref s.heap.objs.size, rawInt 0, .none, .none] }) rfl
    rw [hz] at this; exact this
  refine ⟨⟨_, he, rfl⟩, h _ he ⟨_, Heap.get?_push_of_some _ (Heap.get?_push_size _ rfl), rfl, rfl⟩ (by rw [Heap.size_push, hz]) fun b o x => Heap.get?_push_of_some _ (Heap.get?_push_of_some _ x)⟩
end
section
variable {prog : Program} {w : World} {A : Around} {E : Value → Shared → Prop} {s : Shared}
theorem pyNext_enumT_end {e it l : Addr} {i : Nat} {items : Array Value} {old : Value} {Q : Option Value → Shared → Prop} (hh : A.handled = none)
    (he : IsEnum s.heap e it i old) (hit : s.heap.IsTupleIter it l i) (hl : s.heap.IsTuple l items) (hx : items[i]? = none)
    (hQ : ∀ h', Heap.ExtBut it s.heap h' → Q none { s with heap := h' }) : wpAny (model prog w) A (pyNext (.ref e)) Q E s := by
  have hT : s.TypeIs (.ref e) "enumerate" := ⟨_, he, rfl⟩
  unfold pyNext
  refine wpAny_bind (wpAny_attempt (wpAny_callSpecial?_slot (name := Str.ofString "__next__") hT F.slot_enumerate_next
    (wpAny_call_entry F.slot_enumerate_next hT F.entry_enumerate_next ?_ (F.args_enumerate_next_1 _))))
  show wpAny _ _ (field (.ref e) 2 >>= _) _ _ _
  refine wpAny_bind (wpAny_field he rfl (x := .ref it) rfl ?_)
  refine wpAny_bind (RZ.nextOf_tuple_end hh hit hl hx fun h' x he' hx' => ?_)
  obtain ⟨o, ho, hc⟩ := hx'
  refine wpAny_bind (wpAny_isInstance (T := "StopIteration") (b := true) ⟨o, ho, hc⟩ isSubtype_stop ?_)
  exact wpAny_pure (hQ _ he')
end
def IteT (K : PySem.W.Frag) (a : Addr) : It :=
  ⟨fun i H => ∃ (xs : List V) (x : V), SqT K H a xs ∧ xs[i]? = some x, fun i H v H' => ∃ T x, v = .ref T ∧ H T = none ∧ H' = upd H T (.tup [.int (i : Nat), x]) ∧ ∀ xs, SqT K H a xs → xs[i]? = some x, fun i H => ∃ xs : List V, SqT K H a xs ∧ xs.length ≤ i⟩
theorem turn_enumT {P : Program} {w : World} {K : PySem.W.Frag} {elts : List Expr} {kk : Nat} {tpos : Pos} (a e it : Addr) (hai : a ≠ it) (hae : a ≠ e) :
    Turn P w K (.Tuple elts kk tpos) (IteT K a) [e, it] e (fun i h => (∃ old, IsEnum h e it ((i : Nat) : Int) old) ∧ h.IsTupleIter it a i ∧ e ≠ it) where
  mem := by simp
  obj := fun i h st b hb => by
    obtain ⟨⟨old, he⟩, ⟨o, ho, hc, hd⟩, _⟩ := st
    have e' : b = e ∨ b = it := by simpa using hb
    rcases e' with z | z
    · rw [z]; exact ⟨_, he, fun v q => nomatch q⟩
    · rw [z]; exact ⟨o, ho, fun v q => by rw [hd] at q; cases q⟩
  keep := fun i h h' st k => let ⟨⟨old, he⟩, hi, hne⟩ := st; ⟨⟨old, k e (by simp) _ he⟩, hi.at fun o q => k it (by simp) o q, hne⟩
  item := by
    intro X hP hw hK hc i pins s σ H E I hf st hg
    subst hP hw hK
    obtain ⟨⟨old, he⟩, hit, hne⟩ := st
    obtain ⟨xs, x, hq, hx⟩ := hg
    obtain ⟨its, rv, p, hz⟩ := I.tuple hq
    obtain ⟨u, hu, ru⟩ := rv.get hx
    have hel : e < s.heap.objs.size := Heap.lt_size he
    have hil : it < s.heap.objs.size := by obtain ⟨_, q, _⟩ := hit; exact Heap.lt_size q
    have D := draws_tuple (prog := X.prog) (w := X.w) (A := X.A.in1) (I.ok.hd hc) it a hai its.toArray
    have hlt : i < its.toArray.size := by
      have := (List.getElem?_eq_some_iff.mp hu).1
      simpa using this
    refine wpAny_pyNext_enum_itemD (D := D) he ⟨hit, show s.heap.IsTuple a its.toArray from p⟩ hlt hne (by simp [hne, Ne.symm hae]) fun x' h' tk hx' ho hit' hT hsz hk => ?_
    have ex : x' = u := by
      have h1 : its.toArray[i]? = some x' := hx'
      have h2 : its.toArray[i]? = some u := by simpa using hu
      rw [h2] at h1; exact (Option.some.inj h1).symm
    subst ex
    refine ⟨_, rfl, wpAny_letOwnedTupleGo_enum (s := { s with heap := h', toks := tk + 1 }) ho fun h'' he' sb => ?_⟩
    have hT2 : h''.get? s.heap.objs.size = some { cls := .type "tuple", data := .seq #[.int i tk, x'] } := (sb.2 _ (Nat.ne_of_gt hel)).trans hT
    have new : ObjOk X.prog X.w (upd H s.heap.objs.size (.tup [.int (i : Nat), x])) h'' s.heap.objs.size (.tup [.int (i : Nat), x]) :=
      ⟨by show 2 ≤ sizeLine; decide, [.int i tk, x'], .cons ⟨_, rfl⟩ (.cons ru .nil), ⟨_, hT2, rfl, _, rfl⟩⟩
    have I1 : Inv X pins σ (upd H s.heap.objs.size (.tup [.int (i : Nat), x])) { s with heap := h'', toks := tk + 1 } :=
      I.turnedNew (ch := [e, it]) (fun b ob hb q => (sb.2 b (fun z => hb (by simp [z]))).trans (hk b ob (fun z => hb (by simp [z])) (fun z => hb (by simp [z])) q)) hf (Nat.le_refl _) new
    refine ⟨.ref s.heap.objs.size, _, I1, rfl, ⟨_, x, rfl, I.hok.fresh (Nat.le_refl _), rfl, fun ys hy => by rw [I.tuple_inj hy hq]; exact hx⟩, ⟨⟨x', ?_⟩, hit'.1.at fun o q => (sb.2 it (Ne.symm hne)).trans q, hne⟩, fun b hb => ?_⟩
    · have e1 : ((i + 1 : Nat) : Int) = (i : Int) + 1 := by omega
      rw [e1]; exact he'
    · have hb' : b < s.heap.objs.size := by
        have e' : b = e ∨ b = it := by simpa using hb
        rcases e' with z | z
        · rw [z]; exact hel
        · rw [z]; exact hil
      rw [upd_ne (Nat.ne_of_lt hb')]
      exact (hf b hb).1
  done := by
    intro X hP hw hK hc i pins s σ H E I hf st hg
    subst hP hw hK
    obtain ⟨⟨old, he⟩, hit, hne⟩ := st
    obtain ⟨xs, hq, hx⟩ := hg
    obtain ⟨its, rv, p, hz⟩ := I.tuple hq
    obtain ⟨f0, f1, f2, f3, f4, f5⟩ := hf it (by simp)
    have hl := rv.length
    exact pyNext_enumT_end (I.ok.hd hc) he hit (show s.heap.IsTuple a its.toArray from p) (by simp; omega) fun h' eb => ⟨rfl, I.turned (t' := s.toks) (fun b o hb q => eb b o hb q) f0 f1 f3 f4 f5⟩
  self := fun A i s Q E st h => let ⟨⟨_, he⟩, _⟩ := st; wpAny_pyIter_enum he h

def iEnumT (K : PySem.W.Frag) (te : TE) : TI := fun σ H R => te σ H fun v H1 => ∃ a xs, v = .ref a ∧ SqT K H1 a xs ∧ R (IteT K a) H1
theorem pi_enumT {X : Cx} {e : Expr} {te : TE} {p pos tpos : Pos} {elts : List Expr} {kk : Nat} (hg : Gl X "enumerate") (hm : X.mg "enumerate" = none) (he0 : PE X e te) (hs : starEach [e] X.env = (false, eval e X.env) :: starEach [] X.env := by rfl) :
    PI X (.Tuple elts kk tpos) (.Call (.Name "enumerate" p) [e] [] pos) (iEnumT X.K te) := by
  refine ⟨fun pins s σ H R I h => ?_⟩
  have ha : PA X [e] (tCons te tNil) := pa_cons he0 pa_nil hs
  refine Call_ (ld_blt I hg hm boot_enumerate (PyProof.Rows.callWith_type1 (thn (ha.run pos pins s σ H (fun vs H1 => ∃ v, vs = [v] ∧ ∃ a xs, v = .ref a ∧ SqT X.K H1 a xs ∧ R (IteT X.K a) H1) I ?_) fun us s1 ⟨vs, H1, I1, r1, q1⟩ => ?_) (hs.trans rfl) rfl))
  · show te σ H fun x H1 => ∃ v, [x] = [v] ∧ ∃ a xs, v = .ref a ∧ SqT X.K H1 a xs ∧ R (IteT X.K a) H1
    have e : (fun x H1 => ∃ v, [x] = [v] ∧ ∃ a xs, v = V.ref a ∧ SqT X.K H1 a xs ∧ R (IteT X.K a) H1) = fun x H1 => ∃ a xs, x = V.ref a ∧ SqT X.K H1 a xs ∧ R (IteT X.K a) H1 := by
      funext x H1
      apply propext
      constructor
      · rintro ⟨v, ev, h⟩; cases ev; exact h
      · intro h; exact ⟨x, rfl, h⟩
    rw [e]; exact h
  obtain ⟨v, ev, a, xs, ex, hq, q⟩ := q1
  subst ev ex
  cases r1 with
  | cons r rr =>
    cases rr
    cases r
    obtain ⟨its, rv, p', hz⟩ := I1.tuple hq
    have hal : a < s1.heap.objs.size := by obtain ⟨_, q, _⟩ := p'; exact Heap.lt_size q
    refine call_enumerate_tuple (show s1.heap.IsTuple a its.toArray from p') fun h' he hit hsz hk => wpAny_pyIter_enum he ?_
    have I2 : Inv X pins σ H1 { s1 with heap := h' } := I1.kept (t' := s1.toks) hk
    refine ⟨s1.heap.objs.size + 1, [s1.heap.objs.size + 1, s1.heap.objs.size], _, _, H1, rfl, I2, turn_enumT a (s1.heap.objs.size + 1) s1.heap.objs.size (Nat.ne_of_lt hal) (Nat.ne_of_lt (Nat.lt_succ_of_lt hal)), ⟨⟨.none, he⟩, hit, Nat.succ_ne_self _⟩, fun b hb => ?_, q⟩
    have e' : b = s1.heap.objs.size + 1 ∨ b = s1.heap.objs.size := by simpa using hb
    have hle : s1.heap.objs.size ≤ b := by
      rcases e' with z | z
      · rw [z]; exact Nat.le_add_right _ _
      · rw [z]; exact Nat.le_refl _
    exact I1.fpOk hle (I1.hok.fresh hle)
/-- the pairs (place, item) -/
def pairsOf (ds : List D) : List D := (List.range ds.length).map fun i => .tup [.int (i : Nat), ds.getD i .non]
theorem pairs_len (ds : List D) : (pairsOf ds).length = ds.length := by simp [pairsOf]
theorem walks_enumT {K : PySem.W.Frag} {m : Ad} {H : Hp} {a : Addr} {ds : List D} {xs : List V} (h : SqT K (hid m H) a xs) (r : RRL K H m ds xs) : Walks K (IteT K a) m H (pairsOf ds) where
  go := fun i m' H' c' l C hi => by
    rw [pairs_len] at hi
    obtain ⟨d, x, _, h2, _⟩ := RL.at r hi
    exact ⟨xs, x, ex_t (l.ex.trans (ex_hid m' H')) h, h2⟩
  stop := fun i m' H' c' l C hi => ⟨xs, ex_t (l.ex.trans (ex_hid m' H')) h, by rw [rlen r]; rw [pairs_len] at hi; exact hi⟩
  yld := fun i m' H' c' x H2 l C hi ⟨T, z, ex, hT, eH, y⟩ => by
    rw [pairs_len] at hi
    subst ex eH
    obtain ⟨d, u, h1, h2, h3⟩ := RL.at r hi
    have := y xs (ex_t (l.ex.trans (ex_hid m' _)) h)
    rw [h2] at this; cases this
    have L2 := Le.new (o := .tup [.int (i : Nat), z]) hT C
    refine ⟨.tup [.int (i : Nat), d], ?_, C.new hT, L2, T, [.int (i : Nat), z], rfl, .inl (.inl (new_at hT C)), ⟨_, _, rfl, rfl, _, _, rfl, L2.r (l.r h3), rfl⟩⟩
    unfold pairsOf
    rw [List.getElem?_map, List.getElem?_range hi]
    show some (D.tup [.int (i : Nat), ds.getD i .non]) = _
    rw [List.getD_eq_getElem?_getD, h1]; rfl
def dEnumT (te : TD) : TDs := fun ρ c Φ => te ρ c fun x c1 => match x with
  | .tup ds => Φ (pairsOf ds) c1
  | _ => False
section
variable {X : Cx} {e : Expr} {te : TD} {p pos tpos : Pos} {elts : List Expr} {kk : Nat}
theorem pid_enumT (h : PD X e te) (hm : X.mg "enumerate" = none) (hg : Gl X "enumerate" := by rfl) (hs : starEach [e] X.env = (false, eval e X.env) :: starEach [] X.env := by rfl) :
    PID X (.Tuple elts kk tpos) (.Call (.Name "enumerate" p) [e] [] pos) (dEnumT te) := PI.imp (pi_enumT hg hm h hs) fun σ H R ⟨m, ρ, c, Φ, S, h, q⟩ =>
  ⟨m, ρ, c, _, S, h, fun d c1 v H1 m1 hx C1 R1 L1 => by
    cases d <;> first | exact hx.elim | skip
    obtain ⟨a, xs, rfl, h1, h2⟩ := R1
    exact ⟨a, xs, rfl, ex_t (ex_hid m1 H1) h1, q _ c1 _ H1 m1 hx C1 (walks_enumT h1 h2) L1⟩⟩
end
end Cw

namespace Cw
open PySem PySem.Spec PyProof.Rows L2

/-! ### {k: v for x in ..}, keys texts or ints, each once -/
/-- the cells behind a turn's part: the new dict the last -/
def innerD (n : Nat) (ks : List Key) (acc : List D) (y : D) (c : List Cell) (Q : List Cell → Prop) : Prop := c[n]? = some (.dct ks acc) ∧ match Nat.beq c.length (n + 1) with
  | true => Q (c.take n)
  | false => okCs (n + 1) (c.take (n + 1)) = true ∧ okD (n + 1) y = true ∧ Q (c.take n)
theorem innerD_ok {K : PySem.W.Frag} {H H4 : Hp} {m m4 : Ad} {c3 : List Cell} {n : Nat} {ks : List Key} {acc : List D} {y : D} {v : V} {Q : List Cell → Prop} (hn : m.ix.length = n + 1) (h : innerD n ks acc y c3 Q) (C4 : CR K H4 m4 c3) (r : RR K H4 m4 y v) (l4 : Le m H m4 H4) :
    CR K H4 m (c3.take n ++ [.dct ks acc]) ∧ RR K H4 m y v ∧ Le m H m H4 ∧ Q (c3.take n) ∧ (c3.take n).length = n := by
  obtain ⟨h1, h2⟩ := h
  have hlt := (List.getElem?_eq_some_iff.mp h1).1
  have ht : c3.take (n + 1) = c3.take n ++ [.dct ks acc] := by
    rw [List.take_add_one, h1]; rfl
  cases e : Nat.beq c3.length (n + 1) with
  | true =>
    rw [e] at h2
    have e1 := beq_t e
    have em := CR.same (by rw [hn]; exact e1) C4 l4
    subst em
    have : c3 = c3.take n ++ [.dct ks acc] := by rw [← ht, List.take_of_length_le (by omega)]
    rw [← this]
    exact ⟨C4, r, l4, h2, by rw [List.length_take]; omega⟩
  | false =>
    rw [e] at h2
    obtain ⟨a, b, c⟩ := CR.letgo hn C4 r l4 h2.1 h2.2.1
    rw [ht] at a
    exact ⟨a, b, c, h2.2.2, by rw [List.length_take]; omega⟩
def dcD (i : Nat) (tt : TDt) (tk tv : TD) : List D → List Key → List D → Env → List Cell → (List Key → List D → List Cell → Prop) → Prop
  | [], ks, acc, _, c, Φ => okCs c.length c = true ∧ okDs c.length acc = true ∧ Φ ks acc c
  | d :: ds, ks, acc, ρ, c, Φ => tt (ρ.set i (some d)) (c ++ [.dct ks acc]) fun b c2 => match b with
    | true => tk (ρ.set i (some d)) c2 fun y c3 => tv (ρ.set i (some d)) c3 fun z c4 => ∃ k, y = kD k ∧ k ∉ ks ∧ acc.length < sizeLine ∧ innerD c.length ks acc z c4 fun c5 => dcD i tt tk tv ds (ks ++ [k]) (acc ++ [z]) ρ c5 Φ
    | false => innerD c.length ks acc .non c2 fun c4 => dcD i tt tk tv ds ks acc ρ c4 Φ
def dDc (ti : TDs) (i : Nat) (tt : TDt) (tk tv : TD) : TD := fun ρ c Φ => ti ρ c fun ds c1 => dcD i tt tk tv ds [] [] ρ c1 fun ks xs c2 => Φ (.dct ks xs) c2
theorem kv_none {kvs : List (Key × V)} {k : Key} (h : k ∉ kvs.map (·.1)) : valV kvs k = none := by
  unfold valV
  rw [List.find?_eq_none.mpr]
  · rfl
  · intro p hp e
    have e := of_decide_eq_true e
    exact h (List.mem_map.mpr ⟨p, hp, e⟩)
theorem kD_v {K : PySem.W.Frag} {H : Hp} {m : Ad} {k : Key} {v : V} (h : RR K H m (kD k) v) : v = kV k := by
  cases k <;> exact h
theorem dc_walk {K : PySem.W.Frag} {J : It} {m : Ad} {H1 : Hp} {ds : List D} {σ : L2.St} {ρ : Env} {c : List Cell} {i : Nat} {tt : TDt} {tk tv : TD} {Φ : List Key → List D → List Cell → Prop} {Qd : Addr → Hp → Prop} (wk : Walks K J m H1 ds) (S : SR K σ H1 m ρ c) (h : dcD i tt tk tv ds [] [] ρ c Φ)
    (q : ∀ p ks xs c' H', Φ ks xs c' → CR K H' m c' → RR K H' m (.dct ks xs) (.ref p) → Le m H1 m H' → Qd p H') : ∀ p, H1 p = none → ∃ W : Nat → Nat → Hp → Prop, (∃ mm, W 0 mm (upd H1 p (.dK []))) ∧ ∀ j mm H, W j mm H →
      (J.stop j H ∧ Qd p H) ∨ (J.go j H ∧ ∃ Nx : Hp → Prop, (∀ H', Nx H' → ∃ m', m' < mm ∧ W (j + 1) m' H') ∧ ∀ x H', J.yld j H x H' → gName i x (wipe σ [i]) H' fun σ2 H2 => wipe σ2 [i] = wipe σ [i] ∧ liftT K tt σ2 H2 fun b H3 =>
        if b = true then lift K tk σ2 H3 fun y H4 => lift K tv σ2 H4 fun z H5 => ∃ kvs k, y = kV k ∧ H5 p = some (.dK kvs) ∧ kvs.length < sizeLine ∧ Nx (upd H5 p (.dK (putK kvs k z))) else Nx H3) := by
  intro p hp
  have z0 := cell_new (ce := .dct [] []) (o := .dK []) S.cr hp ⟨[], upd_same, rfl, rfl⟩
  refine ⟨fun j mm H => mm = ds.length - j ∧ j ≤ ds.length ∧ ∃ c' ks acc, c'.length = c.length ∧ CR K H (m.push p) (c' ++ [.dct ks acc]) ∧ Le m H1 (m.push p) H ∧ dcD i tt tk tv (ds.drop j) ks acc ρ c' Φ,
    ⟨ds.length, by simp, Nat.zero_le _, c, [], [], rfl, z0.1, z0.2.1, by simpa using h⟩, ?_⟩
  rintro j mm H ⟨rfl, hj, c', ks, acc, hl, C, l, hf⟩
  by_cases hlt : j < ds.length
  · refine .inr ⟨wk.go j (m.push p) H _ l C hlt, fun H' => ∃ c' ks acc, c'.length = c.length ∧ CR K H' (m.push p) (c' ++ [.dct ks acc]) ∧ Le m H1 (m.push p) H' ∧ dcD i tt tk tv (ds.drop (j + 1)) ks acc ρ c' Φ, fun H' w => ⟨ds.length - (j + 1), by omega, rfl, hlt, w⟩, fun x H2 y => ?_⟩
    obtain ⟨d, hd, C2, l2, rx⟩ := wk.yld j (m.push p) H _ x H2 l C hlt y
    have e : ds.drop j = d :: ds.drop (j + 1) := by
      rw [List.drop_eq_getElem_cons hlt]
      congr 1
      have := List.getElem?_eq_getElem hlt
      rw [hd] at this
      exact (Option.some.inj this).symm
    rw [e] at hf
    have L2 := l.trans l2
    have S2 : SR K ((wipe σ [i]).set i (some x)) H2 (m.push p) (ρ.set i (some d)) (c' ++ [.dct ks acc]) := (S.step L2 C2).blk rx
    refine ⟨by rw [wipe1, wipe1, List.set_set, List.set_set], m.push p, _, _, _, S2, hf, fun b c2 H3 m3 hb C3 l3 => ?_⟩
    have hmn : (m.push p).ix.length = c'.length + 1 := by
      have := C2.len
      simp at this
      exact this
    cases b with
    | false =>
      dsimp only
      rw [if_neg (by decide)]
      obtain ⟨z1, _, z2, z3, z4⟩ := innerD_ok (v := .non) hmn hb C3 rfl l3
      exact ⟨c2.take c'.length, ks, acc, by rw [z4, hl], z1, L2.trans z2, z3⟩
    | true =>
      dsimp only
      rw [if_pos rfl]
      refine ⟨m3, _, c2, _, S2.step l3 C3, hb, fun y c3 v H4 m4 hy C4 R4 l4 => ⟨m4, _, c3, _, S2.step (l3.trans l4) C4, hy, fun z c4 v5 H5 m5 hz C5 R5 l5 => ?_⟩⟩
      obtain ⟨k, ek, hk, hsz, hin⟩ := hz
      subst ek
      have ev := kD_v R4
      obtain ⟨z1, z5, z2, z3, z4⟩ := innerD_ok hmn hin C5 R5 ((l3.trans l4).trans l5)
      obtain ⟨a, h5, kvs, h6, h7, h8⟩ := z1.at_ c'.length (.dct ks acc) (by rw [List.getElem?_append_right (by omega), z4]; simp)
      have last : (m.push p).ix[c'.length]? = some p := by
        show (m.ix ++ [p])[c'.length]? = some p
        rw [hl, ← S.cr.len]; simp
      rw [last] at h5; cases h5
      have hkl : kvs.length = acc.length := by have := rlen h8; rw [List.length_map] at this; exact this
      refine ⟨kvs, k, ev, h6, by rw [hkl]; exact hsz, ?_⟩
      have hm : p ∈ (m.push p).ix := List.mem_of_getElem? last
      have hput : putK kvs k v5 = kvs ++ [(k, v5)] := putK_new v5 (kv_none (by rw [h7]; exact hk))
      rw [hput]
      have z := cell_put (o := .dK (kvs ++ [(k, v5)])) (ce := .dct (ks ++ [k]) (acc ++ [z])) z1 last ⟨_, upd_same, by rw [List.map_append, h7]; rfl, by
        show RL _ _ (hid (m.push p) _) _ _
        rw [hid_mut hm, List.map_append]
        exact RL.append h8 ⟨v5, [], rfl, z5, rfl⟩⟩
      have ec : ∀ z', (c4.take c'.length ++ [Cell.dct ks acc]).set c'.length (.dct (ks ++ [k]) (acc ++ [z'])) = c4.take c'.length ++ [.dct (ks ++ [k]) (acc ++ [z'])] := fun z' => by
        rw [List.set_append_right _ _ (by omega), z4]; simp
      rw [ec] at z
      exact ⟨c4.take c'.length, ks ++ [k], _, by rw [z4, hl], z.1, (L2.trans z2).trans z.2, z3⟩
  · have ej : j = ds.length := by omega
    subst ej
    rw [List.drop_length] at hf
    obtain ⟨h1, h2, h3⟩ := hf
    obtain ⟨C', _, ⟨kvs, h4, h6, h5⟩, hp1, hp2⟩ := C.pop h1
    refine .inl ⟨wk.stop _ (m.push p) H _ l C (Nat.le_refl _), q p ks acc c' H h3 C' ⟨p, kvs, rfl, .inl (by rw [hid_of ⟨hp1, hp2⟩]; exact h4), h6, RL.low ex_pop (low_push C'.len) acc _ h2 h5⟩ ⟨fun _ _ e => e, l.ex.trans ex_pop, rfl, l.hk, fun _ h => .inl h, l.al⟩⟩
section
variable {X : Cx} {iter kx vx : Expr} {tk tv : TD} {tt : TDt} {pos pp tp : Pos} {ti : TDs} {ifs : List Expr} {scope : Scope} {x : Str} {i : Nat}
theorem pd_dc (hc : X.calm = true) (hN : X.N.Nodup) (hi : PID X (.Name x tp) iter ti) (ok : blkC X.N X.env.scope scope [(x, i)] = true)
    (hg : ∀ (s : Shared) (H : Hp) (C : Addr) (cl : List (Str × Addr)) (fp : List Addr), PG (X.blk s H scope (compEnvC scope cl C X.env) fp) (.Name x tp) (gName i))
    (ht : ∀ (s : Shared) (H : Hp) (C : Addr) (cl : List (Str × Addr)) (fp : List Addr), PTD (X.blk s H scope (compEnvC scope cl C X.env) fp) ifs tt)
    (hk : ∀ (s : Shared) (H : Hp) (C : Addr) (cl : List (Str × Addr)) (fp : List Addr), PD (X.blk s H scope (compEnvC scope cl C X.env) fp) kx tk)
    (he : ∀ (s : Shared) (H : Hp) (C : Addr) (cl : List (Str × Addr)) (fp : List Addr), PD (X.blk s H scope (compEnvC scope cl C X.env) fp) vx tv) (hs : ∀ x, foldedSetIterable iter X.env x = pure x := by intro _; rfl) :
    PD X (.DictComp kx vx [⟨.Name x tp, iter, ifs, 0⟩] scope pos) (dDc ti i tt tk tv) :=
  PE.imp (pe_dc (own := [(x, i)]) hc hN hi (blkOk_by ok) hg ht hk he hs) fun σ H Q ⟨m, ρ, c, Φ, S, h, q⟩ =>
    ⟨m, ρ, c, _, S, h, fun ds c1 J H1 m1 hx C1 wk L1 => dc_walk wk (S.step L1 C1) hx fun p ks xs c' H' h' C' R' l' => q _ c' _ H' m1 h' C' R' (L1.trans l')⟩
end

theorem innerD_same {c : List Cell} {ks : List Key} {acc : List D} {y : D} {Q : List Cell → Prop} (q : Q c) : innerD c.length ks acc y (c ++ [.dct ks acc]) Q := by
  refine ⟨by simp, ?_⟩
  have e : Nat.beq (c ++ [Cell.dct ks acc]).length (c.length + 1) = true := by
    rw [List.length_append]; exact Nat.beq_refl _
  rw [e]
  show Q _
  rw [List.take_left']
  · exact q
  · rfl
theorem dc_map {α : Type} {i : Nat} {tk tv : TD} {ρ : Env} {c : List Cell} {Φ : List Key → List D → List Cell → Prop} (d : α → D) (key : α → Key) (val : α → D) (hc : okCs c.length c = true) : ∀ (xs : List α) (ks : List Key) (acc : List D),
    (∀ x ∈ xs, okD c.length (val x) = true ∧ ∀ ks acc (Ψ : D → List Cell → Prop), (Ψ (kD (key x)) (c ++ [.dct ks acc]) → tk (ρ.set i (some (d x))) (c ++ [.dct ks acc]) Ψ) ∧ (Ψ (val x) (c ++ [.dct ks acc]) → tv (ρ.set i (some (d x))) (c ++ [.dct ks acc]) Ψ)) →
    (ks ++ xs.map key).Nodup → okDs c.length acc = true → acc.length + xs.length ≤ sizeLine → Φ (ks ++ xs.map key) (acc ++ xs.map val) c → dcD i dYes tk tv (xs.map d) ks acc ρ c Φ
  | [], ks, acc, _, _, h, _, q => ⟨hc, h, by simpa using q⟩
  | x :: xs, ks, acc, he, nd, h, hl, q => by
    have hl' : acc.length + (xs.length + 1) ≤ sizeLine := hl
    obtain ⟨hk, ht⟩ := he x List.mem_cons_self
    have nd' : (ks ++ key x :: xs.map key).Nodup := nd
    show tk _ _ _
    refine (ht ks acc _).1 ?_
    refine (ht ks acc _).2 ⟨key x, rfl, fun z => ?_, by omega, innerD_same ?_⟩
    · rw [List.nodup_append] at nd'
      exact nd'.2.2 _ z _ List.mem_cons_self rfl
    · refine dc_map d key val hc xs _ _ (fun y hy => he y (List.mem_cons_of_mem _ hy)) (by rw [List.append_assoc]; exact nd') (okDs_app h (okDs_one hk)) (by rw [List.length_append]; show acc.length + 1 + xs.length ≤ _; omega) ?_
      rw [List.append_assoc, List.append_assoc]
      exact q
/-- y = {k: v for x in ..} -/
theorem sw_trueD {kx vx : Expr} {gs : List Comprehension} {scope : Scope} {pos py : Pos} {y : Str} {l : Nat} {env : PySem.Env} (hk : env.scope.kind = .function) (hy : env.scope.names.lookup y = some .local) (hl : (py.line == pos.line) = true)
    (ha : (scope.names.any fun (n, k) => n == y && (k == .local || k == .cell)) = false) : swapsWith (.DictComp kx vx gs scope pos) (some (.Name y py)) l env = pure true := by
  have ky : env.kindOf y = some .local := hy
  have hb : env.blockKind = .function := by unfold PySem.Env.blockKind; rw [hk]; rfl
  unfold swapsWith
  simp only [hb, ky, ha, Expr.pos, hl]
  rfl
theorem ps_setDc {X : Cx} {i : Nat} {y : Str} {py : Pos} {kx vx tg iter : Expr} {ifs : List Expr} {scope : Scope} {own : List (Str × Nat)} {pos spos : Pos} {wi : TI} {g : TG} {tt : TT} {tk tv : TE} (hc : X.calm = true) (hN : X.N.Nodup) (hy : X.N[i]? = some y) (hyl : X.env.scope.names.lookup y = some .local)
    (hsw : swapsWith (.DictComp kx vx [⟨tg, iter, ifs, 0⟩] scope pos) (some (.Name y py)) spos.line X.env = pure true) (hi : PI X tg iter wi) (ok : BlkOk X.N X.env.scope scope own)
    (hg : ∀ (s : Shared) (H : Hp) (C : Addr) (cl : List (Str × Addr)) (fp : List Addr), PG (X.blk s H scope (compEnvC scope cl C X.env) fp) tg g) (ht : ∀ (s : Shared) (H : Hp) (C : Addr) (cl : List (Str × Addr)) (fp : List Addr), PTs (X.blk s H scope (compEnvC scope cl C X.env) fp) ifs tt)
    (hk : ∀ (s : Shared) (H : Hp) (C : Addr) (cl : List (Str × Addr)) (fp : List Addr), PE (X.blk s H scope (compEnvC scope cl C X.env) fp) kx tk)
    (he : ∀ (s : Shared) (H : Hp) (C : Addr) (cl : List (Str × Addr)) (fp : List Addr), PE (X.blk s H scope (compEnvC scope cl C X.env) fp) vx tv) (hs : ∀ x, foldedSetIterable iter X.env x = pure x := by intro _; rfl) :
    PS X (.Assign [.Name y py] (.DictComp kx vx [⟨tg, iter, ifs, 0⟩] scope pos) spos) (tAsg (tDc wi g tt tk tv (own.map (·.2))) (gName i)) := by
  refine ⟨fun pins s σ H D I h => ?_⟩
  rw [exec_Assign_Name_used _ _ _ _ hsw]
  refine wpAny_bind (wpAny_standAt (wpAny_bind ?_))
  show wpAny _ X.A (do let _ ← comprehension (.DictComp kx vx [⟨tg, iter, ifs, 0⟩] scope pos) scope X.env (firstIterPos [⟨tg, iter, ifs, 0⟩] pos) newDict false (eval iter X.env) (some (assign (.Name y py) X.env))) _ _ s
  have h : tDc wi g tt tk tv (own.map (·.2)) σ H (fun x H1 => gName i x σ H1 D.nx) := h
  refine wpAny_bind (thn (dc_core (Qf := fun _ s' => SP X pins D .next s') hc hN I hi ok hg ht hk he hs h fun L C s' m H' I' q hn f => ?_) fun _ s' hq => wpAny_pure (wpAny_pure hq))
  show wpAny _ _ (assign (.Name y py) X.env (.ref L)) _ _ _
  refine wpAny_assign_Name (store_ok2 (v := V.ref L) I' hN hy (.inl hyl) rfl (fun s2 I2 ⟨a, sb, ha⟩ => ?_) (.inr hyl))
  obtain ⟨f0, f1, f2, f3, f4, f5⟩ := f
  have haC : C ≠ a := by
    rcases ha with z | z
    · rw [z]; exact f1
    · exact fun e => f4 y a z e.symm
  refine ⟨m, hn.sameBut sb haC, fun h3 sb3 => ?_⟩
  exact ⟨_, H', I2.turned (t' := s2.toks) (fun b o hb e => (sb3.2 b hb).trans e) f0 f1 f3 f4 f5, q⟩
section
variable {X : Cx} {iter kx vx : Expr} {tk tv : TD} {tt : TDt} {pos pp tp : Pos} {ti : TDs} {ifs : List Expr} {scope : Scope} {x y : Str} {i j : Nat}
theorem psd_setDc {spos py : Pos} (hc : X.calm = true) (hN : X.N.Nodup) (hy : X.N[j]? = some y) (hyl : X.env.scope.names.lookup y = some .local)
    (hsw : swapsWith (.DictComp kx vx [⟨.Name x tp, iter, ifs, 0⟩] scope pos) (some (.Name y py)) spos.line X.env = pure true)
    (hi : PID X (.Name x tp) iter ti) (ok : blkC X.N X.env.scope scope [(x, i)] = true)
    (hg : ∀ (s : Shared) (H : Hp) (C : Addr) (cl : List (Str × Addr)) (fp : List Addr), PG (X.blk s H scope (compEnvC scope cl C X.env) fp) (.Name x tp) (gName i))
    (ht : ∀ (s : Shared) (H : Hp) (C : Addr) (cl : List (Str × Addr)) (fp : List Addr), PTD (X.blk s H scope (compEnvC scope cl C X.env) fp) ifs tt)
    (hk : ∀ (s : Shared) (H : Hp) (C : Addr) (cl : List (Str × Addr)) (fp : List Addr), PD (X.blk s H scope (compEnvC scope cl C X.env) fp) kx tk)
    (he : ∀ (s : Shared) (H : Hp) (C : Addr) (cl : List (Str × Addr)) (fp : List Addr), PD (X.blk s H scope (compEnvC scope cl C X.env) fp) vx tv) (hs : ∀ x, foldedSetIterable iter X.env x = pure x := by intro _; rfl) :
    PSD X (.Assign [.Name y py] (.DictComp kx vx [⟨.Name x tp, iter, ifs, 0⟩] scope pos) spos) (dSet j (dDc ti i tt tk tv)) :=
  PS.imp (ps_setDc (i := j) (own := [(x, i)]) hc hN hy hyl hsw hi (blkOk_by ok) hg ht hk he hs) fun Dn σ H ⟨m, ρ, c, De, S, h, n, r, b, k⟩ =>
    ⟨m, ρ, c, _, S, h, fun ds c1 J H1 m1 hx C1 wk L1 => dc_walk wk (S.step L1 C1) hx fun p ks xs c' H' h' C' R' l' => n _ H' m1 _ c' h' ((S.step (L1.trans l') C').set R') (L1.trans l')⟩
end

/-! ### d[k] -/
def lookD : List Key → List D → Key → Option D
  | k :: ks, d :: ds, q => if k = q then some d else lookD ks ds q
  | _, _, _ => none
theorem look_val {K : PySem.W.Frag} {m : List Addr} {H : Hp} : ∀ {kvs : List (Key × V)} {ds : List D} {q : Key} {d : D}, RL K m H ds (kvs.map (·.2)) → lookD (kvs.map (·.1)) ds q = some d → ∃ v, valV kvs q = some v ∧ R K m H d v
  | [], _, _, _, _, e => by cases e
  | (k, w) :: kvs, [], _, _, _, e => by cases e
  | (k, w) :: kvs, d :: ds, q, d', ⟨x, r, e1, h1, h2⟩, e => by
    cases e1
    have e : (if k = q then some d else lookD (kvs.map (·.1)) ds q) = some d' := e
    by_cases h : k = q
    · rw [if_pos h] at e; cases e
      exact ⟨w, by unfold valV; rw [List.find?_cons_of_pos (by simpa using h)]; rfl, h1⟩
    · rw [if_neg h] at e
      obtain ⟨v, h3, h4⟩ := look_val h2 e
      exact ⟨v, by
        have : valV ((k, w) :: kvs) q = valV kvs q := by
          unfold valV; rw [List.find?_cons_of_neg (by simpa using h)]
        rw [this]; exact h3, h4⟩
def dDGet (td ty : TD) : TD := fun ρ c Φ => td ρ c fun x c1 => ty ρ c1 fun y c2 => ∃ ks ds k d, vw c2 x = .dct ks ds ∧ y = kD k ∧ lookD ks ds k = some d ∧ Φ d c2
section
variable {X : Cx} {o i : Expr} {pos : Pos} {td ty : TD} {k : Nat}
theorem pd_dget (hr : Room k X.A) (hd : PD X o td) (hy : PD X i ty) (hs : NoSl i := by intro _ _; rfl) : PD X (.Subscript o i pos) (dDGet td ty) :=
  PE.imp (pe_dget (by have := hr.un; omega) hd hy hs) fun σ H Q ⟨m, ρ, c, Φ, S, h, q⟩ =>
    ⟨m, ρ, c, _, S, h, fun x c1 u H1 m1 hx C1 R1 L1 => ⟨m1, ρ, c1, _, S.step L1 C1, hx, fun y c2 v H2 m2 hy C2 R2 L2 => by
      obtain ⟨ks, ds, k, d, e1, e2, e3, hΦ⟩ := hy
      subst e2
      have ev := kD_v R2
      subst ev
      have w := W.vw C2 (L2.r R1)
      rw [e1] at w
      obtain ⟨a, kvs, rfl, h1, h2, h3⟩ := w
      subst h2
      obtain ⟨w, h4, h5⟩ := look_val h3 e3
      exact ⟨a, w, rfl, by rw [← h4]; exact .inl ⟨kvs, k, h1, rfl, rfl⟩, q _ c2 _ H2 m2 hΦ C2 h5 (L1.trans L2)⟩⟩⟩
end
end Cw

namespace Cw
open PySem PySem.Spec PyProof.Rows L2
section
variable {X : Cx}
def rReprA (K : PySem.W.Frag) : List V → Hp → VK → Prop := fun xs H Q => ∃ v d, xs = [v] ∧ Dp K H v d ∧ Showy d ∧ Q (.str d.shown) H
theorem call_reprA (hg : X.A.guards = some []) (hu : X.A.units + 64 < cLine) : CallR X (.builtin "repr") (rReprA X.K) := by
  intro pins s σ H xs us Q I r h
  obtain ⟨v, d, rfl, hd, S, q⟩ := h
  cases r with
  | cons r rr =>
    cases rr
    cases d with
    | none =>
      cases hd; cases r
      exact PySem.P.repr_of_none ⟨.str "None", H, I.tok _, ⟨_, rfl⟩, by have := q; rw [PyData.shown_none] at this; exact this⟩
    | bool b =>
      cases hd; cases r
      exact PySem.P.repr_of_bool ⟨.str (if b then "True" else "False"), H, I.tok _, ⟨_, by cases b <;> rfl⟩, by have := q; rw [PyData.shown_bool] at this; exact this⟩
    | int i =>
      cases hd
      obtain ⟨t, rfl⟩ := r
      have hs : i.natAbs.log2 < 1920 := of_decide_eq_true S.sh
      exact PySem.P.repr_of_int hs ⟨.str (toString i), H, I.tok _, ⟨_, rfl⟩, by have := q; rw [PyData.shown_int] at this; exact this⟩
    | str x =>
      cases hd
      obtain ⟨t, rfl⟩ := r
      have hz := S.sz
      rw [PyData.shown_str] at hz
      exact PySem.P.repr_of_str ⟨.str (reprText x), H, I.tok _, ⟨_, rfl⟩, by have := q; rw [PyData.shown_str] at this; exact this⟩ hz
    | list ds =>
      obtain ⟨as, w1⟩ := Dp.reads I (.list ds) v _ hd r
      cases hd
      cases r
      have := S.dp
      exact PySem.repr_of_reads' (h₀ := s.heap) w1 S.sh (fun z => by rw [S.nd] at z; cases z) hg (by omega) (fun _ _ e => e) (fun h' u tk k => ⟨.str (PyData.list ds).shown, H, I.kept k, ⟨u, rfl⟩, q⟩) S.sz
    | tuple ds =>
      obtain ⟨as, w1⟩ := Dp.reads I (.tuple ds) v _ hd r
      cases hd
      cases r
      have := S.dp
      exact PySem.repr_of_reads' (h₀ := s.heap) w1 S.sh (fun z => by rw [S.nd] at z; cases z) hg (by omega) (fun _ _ e => e) (fun h' u tk k => ⟨.str (PyData.tuple ds).shown, H, I.kept k, ⟨u, rfl⟩, q⟩) S.sz
    | dict _ => cases hd
end
def fReprA : F1 := fun x c Φ => ∃ p, D.py x = some p ∧ Showy p ∧ Φ (.str p.shown) c
theorem l1_reprA {K : PySem.W.Frag} : L1f K fReprA (fun u H Q => rReprA K [u] H Q) := by
  intro x c Φ h H m u C r Q q
  obtain ⟨p, h1, h2, h3⟩ := h
  exact ⟨u, p, rfl, W.dp r h1, h2, q.pure C h3 rfl⟩
section
variable {X : Cx} {e : Expr} {ta : TD} {pos pp : Pos}
theorem pd_reprA (hgu : X.A.guards = some []) (hu : X.A.units + 64 < cLine) (ha : PD X e ta) (hm : X.mg "repr" = none) (hg : Gl X "repr" := by rfl) (he : starEach [e] X.env = (false, eval e X.env) :: starEach [] X.env := by rfl) (hpl : (backTo pos (starEach [] X.env)).any (·.1) = false := by rfl) :
    PD X (.Call (.Name "repr" pp) [e] [] pos) (dCB (un1 fReprA) (dCons ta dNil)) := pd_B1 (call_reprA hgu hu) l1_reprA (by decide +kernel) (by decide) (by decide) ha hg hm he hpl
end
/-! ### a + b, lists, as a new mutable list; list * int -/
def dAddM (ta tb : TD) : TD := fun ρ c Φ => ta ρ c fun x c1 => tb ρ c1 fun y c2 => ∃ xs ys, vw c2 x = .lst xs ∧ vw c2 y = .lst ys ∧ xs.length + ys.length ≤ sizeLine ∧ Φ (.cell c2.length) (c2 ++ [.lst (xs ++ ys)])
section
variable {X : Cx} {a b : Expr} {ta tb : TD} {pos : Pos}
theorem pd_addM (ha : PD X a ta) (hb : PD X b tb) : PD X (.BinOp a .Add b pos) (dAddM ta tb) := PE.imp (pe_op op_cat ha hb) fun σ H Q ⟨m, ρ, c, Φ, S, h, q⟩ =>
  ⟨m, ρ, c, _, S, h, fun x c1 u H1 m1 hx C1 R1 L1 => ⟨m1, ρ, c1, _, S.step L1 C1, hx, fun y c2 v H2 m2 hy C2 R2 L2 => by
    obtain ⟨xs, ys, e1, e2, hl, hΦ⟩ := hy
    have w1 := W.vw C2 (L2.r R1)
    have w2 := W.vw C2 R2
    rw [e1] at w1
    rw [e2] at w2
    obtain ⟨p1, us, rfl, h1, r1⟩ := w1
    obtain ⟨p2, ws, rfl, h2, r2⟩ := w2
    refine ⟨p1, p2, us, ws, rfl, rfl, h1, h2, by rw [rlen r1, rlen r2]; exact hl, fun p hp => ?_⟩
    have z := cell_new (ce := .lst (xs ++ ys)) (o := .lst (us ++ ws)) C2 hp ⟨us ++ ws, upd_same, by
      show RL _ _ (hid (m2.push p) _) _ _
      rw [hid_app hp]; exact RL.append (RL.mono (Ex.refl _) push_pre _ _ r1) (RL.mono (Ex.refl _) push_pre _ _ r2)⟩
    exact q _ _ _ _ _ hΦ z.1 z.2.2 ((L1.trans L2).trans z.2.1)⟩⟩
def fMulL : F2 := fun x y c Φ => match x, y with
  | .lst ds, .int n => -(2 ^ 63) ≤ n ∧ n < 2 ^ 63 ∧ ds.length * n.toNat ≤ sizeLine ∧ Φ (.lst (List.replicate n.toNat ds).flatten) c
  | _, _ => False
theorem rl_rep {K : PySem.W.Frag} {m : List Addr} {H : Hp} {ds : List D} {xs : List V} (h : RL K m H ds xs) : ∀ n : Nat, RL K m H (List.replicate n ds).flatten (List.replicate n xs).flatten
  | 0 => rfl
  | n + 1 => by rw [List.replicate_succ, List.replicate_succ, List.flatten_cons, List.flatten_cons]; exact RL.append h (rl_rep h n)
theorem pd_mulL (ha : PD X a ta) (hb : PD X b tb) : PD X (.BinOp a .Mult b pos) (dBin fMulL ta tb) := PE.imp (pe_op op_rep ha hb) fun σ H Q h => lift_bin (by
  intro x y c Φ h H m u v Cc r1 r2 Q k
  cases x <;> cases y <;> first | exact h.elim | skip
  obtain ⟨h1, h2, h3, h4⟩ := h
  obtain ⟨p, xs, rfl, hp, rx⟩ := r1
  cases r2
  exact ⟨p, _, xs, rfl, rfl, hp, h1, h2, by rw [rlen rx]; exact h3, fun t ht => KQ.newL (X := X) k Cc h4 (rl_rep rx _) ht⟩) h
end
/-! ### a def that knows of no repr around it, nothing mutable handed in -/
section
variable {X : Cx} {k np : Nat} {f : Addr} {fd : FuncData} {ps : List Str} {S : Pm} {E : XK} {x : Str} {p pos : Pos} {e : Expr} {es : List Expr} {tas : TDs}
theorem pd_callPG (F : FnG X.prog X.w X.K X.mg X.base k f fd ps (spD X.K 0 np S)) (hgu : X.A.guards = some []) (hr : Room k X.A) (hm : X.mg x = some (.ref f)) (hk : PySem.W.keepIn X.K (.ref f) = true) (hb : Binds X.K fd ps []) (hx : Passes CX0 X E)
    (ha : PDs X (e :: es) tas) (hg : Gl X x := by rfl) (hdb : (x == ("__debug__" : Str)) = false := by decide) (he : starEach (e :: es) X.env = (false, eval e X.env) :: starEach es X.env := by rfl) (hpl : (backTo pos (starEach es X.env)).any (·.1) = false := by rfl) :
    PD X (.Call (.Name x p) (e :: es) [] pos) (dCallP S np tas) := PE.imp (pe_callG F hgu hr hg hm hk hb hx ha hdb he hpl) fun σ H Q ⟨m, ρ, c, Φ, S', h, q⟩ =>
    ⟨m, ρ, c, _, S', h, fun ds c1 vs H1 m1 ⟨hl, hc⟩ C1 R1 L1 => by show spD _ _ _ _ (_ ++ []) _ _ _; rw [List.append_nil]; exact sp_pure C1 R1 hl hc (KQ.le (K := X.K) q L1)⟩
end
end Cw

namespace Cw
open PySem PySem.Spec PyProof.Rows L2
/-! ### tuple * int, also by 0 and 1 -/
def rMulT (K : PySem.W.Frag) : V → V → Hp → VK → Prop := fun x y H Q => ∃ l k xs, x = .ref l ∧ y = .int k ∧ SqT K H l xs ∧ xs ≠ [] ∧ 0 ≤ k ∧ k ≤ 1000 ∧ xs.length ≤ 1000 ∧ (k = 1 → Q (.ref l) H) ∧ (k ≠ 1 → ∀ p, H p = none → Q (.ref p) (upd H p (.tup (List.replicate k.toNat xs).flatten)))
theorem op_mulT {X : Cx} : OpR X (binaryOp .Mult) (rMulT X.K) := by
  intro pins s σ H x y v u Q I rx ry h
  obtain ⟨l, k, xs, rfl, rfl, hT, hne, h0, h1, hz, q1, q2⟩ := h
  by_cases h2 : 2 ≤ k
  · exact op_repT pins s σ H _ _ v u Q I rx ry ⟨l, k, xs, rfl, rfl, hT, hne, h2, h1, hz, q2 (by omega)⟩
  cases rx
  obtain ⟨t, rfl⟩ := ry
  obtain ⟨its, r, it, hs⟩ := Inv.tuple I hT
  have it' := it
  obtain ⟨⟨cls, dd, data, sl⟩, ho, hc, n, hd⟩ := it
  have hc : cls = _ := hc
  have hd : data = _ := hd
  subst hc
  subst hd
  have hty : s.TypeIs (.ref l) "tuple" := ⟨_, ho, rfl⟩
  refine wpAny_binaryOp_repeat_ref (T := "tuple") (U := "int") (by decide) hty (fun s' => typeIs_int _ _ _) noFill_tuple_mul F.fills_int_mul F.slot_int_rmul repeat_tuple F.slot_int_index.lookup ?_
  refine call_meets F.slot_int_rmul (typeIs_int _ _ _) F.entry_int_rmul (F.args_int_rmul_2 _ _) (int_rmul_tuple k t l its.toArray n dd sl) ⟨ho, rfl, hty, ?_⟩
  refine wpAny_call_entry F.slot_tuple_mul hty F.entry_tuple_mul ?_ (F.args_tuple_mul_2 _ _)
  have h01 : k = 0 ∨ k = 1 := by omega
  obtain ⟨y, ys, rfl⟩ : ∃ y ys, its = y :: ys := by
    cases its with
    | nil => exact absurd (by cases r; rfl) hne
    | cons y ys => exact ⟨y, ys, rfl⟩
  rcases h01 with rfl | rfl
  · refine wpAny_bind (m := asIndex _) (wpAny_pure ?_)
    refine wpAny_bind (m := Builtin.Tuple.tupleItemsOf _) (wpAny_tupleItemsOf ho rfl ?_)
    refine wpAny_bind (m := Builtin.Tuple.tupleExact #[]) (wpAny_newObj_type ?_)
    refine wpAny_pure ?_
    refine ⟨_, rfl, .ref s.heap.objs.size, upd H s.heap.objs.size (.tup []), I.laid (t' := s.toks) (fun b u h => Heap.get?_push_of_some _ h) (Nat.le_refl _) ?_, rfl, q2 (by decide) _ (I.hok.fresh (Nat.le_refl _))⟩
    exact ⟨Nat.zero_le _, [], .nil, IsTup.new _ _⟩
  · refine wpAny_bind (m := asIndex _) (wpAny_pure ?_)
    refine wpAny_bind (m := Builtin.Tuple.tupleItemsOf _) (wpAny_tupleItemsOf ho rfl ?_)
    refine wpAny_bind (m := Builtin.Tuple.tupleIsExact _) (wpAny_bind (wpAny_typeOf hty (wpAny_pure ?_)))
    refine wpAny_bind (m := rule _) (wpAny_rule ?_)
    exact wpAny_pure ⟨_, rfl, .ref l, H, I, rfl, q1 rfl⟩
/-! the reading -/
def fMulT : F2 := fun x y c Φ => match x, y with
  | .tup ds, .int n => ds ≠ [] ∧ 0 ≤ n ∧ n ≤ 1000 ∧ ds.length ≤ 1000 ∧ Φ (.tup (List.replicate n.toNat ds).flatten) c
  | _, _ => False
section
variable {X : Cx} {a b : Expr} {ta tb : TD} {pos : Pos}
theorem pd_mulT (ha : PD X a ta) (hb : PD X b tb) : PD X (.BinOp a .Mult b pos) (dBin fMulT ta tb) := PE.imp (pe_op op_mulT ha hb) fun σ H Q h => lift_bin (by
  intro x y c Φ h H m u v Cc r1 r2 Q k
  cases x <;> cases y <;> first | exact h.elim | skip
  obtain ⟨h1, h2, h3, h4, h5⟩ := h
  cases r2
  obtain ⟨p, xs, rfl, hp, rx⟩ := r1
  refine ⟨p, _, xs, rfl, rfl, ex_t (ex_hid m H) hp, fun z => h1 (by have := rlen rx; rw [z] at this; exact List.eq_nil_of_length_eq_zero this.symm), h2, h3, by rw [rlen rx]; exact h4, fun e => ?_, fun _ t ht => KQ.newT (X := X) k Cc h5 (rl_rep rx _) ht⟩
  subst e
  have z : (List.replicate (1 : Int).toNat ‹List D›).flatten = ‹List D› := by show ([_] : List (List D)).flatten = _; rw [List.flatten_cons]; exact List.append_nil _
  rw [z] at h5
  exact k.pure Cc h5 ⟨p, xs, rfl, hp, rx⟩) h
end
end Cw

namespace Cw
open PySem PySem.Spec PyProof.Rows L2

/-! ### a dict is locked, and unlocked -/
structure Exr (H H' : Hp) : Prop where
  rd : ∀ a u, (∀ od w, u ≠ .frz od w) → Rd H a u → Rd H' a u
  pl : ∀ a o, H a = some o → (∀ kvs, o ≠ .dK kvs) → (∀ od w, o ≠ .frz od w) → H' a = some o
theorem exr_t {K : PySem.W.Frag} {H H' : Hp} {a : Addr} {xs : List V} (e : Exr H H') (h : SqT K H a xs) : SqT K H' a xs := by
  rcases h with h | h
  · exact .inl (e.rd a _ (fun _ _ z => nomatch z) h)
  · exact .inr h
theorem exr_l {K : PySem.W.Frag} {H H' : Hp} {a : Addr} {xs : List V} (e : Exr H H') (h : SqL K H a xs) : SqL K H' a xs := by
  rcases h with h | h
  · exact .inl (e.rd a _ (fun _ _ z => nomatch z) h)
  · exact .inr h
section
variable {K : PySem.W.Frag} {m : List Addr} {H H' : Hp}
mutual
theorem R.mor (e : Exr H H') : ∀ (d : D) (v : V), R K m H d v → R K m H' d v
  | .non, _, h => h
  | .bl _, _, h => h
  | .int _, _, h => h
  | .str _, _, h => h
  | .tup ds, _, ⟨a, xs, e1, h1, h2⟩ => ⟨a, xs, e1, exr_t e h1, RL.mor e ds xs h2⟩
  | .lst ds, _, ⟨a, xs, e1, h1, h2⟩ => ⟨a, xs, e1, e.pl a _ h1 (fun _ z => nomatch z) (fun _ _ z => nomatch z), RL.mor e ds xs h2⟩
  | .fl ds, _, ⟨a, xs, e1, h1, h2⟩ => ⟨a, xs, e1, exr_l e h1, RL.mor e ds xs h2⟩
  | .cell k, _, ⟨a, h1, h2⟩ => ⟨a, h1, h2⟩
  | .ins _ _ ds, _, ⟨a, dx, fs, e1, h1, h2, h3⟩ => ⟨a, dx, fs, e1, e.pl a _ h1 (fun _ z => nomatch z) (fun _ _ z => nomatch z), h2, RL.mor e ds _ h3⟩
  | .dct _ ds, _, ⟨a, kvs, e1, h1, h2, h3⟩ => ⟨a, kvs, e1, e.rd a _ (fun _ _ z => nomatch z) h1, h2, RL.mor e ds _ h3⟩
  | .dcT _ ds, _, ⟨a, kvs, e1, h1, h2, h3⟩ => ⟨a, kvs, e1, e.pl a _ h1 (fun _ z => nomatch z) (fun _ _ z => nomatch z), h2, RL.mor e ds _ h3⟩
  | .raw _, _, h => h
theorem RL.mor (e : Exr H H') : ∀ (ds : List D) (xs : List V), RL K m H ds xs → RL K m H' ds xs
  | [], _, h => h
  | d :: ds, _, ⟨x, r, e1, h1, h2⟩ => ⟨x, r, e1, R.mor e d x h1, RL.mor e ds r h2⟩
end
end
theorem exr_lock {H : Hp} {a : Addr} {od : Obj} {kvs : List (Key × V)} (h : H a = some (.dK kvs)) : Exr H (upd H a (.frz od (.dK kvs))) := by
  refine ⟨fun b u hu r => ?_, fun b o e hk hf => ?_⟩
  · by_cases hb : b = a
    · subst hb
      rcases r with r | ⟨o, r⟩
      · rw [h] at r; cases r
        exact .inr ⟨od, upd_same⟩
      · rw [h] at r; cases r
    · rcases r with r | ⟨o, r⟩
      · exact .inl (by rw [upd_ne hb]; exact r)
      · exact .inr ⟨o, by rw [upd_ne hb]; exact r⟩
  · by_cases hb : b = a
    · subst hb; rw [h] at e; cases e; exact absurd rfl (hk kvs)
    · rw [upd_ne hb]; exact e
theorem exr_unlock {H : Hp} {a : Addr} {od : Obj} {kvs : List (Key × V)} (h : H a = some (.frz od (.dK kvs))) : Exr H (upd H a (.dK kvs)) := by
  refine ⟨fun b u hu r => ?_, fun b o e hk hf => ?_⟩
  · by_cases hb : b = a
    · subst hb
      rcases r with r | ⟨o, r⟩
      · rw [h] at r; cases r; exact absurd rfl (hu od _)
      · rw [h] at r; cases r
        exact .inl upd_same
    · rcases r with r | ⟨o, r⟩
      · exact .inl (by rw [upd_ne hb]; exact r)
      · exact .inr ⟨o, by rw [upd_ne hb]; exact r⟩
  · by_cases hb : b = a
    · subst hb; rw [h] at e; cases e; exact absurd rfl (hf od _)
    · rw [upd_ne hb]; exact e
section
variable {K : PySem.W.Frag} {m m' : Ad} {H H' : Hp} {σ : L2.St} {ρ : Env} {c c' : List Cell} {a : Addr} {u : HO}
theorem exr_hid (ha : a ∉ m.ix ∧ a ∉ m.hd) (e : ∀ G : Hp, G a = hid m H a → Exr G (upd G a u)) : Exr (hid m H) (hid m (upd H a u)) := by
  rw [hid_upd ha]; exact e _ rfl
theorem CR.mor (C : CR K H m c) (ha : a ∉ m.ix ∧ a ∉ m.hd) (e : Exr (hid m H) (hid m (upd H a u))) : CR K (upd H a u) m c := by
  refine ⟨C.len, C.nd, fun k ce h => ?_, fun b hb => ?_, C.dj⟩
  · obtain ⟨b, h1, h2⟩ := C.at_ k ce h
    have hb : b ≠ a := fun z => ha.1 (by rw [← z]; exact List.mem_of_getElem? h1)
    refine ⟨b, h1, ?_⟩
    cases ce with
    | lst ds => obtain ⟨xs, h3, h4⟩ := h2; exact ⟨xs, by rw [upd_ne hb]; exact h3, RL.mor e ds _ h4⟩
    | obj C' ns ds => obtain ⟨dx, fs, h3, h4, h5⟩ := h2; exact ⟨dx, fs, by rw [upd_ne hb]; exact h3, h4, RL.mor e ds _ h5⟩
    | dct ks ds => obtain ⟨kvs, h3, h4, h5⟩ := h2; exact ⟨kvs, by rw [upd_ne hb]; exact h3, h4, RL.mor e ds _ h5⟩
    | dcT ks ds => obtain ⟨kvs, h3, h4, h5⟩ := h2; exact ⟨kvs, by rw [upd_ne hb]; exact h3, h4, RL.mor e ds _ h5⟩
  · by_cases hb' : b = a
    · subst hb'; exact absurd hb ha.2
    · rw [upd_ne hb']; exact C.hs b hb
theorem SR.mor (S : SR K σ H m ρ c) (ha : a ∉ m.ix ∧ a ∉ m.hd) (e : Exr (hid m H) (hid m (upd H a u))) : SR K σ (upd H a u) m ρ c :=
  ⟨S.cr.mor ha e, S.len, fun i d h => let ⟨v, h1, h2⟩ := S.sl i d h; ⟨v, h1, R.mor e d v h2⟩⟩
end

/-! ### {k: v for x in d}, d a dict that stands -/
theorem walks_keys {K : PySem.W.Frag} {m : Ad} {H : Hp} {a : Addr} {od : Obj} {kvs : List (Key × V)} (h : hid m H a = some (.frz od (.dK kvs))) : Walks K (Itk a od kvs) m H ((kvs.map (·.1)).map kD) where
  go := fun i m' H' c' l C hi => ⟨(hid_some (l.ex a _ h)).2, by simpa using hi⟩
  stop := fun i m' H' c' l C hi => ⟨(hid_some (l.ex a _ h)).2, by simpa using hi⟩
  yld := fun i m' H' c' x H2 l C hi ⟨e, k, v, hk, hx⟩ => by
    subst e; subst hx
    refine ⟨kD k, ?_, C, Le.refl _ _, ?_⟩
    · rw [List.map_map, List.getElem?_map, hk]; rfl
    · cases k <;> rfl
def dDcK (i j : Nat) (tk tv : TD) : TD := fun ρ c Φ => ∃ ks ds, ρ[i]? = some (some (.dct ks ds)) ∧ dcD j dYes tk tv (ks.map kD) [] [] ρ c fun ls xs c2 => Φ (.dct ls xs) c2
section
variable {X : Cx} {kx vx : Expr} {tk tv : TD} {pos pp tp : Pos} {scope : Scope} {x y : Str} {i j : Nat}
theorem pd_dcK (hc : X.calm = true) (hN : X.N.Nodup) (ok : blkC X.N X.env.scope scope [(x, j)] = true)
    (hg : ∀ (s : Shared) (H : Hp) (C : Addr) (cl : List (Str × Addr)) (fp : List Addr), PG (X.blk s H scope (compEnvC scope cl C X.env) fp) (.Name x tp) (gName j))
    (hk : ∀ (s : Shared) (H : Hp) (C : Addr) (cl : List (Str × Addr)) (fp : List Addr), PD (X.blk s H scope (compEnvC scope cl C X.env) fp) kx tk)
    (he : ∀ (s : Shared) (H : Hp) (C : Addr) (cl : List (Str × Addr)) (fp : List Addr), PD (X.blk s H scope (compEnvC scope cl C X.env) fp) vx tv)
    (hy : X.N[i]? = some y := by rfl) (hv : Vis X.env.scope y := by first | exact Or.inl rfl | exact Or.inr (Or.inl rfl) | exact Or.inr (Or.inr rfl)) (hd : (y == ("__debug__" : Str)) = false := by decide)
    (hcd : (y == ("__classdict__" : Str)) = false := by decide) (hs : ∀ z, foldedSetIterable (.Name y pp) X.env z = pure z := by intro _; rfl) :
    PD X (.DictComp kx vx [⟨.Name x tp, .Name y pp, [], 0⟩] scope pos) (dDcK i j tk tv) := by
  have base := pe_dc (pos := pos) (own := [(x, j)]) (tt := liftT X.K dYes) (tk := lift X.K tk) (tv := lift X.K tv) hc hN (pi_keys (tg := .Name x tp) (pe_var (pos := pp) hy hv hd hcd)) (blkOk_by ok) hg (fun s H C cl fp => ptd_nil) hk he hs
  refine ⟨fun pins s σ H Q I ⟨m, ρ, c, Φ, S, ⟨ks, ds, e1, h⟩, q⟩ => ?_⟩
  obtain ⟨v, e2, a, kvs, rfl, h1, h2, h3⟩ := S.sl i _ e1
  subst h2
  rcases h1 with h1 | ⟨od, h1⟩
  · -- not locked yet
    have hna := (hid_some h1).1
    have hH := (hid_some h1).2
    refine (pe_lock base).run pins s σ H Q I ⟨a, .dK kvs, hH, trivial, fun od => ?_⟩
    have el : Exr (hid m H) (hid m (upd H a (.frz od (.dK kvs)))) := exr_hid hna fun G e => exr_lock (e.trans h1)
    have S1 := S.mor hna el
    have hl : hid m (upd H a (.frz od (.dK kvs))) a = some (.frz od (.dK kvs)) := by rw [hid_upd hna, upd_same]
    refine ⟨.ref a, e2, a, od, rfl, .inl ⟨kvs, upd_same, dc_walk (walks_keys hl) S1 h fun p ls xs c' H' h' C' R' l' => ?_⟩⟩
    have ha' := (hid_some (l'.ex a _ hl)).2
    have eu : Exr (hid m H') (hid m (upd H' a (.dK kvs))) := exr_hid hna fun G e => exr_unlock (e.trans (l'.ex a _ hl))
    refine ⟨ha', q (.dct ls xs) c' (.ref p) _ m h' (C'.mor hna eu) (R.mor eu _ _ R') ⟨fun _ _ e => e, fun b o e => ?_, rfl, fun b hb => ?_, fun _ h => .inl h, fun b hb => ?_⟩⟩
    · by_cases hb : b = a
      · subst hb; rw [h1] at e; cases e
        rw [hid_upd hna, upd_same]
      · rw [hid_upd hna, upd_ne hb]
        exact l'.ex b o (by rw [hid_upd hna, upd_ne hb]; exact e)
    · have hb' : b ≠ a := fun z => hna.2 (by rw [← z]; exact hb)
      rw [upd_ne hb', l'.hk b hb, upd_ne hb']
    · by_cases hb' : b = a
      · subst hb'; rw [upd_same] at hb; cases hb
      · rw [upd_ne hb'] at hb
        have := l'.al b hb
        rw [upd_ne hb'] at this; exact this
  · have hH := (hid_some h1).2
    refine base.run pins s σ H Q I ⟨.ref a, e2, a, od, rfl, .inl ⟨kvs, hH, dc_walk (walks_keys h1) S h fun p ls xs c' H' h' C' R' l' => q (.dct ls xs) c' (.ref p) H' m h' C' R' l'⟩⟩
end

/-! ### [e for a, b, .. in ..] -/
section
variable {α : Type}
def setAll : List Nat → List α → List (Option α) → List (Option α)
  | i :: is, x :: xs, ρ => setAll is xs (ρ.set i (some x))
  | _, _, ρ => ρ
theorem setAll_out {j : Nat} : ∀ {is : List Nat} {xs : List α} {ρ : List (Option α)}, j ∉ is → (setAll is xs ρ)[j]? = ρ[j]?
  | [], _, _, _ => rfl
  | _ :: _, [], _, _ => rfl
  | i :: is, x :: xs, ρ, h => by
    have h1 : i ≠ j := fun e => h (by rw [e]; exact List.mem_cons_self)
    have h2 : j ∉ is := fun m => h (List.mem_cons_of_mem _ m)
    show (setAll is xs (ρ.set i (some x)))[j]? = _
    rw [setAll_out h2, List.getElem?_set_ne h1]
theorem setAll_length : ∀ (is : List Nat) (xs : List α) (ρ : List (Option α)), (setAll is xs ρ).length = ρ.length
  | [], _, _ => rfl
  | _ :: _, [], _ => rfl
  | i :: is, x :: xs, ρ => by
    show (setAll is xs (ρ.set i (some x))).length = _
    rw [setAll_length, List.length_set]
end
def wipeE (ρ : Env) : List Nat → Env
  | [] => ρ
  | v :: vs => (wipeE ρ vs).set v none
theorem wipe_in {σ : L2.St} {j : Nat} : ∀ {vs : List Nat}, j ∈ vs → (wipe σ vs)[j]? = if j < σ.length then some none else none
  | v :: vs, h => by
    unfold wipe
    by_cases hv : v = j
    · subst hv
      rw [List.getElem?_set_self']
      by_cases hl : v < σ.length
      · rw [if_pos hl, List.getElem?_eq_getElem (by rw [wipe_length]; exact hl)]; rfl
      · rw [if_neg hl, List.getElem?_eq_none (by rw [wipe_length]; omega)]; rfl
    · rw [List.getElem?_set_ne hv]
      exact wipe_in ((List.mem_cons.mp h).resolve_left fun e => hv e.symm)
theorem wipe_setAll {σ : L2.St} {is : List Nat} {xs : List V} : wipe (setAll is xs (wipe σ is)) is = wipe σ is := by
  apply List.ext_getElem?
  intro j
  by_cases hj : j ∈ is
  · rw [wipe_in hj, wipe_in hj, setAll_length, wipe_length]
  · rw [wipe_out hj, setAll_out hj]
section
variable {K : PySem.W.Frag} {H : Hp} {m : Ad} {ρ : Env} {c : List Cell} {σ : L2.St}
theorem SR.wipes (S : SR K σ H m ρ c) : ∀ is : List Nat, SR K (L2.wipe σ is) H m (wipeE ρ is) c
  | [] => S
  | i :: is => by
    have S' := SR.wipes S is
    refine ⟨S'.cr, by unfold L2.wipe wipeE; rw [List.length_set, List.length_set]; exact S'.len, fun j d e => ?_⟩
    unfold wipeE at e
    by_cases hj : i = j
    · subst hj
      have hl := (List.getElem?_eq_some_iff.mp e).1
      rw [List.length_set] at hl
      rw [List.getElem?_set_self hl] at e
      cases e
    · rw [List.getElem?_set_ne hj] at e
      obtain ⟨w, h1, h2⟩ := S'.sl j d e
      exact ⟨w, by unfold L2.wipe; rw [List.getElem?_set_ne hj]; exact h1, h2⟩
theorem SR.setAlls : ∀ {is : List Nat} {es : List D} {xs : List V} {σ : L2.St} {ρ : Env}, SR K σ H m ρ c → RRL K H m es xs → SR K (Cw.setAll is xs σ) H m (Cw.setAll is es ρ) c
  | [], _, _, _, _, S, _ => S
  | _ :: _, [], _, _, _, S, r => by cases (show _ = [] from r); exact S
  | i :: is, e :: es, _, σ', ρ', S, ⟨x, r, e1, h1, h2⟩ => by
    subst e1
    show SR K (Cw.setAll is r (σ'.set i (some x))) H m (Cw.setAll is es (ρ'.set i (some e))) c
    exact SR.setAlls (S.set h1) h2
end
def gNms : List Nat → TGs
  | [] => gNil
  | i :: is => gCons (gName i) (gNms is)
theorem gNms_run {Q : L2.St → Hp → Prop} {H : Hp} : ∀ {is : List Nat} {xs : List V} {σ : L2.St}, xs.length = is.length → Q (setAll is xs σ) H → gNms is xs σ H Q
  | [], [], _, _, q => ⟨rfl, q⟩
  | [], _ :: _, _, h, _ => by cases h
  | _ :: _, [], _, h, _ => by cases h
  | i :: is, x :: xs, σ, h, q => ⟨x, xs, rfl, gNms_run (by simpa using h) q⟩
def lcT (is : List Nat) (tt : TDt) (te : TD) : List D → List D → Env → List Cell → (List D → List Cell → Prop) → Prop
  | [], acc, _, c, Φ => okCs c.length c = true ∧ okDs c.length acc = true ∧ Φ acc c
  | d :: ds, acc, ρ, c, Φ => ∃ es, d = .tup es ∧ es.length = is.length ∧ tt (setAll is es (wipeE ρ is)) (c ++ [.lst acc]) fun b c2 => match b with
    | true => te (setAll is es (wipeE ρ is)) c2 fun y c3 => acc.length < sizeLine ∧ inner c.length acc y c3 fun c4 => lcT is tt te ds (acc ++ [y]) ρ c4 Φ
    | false => inner c.length acc .non c2 fun c4 => lcT is tt te ds acc ρ c4 Φ
def dLcT (ti : TDs) (is : List Nat) (tt : TDt) (te : TD) : TD := fun ρ c Φ => ti ρ c fun ds c1 => lcT is tt te ds [] ρ c1 fun xs c2 => Φ (.lst xs) c2
theorem lcT_walk {K : PySem.W.Frag} {J : It} {m : Ad} {H1 : Hp} {ds : List D} {σ : L2.St} {ρ : Env} {c : List Cell} {is : List Nat} {tt : TDt} {te : TD} {Φ : List D → List Cell → Prop} {Qd : Addr → Hp → Prop} (wk : Walks K J m H1 ds) (S : SR K σ H1 m ρ c) (h : lcT is tt te ds [] ρ c Φ)
    (q : ∀ p xs c' H', Φ xs c' → CR K H' m c' → RR K H' m (.lst xs) (.ref p) → Le m H1 m H' → Qd p H') : ∀ p, H1 p = none → ∃ W : Nat → Nat → Hp → Prop, (∃ mm, W 0 mm (upd H1 p (.lst []))) ∧ ∀ j mm H, W j mm H →
      (J.stop j H ∧ Qd p H) ∨ (J.go j H ∧ ∃ Nx : Hp → Prop, (∀ H', Nx H' → ∃ m', m' < mm ∧ W (j + 1) m' H') ∧ ∀ x H', J.yld j H x H' → L2.gTup K is.length (gNms is) x (wipe σ is) H' fun σ2 H2 => wipe σ2 is = wipe σ is ∧ liftT K tt σ2 H2 fun b H3 =>
        if b = true then lift K te σ2 H3 fun y H4 => ∃ acc, H4 p = some (.lst acc) ∧ acc.length < sizeLine ∧ Nx (upd H4 p (.lst (acc ++ [y]))) else Nx H3) := by
  intro p hp
  have z0 := cell_new (ce := .lst []) (o := .lst []) S.cr hp ⟨[], upd_same, rfl⟩
  refine ⟨fun j mm H => mm = ds.length - j ∧ j ≤ ds.length ∧ ∃ c' acc, c'.length = c.length ∧ CR K H (m.push p) (c' ++ [.lst acc]) ∧ Le m H1 (m.push p) H ∧ lcT is tt te (ds.drop j) acc ρ c' Φ,
    ⟨ds.length, by simp, Nat.zero_le _, c, [], rfl, z0.1, z0.2.1, by simpa using h⟩, ?_⟩
  rintro j mm H ⟨rfl, hj, c', acc, hl, C, l, hf⟩
  by_cases hlt : j < ds.length
  · have wk' := wk
    refine .inr ⟨wk.go j (m.push p) H _ l C hlt, fun H' => ∃ c' acc, c'.length = c.length ∧ CR K H' (m.push p) (c' ++ [.lst acc]) ∧ Le m H1 (m.push p) H' ∧ lcT is tt te (ds.drop (j + 1)) acc ρ c' Φ, fun H' w => ⟨ds.length - (j + 1), by omega, rfl, hlt, w⟩, fun x H2 y => ?_⟩
    obtain ⟨d, hd, C2, l2, rx⟩ := wk.yld j (m.push p) H _ x H2 l C hlt y
    have e : ds.drop j = d :: ds.drop (j + 1) := by
      rw [List.drop_eq_getElem_cons hlt]
      congr 1
      have := List.getElem?_eq_getElem hlt
      rw [hd] at this
      exact (Option.some.inj this).symm
    rw [e] at hf
    have L2 := l.trans l2
    obtain ⟨es, ed, hes, hf⟩ := hf
    subst ed
    obtain ⟨a, xs, rfl, ht, rl⟩ := rx
    have hxs : xs.length = is.length := by rw [rlen rl, hes]
    have S2 : SR K (setAll is xs (wipe σ is)) H2 (m.push p) (setAll is es (wipeE ρ is)) (c' ++ [.lst acc]) := ((S.step L2 C2).wipes is).setAlls rl
    refine ⟨a, xs, rfl, ex_t (ex_hid _ _) ht, hxs, gNms_run hxs ⟨wipe_setAll, m.push p, _, _, _, S2, hf, fun b c2 H3 m3 hb C3 l3 => ?_⟩⟩
    have hmn : (m.push p).ix.length = c'.length + 1 := by
      have := C2.len
      simp at this
      exact this
    cases b with
    | false =>
      dsimp only
      rw [if_neg (by decide)]
      obtain ⟨z1, _, z2, z3, z4⟩ := inner_ok (v := .non) hmn hb C3 rfl l3
      exact ⟨c2.take c'.length, acc, by rw [z4, hl], z1, L2.trans z2, z3⟩
    | true =>
      dsimp only
      rw [if_pos rfl]
      refine ⟨m3, _, c2, _, S2.step l3 C3, hb, fun y c3 v H4 m4 hy C4 R4 l4 => ?_⟩
      obtain ⟨hsz, hin⟩ := hy
      obtain ⟨z1, z5, z2, z3, z4⟩ := inner_ok hmn hin C4 R4 (l3.trans l4)
      obtain ⟨a', h5, xs', h6, h7⟩ := z1.at_ c'.length (.lst acc) (by rw [List.getElem?_append_right (by omega), z4]; simp)
      have last : (m.push p).ix[c'.length]? = some p := by
        show (m.ix ++ [p])[c'.length]? = some p
        rw [hl, ← S.cr.len]; simp
      rw [last] at h5; cases h5
      refine ⟨xs', h6, by rw [rlen h7]; exact hsz, ?_⟩
      have hm : p ∈ (m.push p).ix := List.mem_of_getElem? last
      have z := cell_put (o := .lst (xs' ++ [v])) (ce := .lst (acc ++ [y])) z1 last ⟨_, upd_same, by show RL _ _ (hid (m.push p) _) _ _; rw [hid_mut hm]; exact RL.append h7 ⟨v, [], rfl, z5, rfl⟩⟩
      have ec : (c3.take c'.length ++ [Cell.lst acc]).set c'.length (.lst (acc ++ [y])) = c3.take c'.length ++ [.lst (acc ++ [y])] := by
        rw [List.set_append_right _ _ (by omega), z4]; simp
      rw [ec] at z
      exact ⟨c3.take c'.length, acc ++ [y], by rw [z4, hl], z.1, (L2.trans z2).trans z.2, z3⟩
  · have ej : j = ds.length := by omega
    subst ej
    rw [List.drop_length] at hf
    obtain ⟨h1, h2, h3⟩ := hf
    obtain ⟨C', _, ⟨xs, h4, h5⟩, hp1, hp2⟩ := C.pop h1
    refine .inl ⟨wk.stop _ (m.push p) H _ l C (Nat.le_refl _), q p acc c' H h3 C' ⟨p, xs, rfl, by rw [hid_of ⟨hp1, hp2⟩]; exact h4, RL.low ex_pop (low_push C'.len) acc xs h2 h5⟩ ⟨fun _ _ e => e, l.ex.trans ex_pop, rfl, l.hk, fun _ h => .inl h, l.al⟩⟩
section
variable {X : Cx} {iter elt : Expr} {te : TD} {tt : TDt} {pos tp : Pos} {ti : TDs} {ifs : List Expr} {scope : Scope} {own : List (Str × Nat)} {elts : List Expr} {kk : Nat}
theorem pd_lcT (hc : X.calm = true) (hN : X.N.Nodup) (hi : PID X (.Tuple elts kk tp) iter ti) (ok : blkC X.N X.env.scope scope own = true)
    (hg : ∀ (s : Shared) (H : Hp) (C : Addr) (cl : List (Str × Addr)) (fp : List Addr), PG (X.blk s H scope (compEnvC scope cl C X.env) fp) (.Tuple elts kk tp) (L2.gTup X.K (own.map (·.2)).length (gNms (own.map (·.2)))))
    (ht : ∀ (s : Shared) (H : Hp) (C : Addr) (cl : List (Str × Addr)) (fp : List Addr), PTD (X.blk s H scope (compEnvC scope cl C X.env) fp) ifs tt)
    (he : ∀ (s : Shared) (H : Hp) (C : Addr) (cl : List (Str × Addr)) (fp : List Addr), PD (X.blk s H scope (compEnvC scope cl C X.env) fp) elt te) (hs : ∀ x, foldedSetIterable iter X.env x = pure x := by intro _; rfl) :
    PD X (.ListComp elt [⟨.Tuple elts kk tp, iter, ifs, 0⟩] scope pos) (dLcT ti (own.map (·.2)) tt te) :=
  PE.imp (pe_lc (own := own) (te := lift X.K te) (tt := liftT X.K tt) hc hN hi (blkOk_by ok) hg ht he hs) fun σ H Q ⟨m, ρ, c, Φ, S, h, q⟩ =>
    ⟨m, ρ, c, _, S, h, fun ds c1 J H1 m1 hx C1 wk L1 => lcT_walk wk (S.step L1 C1) hx fun p xs c' H' h' C' R' l' => q _ c' _ H' m1 h' C' R' (L1.trans l')⟩
end
theorem lcT_filter {is : List Nat} {tt : TDt} {te : TD} {ρ : Env} {c : List Cell} {Φ : List D → List Cell → Prop} (tu : D → List D) (g : D → Bool) (f : D → D) (hc : okCs c.length c = true) : ∀ (ds acc : List D),
    (∀ d ∈ ds, d = .tup (tu d) ∧ (tu d).length = is.length ∧ ∀ acc (Ψ : Bool → List Cell → Prop), okDs c.length acc = true → Ψ (g d) (c ++ [.lst acc]) → tt (setAll is (tu d) (wipeE ρ is)) (c ++ [.lst acc]) Ψ) →
    (∀ d ∈ ds, g d = true → okD c.length (f d) = true ∧ ∀ acc (Ψ : D → List Cell → Prop), okDs c.length acc = true → Ψ (f d) (c ++ [.lst acc]) → te (setAll is (tu d) (wipeE ρ is)) (c ++ [.lst acc]) Ψ) →
    okDs c.length acc = true → acc.length + ds.length ≤ sizeLine → Φ (acc ++ (ds.filter g).map f) c → lcT is tt te ds acc ρ c Φ
  | [], acc, _, _, h, _, q => ⟨hc, h, by simpa using q⟩
  | d :: ds, acc, ht, he, h, hl, q => by
    have hl' : acc.length + (ds.length + 1) ≤ sizeLine := hl
    obtain ⟨e1, e2, e3⟩ := ht d List.mem_cons_self
    refine ⟨tu d, e1, e2, e3 acc _ h ?_⟩
    cases hg : g d with
    | true =>
      show te _ _ _
      obtain ⟨hk, hte⟩ := he d List.mem_cons_self hg
      refine hte acc _ h ⟨by omega, inner_same ?_⟩
      refine lcT_filter tu g f hc ds _ (fun x hx => ht x (List.mem_cons_of_mem _ hx)) (fun x hx => he x (List.mem_cons_of_mem _ hx)) (okDs_app h (okDs_one hk)) (by rw [List.length_append]; show acc.length + 1 + ds.length ≤ _; omega) ?_
      rw [List.filter_cons_of_pos (by rw [hg])] at q
      simpa using q
    | false =>
      show inner _ _ _ _ _
      refine inner_same ?_
      refine lcT_filter tu g f hc ds _ (fun x hx => ht x (List.mem_cons_of_mem _ hx)) (fun x hx => he x (List.mem_cons_of_mem _ hx)) h (by omega) ?_
      rw [List.filter_cons_of_neg (by rw [hg]; decide)] at q
      exact q
end Cw

namespace Cw
open PySem PySem.Spec PyProof.Rows L2

/-! ### min(xs), max(xs) of a list of ints -/
theorem rl_ints {K : PySem.W.Frag} {m : List Addr} {H : Hp} : ∀ {ns : List Int} {xs : List V}, RL K m H (ns.map D.int) xs → xs = ns.map V.int
  | [], _, h => h
  | n :: ns, _, ⟨x, r, e1, h1, h2⟩ => by
    subst e1
    have := rl_ints h2
    subst this
    cases (show x = V.int n from h1)
    rfl
def fMin1 : F1 := fun x c Φ => ∃ ns : List Int, x = .lst (ns.map .int) ∧ 0 < ns.length ∧ ∀ m, m ∈ ns → (∀ y, y ∈ ns → m ≤ y) → Φ (.int m) c
def fMax1 : F1 := fun x c Φ => ∃ ns : List Int, x = .lst (ns.map .int) ∧ 0 < ns.length ∧ ∀ m, m ∈ ns → (∀ y, y ∈ ns → y ≤ m) → Φ (.int m) c
theorem l1_min1 {K : PySem.W.Frag} : L1f K fMin1 (fun u H Q => rMin K [u] H Q) := by
  intro x c Φ ⟨ns, e, hp, h⟩ H m u C r Q q
  subst e
  obtain ⟨a, xs, rfl, h1, h2⟩ := r
  have := rl_ints h2
  subst this
  exact ⟨a, ns, rfl, SqL.of h1, hp, fun m h3 h4 => q.pure C (h m h3 h4) rfl⟩
theorem l1_max1 {K : PySem.W.Frag} : L1f K fMax1 (fun u H Q => rMax K [u] H Q) := by
  intro x c Φ ⟨ns, e, hp, h⟩ H m u C r Q q
  subst e
  obtain ⟨a, xs, rfl, h1, h2⟩ := r
  have := rl_ints h2
  subst this
  exact ⟨a, ns, rfl, SqL.of h1, hp, fun m h3 h4 => q.pure C (h m h3 h4) rfl⟩
section
variable {X : Cx} {e e2 o a b : Expr} {ta tb : TD} {pos pp apos : Pos}
theorem pd_min1 (hc : X.calm = true) (ha : PD X e ta) (hm : X.mg "min" = none) (hg : Gl X "min" := by rfl) (he : starEach [e] X.env = (false, eval e X.env) :: starEach [] X.env := by rfl) (hpl : (backTo pos (starEach [] X.env)).any (·.1) = false := by rfl) :
    PD X (.Call (.Name "min" pp) [e] [] pos) (dCB (un1 fMin1) (dCons ta dNil)) := pd_B1 (cr_min hc) l1_min1 boot_min (by decide) (by decide) ha hg hm he hpl
theorem pd_max1 (hc : X.calm = true) (ha : PD X e ta) (hm : X.mg "max" = none) (hg : Gl X "max" := by rfl) (he : starEach [e] X.env = (false, eval e X.env) :: starEach [] X.env := by rfl) (hpl : (backTo pos (starEach [] X.env)).any (·.1) = false := by rfl) :
    PD X (.Call (.Name "max" pp) [e] [] pos) (dCB (un1 fMax1) (dCons ta dNil)) := pd_B1 (cr_max hc) l1_max1 boot_max (by decide) (by decide) ha hg hm he hpl

/-! ### xs + ys as a new list that stands -/
def fAddL : F2 := fun x y c Φ => match x, y with
  | .lst xs, .lst ys => xs.length + ys.length ≤ sizeLine ∧ Φ (.lst (xs ++ ys)) c
  | _, _ => False
theorem pd_addL (ha : PD X a ta) (hb : PD X b tb) : PD X (.BinOp a .Add b pos) (dBin fAddL ta tb) := PE.imp (pe_op op_cat ha hb) fun σ H Q h => lift_bin (by
  intro x y c Φ h H m u v C r1 r2 Q q
  cases x <;> cases y <;> first | exact h.elim | skip
  obtain ⟨p1, us, rfl, h1, q1⟩ := r1
  obtain ⟨p2, ws, rfl, h2, q2⟩ := r2
  refine ⟨p1, p2, us, ws, rfl, rfl, h1, h2, by rw [rlen q1, rlen q2]; exact h.1, fun p hp => ?_⟩
  exact KQ.newL (X := X) q C h.2 (RL.append q1 q2) hp) h
/-! ### xs[::-1] of a list -/
def dRevL (te : TD) : TD := fun ρ c Φ => te ρ c fun d c1 => match vw c1 d with
  | .lst ds => Φ (.lst ds.reverse) c1
  | _ => False
theorem pd_revL {k : Nat} {p1 p2 p3 : Pos} (he : PD X e ta) : PD X (.Subscript e (.Slice none none (some (.UnaryOp .USub (.Constant (.int 1) k p1) p2)) p3) pos) (dRevL ta) :=
  PE.imp (pe_revL he) fun σ H Q ⟨m, ρ, c, Φ, S, h, q⟩ => ⟨m, ρ, c, _, S, h, fun d c1 u H1 m1 hx C1 R1 L1 => by
    have w := W.vw C1 R1
    revert hx w
    generalize vw c1 d = d'
    intro hx w
    cases d' <;> first | exact hx.elim | skip
    obtain ⟨a, xs, rfl, h1, h2⟩ := w
    exact ⟨a, xs, rfl, SqL.of h1, fun p hp => KQ.newL (X := X) (KQ.le (K := X.K) q L1) C1 hx (RL.reverse h2) hp⟩⟩

/-! ### == of dicts of ints -/
def lookI : List Key → List Int → Key → Option Int
  | k :: ks, i :: is, q => if k = q then some i else lookI ks is q
  | _, _, _ => none
theorem lookI_val : ∀ {kvs : List (Key × V)} {is : List Int} {q : Key}, kvs.map (·.2) = is.map V.int → valV kvs q = (lookI (kvs.map (·.1)) is q).map V.int
  | [], is, q, h => by
    cases is with
    | nil => rfl
    | cons _ _ => cases h
  | (k, v) :: kvs, is, q, h => by
    cases is with
    | nil => cases h
    | cons i is =>
      injection h with h1 h2
      have h1 : v = V.int i := h1
      subst h1
      show _ = (if k = q then some i else lookI (kvs.map (·.1)) is q).map V.int
      by_cases e : k = q
      · rw [if_pos e]; unfold valV; rw [List.find?_cons_of_pos (by simpa using e)]; rfl
      · rw [if_neg e, ← lookI_val h2]; unfold valV; rw [List.find?_cons_of_neg (by simpa using e)]
/-- whether a dict's pairs stand in another one -/
def sameI (ls : List Key) (js : List Int) : List Key → List Int → Bool
  | k :: ks, i :: is => decide (lookI ls js k = some i) && sameI ls js ks is
  | _, _ => true
theorem hits_int {A : Around} {s : Shared} {kvs : List (Key × V)} {vb : List (Key × Value)} {js : List Int} (rb : KV kvs vb) (hj : kvs.map (·.2) = js.map V.int) : ∀ {ks : List (Key × V)} {va : List (Key × Value)} {is : List Int}, KV ks va → ks.map (·.2) = is.map V.int →
    (∀ k ∈ ks.map (·.1), ∃ j, lookI (kvs.map (·.1)) js k = some j) → PySem.W.KeqHits A s vb va (sameI (kvs.map (·.1)) js (ks.map (·.1)) is) := by
  intro ks va is ra
  unfold KV at ra
  induction ra generalizing is with
  | nil => intro _ _; exact .nil
  | @cons p q ps qs h t ih =>
    intro e hk
    cases is with
    | nil => cases e
    | cons i is =>
      injection e with e1 e2
      have e1 : p.2 = V.int i := e1
      obtain ⟨h1, h2⟩ := h
      obtain ⟨j, hjk⟩ := hk p.1 List.mem_cons_self
      have hv := lookI_val (q := p.1) hj
      rw [hjk] at hv
      have rr : RelO (some (V.int j)) (valueAt vb p.1) := by
        have := rb.val p.1
        rw [hv] at this; exact this
      obtain ⟨y, hy, ry⟩ := rr.some_of
      obtain ⟨k, v⟩ := q
      have h1' : p.1 = k := h1
      rw [h1'] at hy
      have h2 : RelV p.2 v := h2
      rw [e1] at h2
      obtain ⟨t1, rfl⟩ := (show ∃ t, v = Value.int i t from h2)
      obtain ⟨t2, rfl⟩ := (show ∃ t, y = Value.int j t from ry)
      have hd : sameI (kvs.map (·.1)) js (p.1 :: ps.map (·.1)) (i :: is) = ((i == j) && sameI (kvs.map (·.1)) js (ps.map (·.1)) is) := by
        show (decide (lookI (kvs.map (·.1)) js p.1 = some i) && _) = _
        rw [hjk]
        congr 1
        by_cases e : i = j
        · subst e; simp
        · rw [decide_eq_false (fun z => e (Option.some.inj z).symm)]; simp [e]
      show PySem.W.KeqHits A s vb ((k, _) :: qs) (sameI (kvs.map (·.1)) js (p.1 :: ps.map (·.1)) (i :: is))
      rw [hd]
      exact .hit hy (SeqAt.EqAt.int_int _ _ _ _) (ih e2 fun k' hk' => hk k' (List.mem_cons_of_mem _ hk'))
def rEqDI : R2 := fun x y H Q => ∃ a b ks ls is js, x = .ref a ∧ y = .ref b ∧ Rd H a (.dK ks) ∧ Rd H b (.dK ls) ∧ ks.map (·.2) = is.map V.int ∧ ls.map (·.2) = js.map V.int ∧ ks.length = ls.length ∧ (∀ k ∈ ks.map (·.1), ∃ j, lookI (ls.map (·.1)) js k = some j) ∧ Q (.bl (sameI (ls.map (·.1)) js (ks.map (·.1)) is)) H
theorem rd_ok {X : Cx} {pins : List (Addr × Obj)} {σ : L2.St} {H : Hp} {s : Shared} {a : Addr} {u : HO} (I : Inv X pins σ H s) (h : Rd H a u) : ObjOk X.prog X.w H s.heap a u := by
  rcases h with h | ⟨o, h⟩
  · exact I.hok a _ h
  · exact (show _ ∧ ObjOk X.prog X.w H s.heap a u from I.hok a _ h).2
theorem op_eqDI (hu : X.A.units < cLine) : OpR X (compareOp .Eq) rEqDI := by
  intro pins s σ H x y v u Q I rx ry h
  obtain ⟨a, b, ks, ls, is, js, rfl, rfl, ea, eb, hi, hj, hlen, hk, q⟩ := h
  obtain rfl : v = Value.ref a := rx
  obtain rfl : u = Value.ref b := ry
  obtain ⟨_, ya, va, ra, da⟩ := (show ObjOk X.prog X.w H s.heap a (.dK ks) from rd_ok I ea)
  obtain ⟨_, yb, vb, rb, db⟩ := (show ObjOk X.prog X.w H s.heap b (.dK ls) from rd_ok I eb)
  have hl : va.length = vb.length := by rw [← ra.length, ← rb.length]; exact hlen
  refine PySem.W.keq_eq (knd := mixKind X.prog X.w) (r := sameI (ls.map (·.1)) js (ks.map (·.1)) is) ya yb da db hu (fun _ => hits_int rb hj ra hi hk) (fin_bl I q (by simp [hl]))
def fEqDI : F2 := fun x y c Φ => ∃ ks ls is js, x = .dct ks (is.map .int) ∧ y = .dct ls (js.map .int) ∧ ks.length = ls.length ∧ (∀ k ∈ ks, ∃ j, lookI ls js k = some j) ∧ Φ (.bl (sameI ls js ks is)) c
theorem l2_eqDI {K : PySem.W.Frag} : L2f K fEqDI rEqDI := by
  intro x y c Φ ⟨ks, ls, is, js, e1, e2, hl, hk, h⟩ H m u v C r1 r2 Q q
  subst e1; subst e2
  obtain ⟨a, kvs, rfl, h1, h2, h3⟩ := r1
  obtain ⟨b, lvs, rfl, h4, h5, h6⟩ := r2
  subst h2; subst h5
  exact ⟨a, b, kvs, lvs, is, js, rfl, rfl, h1, h4, rl_ints h3, rl_ints h6, by simpa using hl, hk, q.pure C h rfl⟩
theorem pd_eqDI {k : Nat} (hr : Room k X.A) (ha : PD X a ta) (hb : PD X b tb) : PD X (.Compare a [.Eq] [b] pos) (dBin fEqDI ta tb) := PE.imp (pe_cmpR (op_eqDI (by have := hr.un; omega)) ha hb (nomark _)) fun σ H Q h => lift_bin l2_eqDI h

/-! ### xs[i] += e, xs a mutable list of the def -/
theorem get_list : PGet X (rIxL X.K) := by
  intro pins s σ H x y v u Q I rx ry h
  obtain ⟨p, xs, i, z, rfl, rfl, hq, he, q⟩ := h
  cases rx
  obtain ⟨t, rfl⟩ := ry
  obtain ⟨its, r, pl, hz⟩ := I.list hq
  obtain ⟨j, h1, h2, h3, h4, h5⟩ := atI_get he
  obtain ⟨w, ew, rw'⟩ := r.get h2
  have hl := r.length
  have hn := line63
  have fin : EP X pins σ Q w s := ⟨z, H, I, rw', q⟩
  by_cases h0 : 0 ≤ i
  · have hj : i.toNat = j := by
      rw [seqIndex_of h0 h5] at h1
      exact Option.some.inj h1
    exact wpAny_getItem_list pl.isList h0 (by omega) (by rw [hj]; simpa using ew) fin
  · have hj : (i + (its.toArray.size : Int)).toNat = j := by
      rw [seqIndex_neg (by omega) h4] at h1
      rw [List.size_toArray, ← hl]
      exact Option.some.inj h1
    exact wpAny_getItem_list_neg pl.isList (by omega) (by rw [List.size_toArray] <;> omega) (by omega) (by rw [hj]; simpa using ew) fin
def dAugS (to ti te : TD) : TSD := fun De ρ c => to ρ c fun o c1 => ti ρ c1 fun y c2 => ∃ k i ds j n, o = .cell k ∧ y = .int i ∧ c2[k]? = some (.lst ds) ∧ L2.atI ds i = some (.int n) ∧ ixN ds.length i = some j ∧ te ρ c2 fun z c3 => ∃ n', z = .int n' ∧ c3[k]? = some (.lst ds) ∧ De.nx ρ (c3.set k (.lst (ds.set j (.int (n + n')))))
theorem psd_augS {i : Expr} {ti te : TD} {tpos : Pos} (ho : PD X o ta) (hi : PD X i ti) (he : PD X e te)
    (ha : ∀ ov iv new, augStore i ov iv new = (do holding [new, ov, iv] (setItem ov iv new); release [new, ov, iv] []; pure .next) := by intros; rfl) : PSD X (.AugAssign (.Subscript o i tpos) .Add e pos) (dAugS ta ti te) :=
  PS.imp (ps_augS ho hi get_list he ip_add L2.set_list ha) fun Dn σ H ⟨m, ρ, c, De, S, h, n, r, b, kk⟩ =>
  ⟨m, ρ, c, _, S, h, fun x c1 u H1 m1 hx C1 R1 L1 => ⟨m1, ρ, c1, _, S.step L1 C1, hx, fun y c2 v H2 m2 hy C2 R2 l2 => by
    obtain ⟨k, i', ds, j, n', rfl, rfl, hk, hat, hj, hte⟩ := hy
    obtain ⟨a, h1, rfl⟩ := R1
    cases (show v = V.int i' from R2)
    obtain ⟨b', h2, xs, h3, h4⟩ := C2.at_ k _ hk
    rw [l2.pre k a h1] at h2; cases h2
    have hv : L2.atI xs i' = some (.int n') := by
      unfold L2.atI at hat ⊢
      rw [rlen h4]
      rw [hj] at hat ⊢
      have hat : ds[j]? = some (.int n') := hat
      obtain ⟨w, e1, e2⟩ := RL.get h4 hat
      cases (show w = V.int n' from e2)
      exact e1
    refine ⟨a, xs, i', _, rfl, rfl, SqL.of h3, hv, m2, ρ, c2, _, S.step (L1.trans l2) C2, hte, fun z c3 w H3 m3 hz C3 R3 L3 => ?_⟩
    obtain ⟨n2, rfl, hk3, hn⟩ := hz
    cases (show w = V.int n2 from R3)
    obtain ⟨b2, h5, ys, h6, h7⟩ := C3.at_ k _ hk3
    have hka := L3.pre k a (l2.pre k a h1)
    rw [hka] at h5; cases h5
    refine ⟨n', n2, rfl, rfl, a, ys, i', j, rfl, rfl, h6, by rw [rlen h7]; exact hj, ?_⟩
    have hm : a ∈ m3.ix := List.mem_of_getElem? hka
    have zz := cell_put (o := .lst (ys.set j (.int (n' + n2)))) (ce := .lst (ds.set j (.int (n' + n2)))) C3 hka ⟨_, upd_same, by show RL _ _ (hid m3 _) _ _; rw [hid_mut hm]; exact RL.set (d := D.int (n' + n2)) (x := V.int (n' + n2)) rfl j h7⟩
    exact n σ _ m3 ρ _ hn ((S.step ((L1.trans l2).trans L3) C3).step zz.2 zz.1) (((L1.trans l2).trans L3).trans zz.2)⟩⟩
/-! ### whether a list has items -/
def dTruL (ta : TD) : TDt := fun ρ c Φ => ta ρ c fun x c1 => match vw c1 x with
  | .lst ds => Φ (!ds.isEmpty) c1
  | _ => False
theorem pdt_truL (ha : PD X e ta) (he : ∀ whole, isTrue e X.env whole = (do let v ← whole; standAt e.pos; holding [v] (truthy v)) := by intro _; rfl) : PDt X e (dTruL ta) :=
  PT.imp (pt_truth ha he) fun σ H Q ⟨m, ρ, c, Φ, S, h, q⟩ => ⟨m, ρ, c, _, S, h, fun d c1 u H1 m1 hx C1 R1 L1 => by
    have w := W.vw C1 R1
    revert hx w
    generalize vw c1 d = d'
    intro hx w
    cases d' <;> first | exact hx.elim | skip
    obtain ⟨a, xs, rfl, h1, h2⟩ := w
    refine ⟨!xs.isEmpty, .inl ⟨xs, SqL.of h1, rfl⟩, ?_⟩
    have hl := rlen h2
    rename_i ds
    have : (!xs.isEmpty) = !ds.isEmpty := by
      cases xs <;> cases ds <;> first | rfl | (simp at hl)
    rw [this]
    exact q _ c1 H1 m1 hx C1 L1⟩

/-! ### o.m(e, ..), o an instance that stands -/
def dMeth (C : Addr) (f : Str) (S : Pm) (np : Nat) (ta : TD) (tas : TDs) : TD := fun ρ c Φ => ta ρ c fun x c1 => ∃ ns ds, x = .ins C ns ds ∧ lookF f ns ds = none ∧ tas ρ c1 fun es c2 => es.length + 1 = np ∧ callP S (x :: es) c2 Φ
theorem look_no {f : Str} : ∀ {fs : List (Str × V)} {ds : List D}, fs.length = ds.length → lookF f (fs.map (·.1)) ds = none → fs.lookup f = none
  | [], _, _, _ => rfl
  | (n, v) :: fs, [], h, _ => by cases h
  | (n, v) :: fs, d :: ds, h, e => by
    unfold lookF at e
    simp only [List.map_cons] at e
    by_cases hn : f = n
    · rw [if_pos hn] at e; cases e
    · rw [if_neg hn] at e
      have hb : (f == n) = false := by simpa using hn
      simp only [List.lookup, hb]
      exact look_no (by simpa using h) e
theorem pd_meth {CX : CXT} {k np : Nat} {f C : Addr} {fd : FuncData} {ps : List Str} {S : Pm} {E : XK} {m : Str} {es : List Expr} {tas : TDs} {pl : Sem Bool} (cl : Cls X.K C) (hf : PySem.W.findIn X.K (.ref C) m = some (some (.ref f))) (hfn : PySem.W.isFn X.K (.ref f) = true) (hkp : PySem.W.keepIn X.K (.ref f) = true)
    (F : FnOk X.prog X.w X.K X.mg X.base CX k f fd ps (spD X.K 0 np S)) (hr : Room k X.A) (hb : Binds X.K fd ps []) (hx : Passes CX X E) (ho : PD X o ta) (ha : PDs X (e :: es) tas)
    (hst : starEach (e :: es) X.env = (false, eval e X.env) :: starEach es X.env := by rfl) (hpl : (backTo pos (starEach es X.env)).any (·.1) = false := by rfl)
    (ht : eval (.Call (.Attribute o m apos) (e :: es) [] pos) X.env = (do
      let ov ← eval o X.env
      standAt apos.atName
      let (f, first) ← holding [ov] (getMethod ov m pl)
      callWith pos f first (backTo pos (starEach (e :: es) X.env)) (backToKw pos (keywordEach [] X.env))) := by rfl) :
    PD X (.Call (.Attribute o m apos) (e :: es) [] pos) (dMeth C m S np ta tas) :=
  PE.imp (pe_meth ho cl ⟨hf, hfn, hkp⟩ F hr hb .nil hx ha hst hpl ht) fun σ H Q ⟨m', ρ, c, Φ, S', h, q⟩ =>
  ⟨m', ρ, c, _, S', h, fun x c1 u H1 m1 hx C1 R1 L1 => by
    obtain ⟨ns, ds, rfl, hno, hx⟩ := hx
    obtain ⟨a, dx, fs, rfl, h1, h2, h3⟩ := W.of R1
    have hl : fs.length = ds.length := by have := rlen h3; rw [List.length_map] at this; exact this
    subst h2
    refine ⟨a, dx, fs, rfl, h1, look_no hl hno, m1, ρ, c1, _, S'.step L1 C1, hx, fun es' c2 vs H2 m2 hy C2 R2 L2 => ?_⟩
    show spD _ _ _ _ (_ :: (_ ++ [])) _ _ _
    rw [List.append_nil]
    have rr : RRL X.K H2 m2 (.ins C (fs.map (·.1)) ds :: es') (.ref a :: vs) := ⟨.ref a, vs, rfl, L2.r R1, R2⟩
    exact sp_pure C2 rr (by simpa using hy.1) hy.2 (KQ.le (K := X.K) q (L1.trans L2))⟩
end
end Cw

namespace Cw
open PySem PySem.Spec PyProof.Rows L2

/-! ### {k: [..] for x in ..}: the new dict is mutable, the values may be -/
def dcC (i : Nat) (tk tv : TD) (n : Nat) : List D → Env → List Cell → (List Cell → Prop) → Prop
  | [], _, C, Φ => Φ C
  | d :: ds, ρ, C, Φ => tk (ρ.set i (some d)) C fun y C1 => tv (ρ.set i (some d)) C1 fun z C2 => ∃ k ks acc, y = kD k ∧ C2[n]? = some (.dct ks acc) ∧ k ∉ ks ∧ acc.length < sizeLine ∧ dcC i tk tv n ds ρ (C2.set n (.dct (ks ++ [k]) (acc ++ [z]))) Φ
def dDcC (ti : TDs) (i : Nat) (tk tv : TD) : TD := fun ρ c Φ => ti ρ c fun ds c1 => dcC i tk tv c1.length ds ρ (c1 ++ [.dct [] []]) fun C => Φ (.cell c1.length) C
theorem dcC_walk {K : PySem.W.Frag} {J : It} {m : Ad} {H1 : Hp} {ds : List D} {σ : L2.St} {ρ : Env} {c : List Cell} {i : Nat} {tk tv : TD} {Φ : List Cell → Prop} {Qd : Addr → Hp → Prop} (wk : Walks K J m H1 ds) (S : SR K σ H1 m ρ c) (h : dcC i tk tv c.length ds ρ (c ++ [.dct [] []]) Φ)
    (q : ∀ p C H' m', Φ C → CR K H' m' C → m'.ix[c.length]? = some p → Le m H1 m' H' → Qd p H') : ∀ p, H1 p = none → ∃ W : Nat → Nat → Hp → Prop, (∃ mm, W 0 mm (upd H1 p (.dK []))) ∧ ∀ j mm H, W j mm H →
      (J.stop j H ∧ Qd p H) ∨ (J.go j H ∧ ∃ Nx : Hp → Prop, (∀ H', Nx H' → ∃ m', m' < mm ∧ W (j + 1) m' H') ∧ ∀ x H', J.yld j H x H' → gName i x (wipe σ [i]) H' fun σ2 H2 => wipe σ2 [i] = wipe σ [i] ∧ liftT K dYes σ2 H2 fun b H3 =>
        if b = true then lift K tk σ2 H3 fun y H4 => lift K tv σ2 H4 fun z H5 => ∃ kvs k, y = kV k ∧ H5 p = some (.dK kvs) ∧ kvs.length < sizeLine ∧ Nx (upd H5 p (.dK (putK kvs k z))) else Nx H3) := by
  intro p hp
  have z0 := cell_new (ce := .dct [] []) (o := .dK []) S.cr hp ⟨[], upd_same, rfl, rfl⟩
  have last : (m.push p).ix[c.length]? = some p := by
    show (m.ix ++ [p])[c.length]? = some p
    rw [← S.cr.len]; simp
  refine ⟨fun j mm H => mm = ds.length - j ∧ j ≤ ds.length ∧ ∃ m' C, Le (m.push p) (upd H1 p (.dK [])) m' H ∧ CR K H m' C ∧ dcC i tk tv c.length (ds.drop j) ρ C Φ,
    ⟨ds.length, by simp, Nat.zero_le _, m.push p, _, Le.refl _ _, z0.1, by simpa using h⟩, ?_⟩
  rintro j mm H ⟨rfl, hj, m', C, l, Cr, hf⟩
  have L := z0.2.1.trans l
  by_cases hlt : j < ds.length
  · refine .inr ⟨wk.go j m' H _ L Cr hlt, fun H' => ∃ m' C, Le (m.push p) (upd H1 p (.dK [])) m' H' ∧ CR K H' m' C ∧ dcC i tk tv c.length (ds.drop (j + 1)) ρ C Φ, fun H' w => ⟨ds.length - (j + 1), by omega, rfl, hlt, w⟩, fun x H2 y => ?_⟩
    obtain ⟨d, hd, C2, l2, rx⟩ := wk.yld j m' H _ x H2 L Cr hlt y
    have e : ds.drop j = d :: ds.drop (j + 1) := by
      rw [List.drop_eq_getElem_cons hlt]
      congr 1
      have := List.getElem?_eq_getElem hlt
      rw [hd] at this
      exact (Option.some.inj this).symm
    rw [e] at hf
    have S2 : SR K ((wipe σ [i]).set i (some x)) H2 m' (ρ.set i (some d)) C := (S.step (L.trans l2) C2).blk rx
    refine ⟨by rw [wipe1, wipe1, List.set_set, List.set_set], m', _, _, (fun b c2 => match b with
      | true => tk (ρ.set i (some d)) c2 fun y C1 => tv (ρ.set i (some d)) C1 fun z C2 => ∃ k ks acc, y = kD k ∧ C2[c.length]? = some (.dct ks acc) ∧ k ∉ ks ∧ acc.length < sizeLine ∧ dcC i tk tv c.length (ds.drop (j + 1)) ρ (C2.set c.length (.dct (ks ++ [k]) (acc ++ [z]))) Φ
      | false => False), S2, hf, fun b c2 H3 m3 hb C3 l3 => ?_⟩
    cases b with
    | false => exact hb.elim
    | true =>
      dsimp only
      rw [if_pos rfl]
      refine ⟨m3, _, c2, _, S2.step l3 C3, hb, fun y c3 v H4 m4 hy C4 R4 l4 => ⟨m4, _, c3, _, S2.step (l3.trans l4) C4, hy, fun z c4 v5 H5 m5 hz C5 R5 l5 => ?_⟩⟩
      obtain ⟨k, ks, acc, ek, hat, hk, hsz, hn⟩ := hz
      subst ek
      have ev := kD_v R4
      have lB := l.trans (l2.trans (l3.trans (l4.trans l5)))
      have hpn := lB.pre _ _ last
      obtain ⟨a, h5, kvs, h6, h7, h8⟩ := C5.at_ _ _ hat
      rw [hpn] at h5; cases h5
      have hkl : kvs.length = acc.length := by have := rlen h8; rw [List.length_map] at this; exact this
      refine ⟨kvs, k, ev, h6, by rw [hkl]; exact hsz, ?_⟩
      have hm : p ∈ m5.ix := List.mem_of_getElem? hpn
      have hput : putK kvs k v5 = kvs ++ [(k, v5)] := putK_new v5 (kv_none (by rw [h7]; exact hk))
      rw [hput]
      have zz := cell_put (o := .dK (kvs ++ [(k, v5)])) (ce := .dct (ks ++ [k]) (acc ++ [z])) C5 hpn ⟨_, upd_same, by rw [List.map_append, h7]; rfl, by
        show RL _ _ (hid m5 _) _ _
        rw [hid_mut hm, List.map_append]
        exact RL.append h8 ⟨v5, [], rfl, R5, rfl⟩⟩
      exact ⟨m5, _, lB.trans zz.2, zz.1, hn⟩
  · have ej : j = ds.length := by omega
    subst ej
    rw [List.drop_length] at hf
    exact .inl ⟨wk.stop _ m' H _ L Cr (Nat.le_refl _), q p C H m' hf Cr (l.pre _ _ last) L⟩
section
variable {X : Cx} {iter kx vx : Expr} {tk tv : TD} {pos pp tp : Pos} {ti : TDs} {scope : Scope} {x y : Str} {i j : Nat}
/-- y = {k: [..] for x in ..} -/
theorem psd_setDcC {spos py : Pos} (hc : X.calm = true) (hN : X.N.Nodup) (hy : X.N[j]? = some y) (hyl : X.env.scope.names.lookup y = some .local)
    (hsw : swapsWith (.DictComp kx vx [⟨.Name x tp, iter, [], 0⟩] scope pos) (some (.Name y py)) spos.line X.env = pure true)
    (hi : PID X (.Name x tp) iter ti) (ok : blkC X.N X.env.scope scope [(x, i)] = true)
    (hg : ∀ (s : Shared) (H : Hp) (C : Addr) (cl : List (Str × Addr)) (fp : List Addr), PG (X.blk s H scope (compEnvC scope cl C X.env) fp) (.Name x tp) (gName i))
    (hk : ∀ (s : Shared) (H : Hp) (C : Addr) (cl : List (Str × Addr)) (fp : List Addr), PD (X.blk s H scope (compEnvC scope cl C X.env) fp) kx tk)
    (he : ∀ (s : Shared) (H : Hp) (C : Addr) (cl : List (Str × Addr)) (fp : List Addr), PD (X.blk s H scope (compEnvC scope cl C X.env) fp) vx tv) (hs : ∀ x, foldedSetIterable iter X.env x = pure x := by intro _; rfl) :
    PSD X (.Assign [.Name y py] (.DictComp kx vx [⟨.Name x tp, iter, [], 0⟩] scope pos) spos) (dSet j (dDcC ti i tk tv)) :=
  PS.imp (ps_setDc (i := j) (own := [(x, i)]) (tt := liftT X.K dYes) (tk := lift X.K tk) (tv := lift X.K tv) hc hN hy hyl hsw hi (blkOk_by ok) hg (fun _ _ _ _ _ => ptd_nil) hk he hs) fun Dn σ H ⟨m, ρ, c, De, S, h, n, r, b, k⟩ =>
    ⟨m, ρ, c, _, S, h, fun ds c1 J H1 m1 hx C1 wk L1 => dcC_walk wk (S.step L1 C1) hx fun p C H' m' h' C' hp l' => n _ H' m' _ C h' ((S.step (L1.trans l') C').set (d := .cell c1.length) ⟨p, hp, rfl⟩) (L1.trans l')⟩
end
theorem dc_map2 {α : Type} {i : Nat} {tk tv : TD} {ρ : Env} {c : List Cell} {Φ : List Key → List D → List Cell → Prop} (d : α → D) (key : α → Key) (val : α → D) (hc : okCs c.length c = true) : ∀ (xs : List α) (ks : List Key) (acc : List D),
    (∀ x ∈ xs, okD c.length (val x) = true ∧ ∀ ks acc (Ψ : D → List Cell → Prop), okDs c.length acc = true → (Ψ (kD (key x)) (c ++ [.dct ks acc]) → tk (ρ.set i (some (d x))) (c ++ [.dct ks acc]) Ψ) ∧ (Ψ (val x) (c ++ [.dct ks acc]) → tv (ρ.set i (some (d x))) (c ++ [.dct ks acc]) Ψ)) →
    (ks ++ xs.map key).Nodup → okDs c.length acc = true → acc.length + xs.length ≤ sizeLine → Φ (ks ++ xs.map key) (acc ++ xs.map val) c → dcD i dYes tk tv (xs.map d) ks acc ρ c Φ
  | [], ks, acc, _, _, h, _, q => ⟨hc, h, by simpa using q⟩
  | x :: xs, ks, acc, he, nd, h, hl, q => by
    have hl' : acc.length + (xs.length + 1) ≤ sizeLine := hl
    obtain ⟨hk, ht⟩ := he x List.mem_cons_self
    refine (ht ks acc _ h).1 ?_
    refine (ht ks acc _ h).2 ?_
    refine ⟨key x, rfl, fun z => ?_, by omega, innerD_same ?_⟩
    · rw [List.map_cons] at nd
      exact (List.nodup_append.mp nd).2.2 _ z _ List.mem_cons_self rfl
    · refine dc_map2 d key val hc xs _ _ (fun y hy => he y (List.mem_cons_of_mem _ hy)) (by rw [List.append_assoc]; exact nd) (okDs_app h (okDs_one hk)) (by rw [List.length_append]; show acc.length + 1 + xs.length ≤ _; omega) ?_
      rw [List.append_assoc, List.append_assoc]
      exact q
theorem lcT_over {α : Type} {is : List Nat} {tt : TDt} {te : TD} {ρ : Env} {c : List Cell} {Φ : List D → List Cell → Prop} (tu : α → List D) (g : α → Bool) (f : α → D) (hc : okCs c.length c = true) : ∀ (xs : List α) (acc : List D),
    (∀ a ∈ xs, (tu a).length = is.length ∧ ∀ acc (Ψ : Bool → List Cell → Prop), okDs c.length acc = true → Ψ (g a) (c ++ [.lst acc]) → tt (setAll is (tu a) (wipeE ρ is)) (c ++ [.lst acc]) Ψ) →
    (∀ a ∈ xs, g a = true → okD c.length (f a) = true ∧ ∀ acc (Ψ : D → List Cell → Prop), okDs c.length acc = true → Ψ (f a) (c ++ [.lst acc]) → te (setAll is (tu a) (wipeE ρ is)) (c ++ [.lst acc]) Ψ) →
    okDs c.length acc = true → acc.length + xs.length ≤ sizeLine → Φ (acc ++ (xs.filter g).map f) c → lcT is tt te (xs.map fun a => .tup (tu a)) acc ρ c Φ
  | [], acc, _, _, h, _, q => ⟨hc, h, by simpa using q⟩
  | d :: ds, acc, ht, he, h, hl, q => by
    have hl' : acc.length + (ds.length + 1) ≤ sizeLine := hl
    obtain ⟨e2, e3⟩ := ht d List.mem_cons_self
    refine ⟨tu d, rfl, e2, e3 acc _ h ?_⟩
    cases hg : g d with
    | true =>
      show te _ _ _
      obtain ⟨hk, hte⟩ := he d List.mem_cons_self hg
      refine hte acc _ h ⟨by omega, inner_same ?_⟩
      refine lcT_over tu g f hc ds _ (fun x hx => ht x (List.mem_cons_of_mem _ hx)) (fun x hx => he x (List.mem_cons_of_mem _ hx)) (okDs_app h (okDs_one hk)) (by rw [List.length_append]; show acc.length + 1 + ds.length ≤ _; omega) ?_
      rw [List.filter_cons_of_pos (by rw [hg])] at q
      simpa using q
    | false =>
      show inner _ _ _ _ _
      refine inner_same ?_
      refine lcT_over tu g f hc ds _ (fun x hx => ht x (List.mem_cons_of_mem _ hx)) (fun x hx => he x (List.mem_cons_of_mem _ hx)) h (by omega) ?_
      rw [List.filter_cons_of_neg (by rw [hg]; decide)] at q
      exact q
/-- the cells of lists behind a dict -/
def lsC (xs : List (List D)) : List Cell := xs.map .lst
def ixD (n : Nat) (k : Nat) : List D := (List.range k).map fun j => .cell (n + 1 + j)
theorem ixD_add (n k : Nat) : ixD n (k + 1) = ixD n k ++ [.cell (n + 1 + k)] := by
  unfold ixD; rw [List.range_succ, List.map_append]; rfl
/-- each turn's value is a new list -/
theorem dcC_plain {α : Type} {i n : Nat} {tk tv : TD} {ρ : Env} {c : List Cell} {Φ : List Cell → Prop} (hn : c.length = n) (d : α → D) (key : α → Key) (val : α → List D) : ∀ (xs ys : List α),
    (∀ x ∈ xs, ∀ (C : List Cell) (Ψ : D → List Cell → Prop), (Ψ (kD (key x)) C → tk (ρ.set i (some (d x))) C Ψ) ∧ (Ψ (.cell C.length) (C ++ [.lst (val x)]) → tv (ρ.set i (some (d x))) C Ψ)) →
    ((ys ++ xs).map key).Nodup → ys.length + xs.length < sizeLine → Φ (c ++ .dct ((ys ++ xs).map key) (ixD n (ys ++ xs).length) :: lsC ((ys ++ xs).map val)) → dcC i tk tv n (xs.map d) ρ (c ++ .dct (ys.map key) (ixD n ys.length) :: lsC (ys.map val)) Φ
  | [], ys, _, _, _, q => by
    rw [List.append_nil] at q
    exact q
  | x :: xs, ys, he, nd, hl, q => by
    have hl' : ys.length + (xs.length + 1) < sizeLine := hl
    refine (he x List.mem_cons_self _ _).1 ?_
    refine (he x List.mem_cons_self _ _).2 ?_
    have e1 : (c ++ Cell.dct (ys.map key) (ixD n ys.length) :: lsC (ys.map val)).length = n + 1 + ys.length := by
      rw [List.length_append, List.length_cons]; unfold lsC; rw [List.length_map, List.length_map]; omega
    refine ⟨key x, ys.map key, ixD n ys.length, rfl, ?_, ?_, by unfold ixD; rw [List.length_map, List.length_range]; omega, ?_⟩
    · rw [List.append_assoc, List.getElem?_append_right (by omega), hn, Nat.sub_self]; rfl
    · intro z
      rw [List.map_append, List.map_cons] at nd
      exact (List.nodup_append.mp nd).2.2 _ z _ List.mem_cons_self rfl
    · have e2 : ((c ++ Cell.dct (ys.map key) (ixD n ys.length) :: lsC (ys.map val)) ++ [Cell.lst (val x)]).set n (.dct (ys.map key ++ [key x]) (ixD n ys.length ++ [.cell (c ++ Cell.dct (ys.map key) (ixD n ys.length) :: lsC (ys.map val)).length])) = c ++ .dct ((ys ++ [x]).map key) (ixD n (ys ++ [x]).length) :: lsC ((ys ++ [x]).map val) := by
        rw [e1, List.append_assoc, List.set_append_right _ _ (by omega), hn, Nat.sub_self]
        show c ++ (.dct (ys.map key ++ [key x]) _ :: (lsC (ys.map val) ++ [Cell.lst (val x)])) = _
        rw [List.length_append, List.length_cons, List.length_nil, ixD_add, List.map_append, List.map_append]
        unfold lsC
        rw [List.map_append]; rfl
      show dcC i tk tv n (xs.map d) ρ (List.set ((c ++ Cell.dct (ys.map key) (ixD n ys.length) :: lsC (ys.map val)) ++ [Cell.lst (val x)]) n _) Φ
      rw [e2]
      refine dcC_plain hn d key val xs (ys ++ [x]) (fun y hy => he y (List.mem_cons_of_mem _ hy)) (by rw [List.append_assoc]; exact nd) (by rw [List.length_append]; show ys.length + 1 + xs.length < _; omega) (by rw [List.append_assoc]; exact q)
end Cw

namespace Cw
open PySem PySem.Spec PyProof.Rows L2

/-! ### divmod by a wide divisor -/
def fDivmodW : F2
  | .int i, .int j, c, Φ => (0 < j ∧ j < 1000000000000000000000000000000000000) ∧ Φ (.tup [.int (i / j), .int (i % j)]) c
  | _, _, _, _ => False
theorem divp_wide {i j : Int} (h : 0 < j ∧ j < 1000000000000000000000000000000000000) : CDivP i j := by
  refine ⟨h.1, PyProof.noPylong_of_log2 ?_⟩
  have h1 : j.natAbs < 2 ^ 150 := by
    have : (2 : Nat) ^ 150 = 1427247692705959881058285969449495136382746624 := by decide
    omega
  have h0 : j.natAbs ≠ 0 := by omega
  have h2 := (Nat.log2_lt h0).2 h1
  omega
section
variable {X : Cx} {e e2 : Expr} {ta tb : TD} {pos pp : Pos}
theorem l2_divmodW {X : Cx} : L2f X.K fDivmodW (fun u v H Q => ∃ i j, [u, v] = [.int i, .int j] ∧ CDivP i j ∧ ∀ p, H p = none → Q (.ref p) (upd H p (.tup [.int (i / j), .int (i % j)]))) := by
  intro x y c Φ h H m u v C r1 r2 Q q
  cases x <;> cases y <;> first | exact h.elim | skip
  cases (show u = _ from r1); cases (show v = _ from r2)
  exact ⟨_, _, rfl, divp_wide h.1, fun t ht => KQ.newT (X := X) q C h.2 ⟨_, _, rfl, rfl, _, _, rfl, rfl, rfl⟩ ht⟩
theorem pd_divmodW (ha : PD X e ta) (hb : PD X e2 tb) (hm : X.mg "divmod" = none) (hg : Gl X "divmod" := by rfl) (he : starEach [e, e2] X.env = (false, eval e X.env) :: starEach [e2] X.env := by rfl) (he2 : starEach [e2] X.env = (false, eval e2 X.env) :: starEach [] X.env := by rfl) (hpl : (backTo pos (starEach [e2] X.env)).any (·.1) = false := by rfl) :
    PD X (.Call (.Name "divmod" pp) [e, e2] [] pos) (dCB (un2 fDivmodW) (dCons ta (dCons tb dNil))) := pd_B2 call_divmodW l2_divmodW boot_divmod (by decide) (by decide) ha hb hg hm he he2 hpl
end
end Cw

namespace Cw
open PySem PySem.Spec PyProof.Rows L2
/-! ### sum(xs) of a list of ints -/
def fSum1 : F1 := fun x c Φ => ∃ ns : List Int, x = .lst (ns.map .int) ∧ Φ (.int ns.sum) c
theorem l1_sum1 {K : PySem.W.Frag} : L1f K fSum1 (fun u H Q => rSum K [u] H Q) := by
  intro x c Φ ⟨ns, e, h⟩ H m u C r Q q
  subst e
  obtain ⟨a, xs, rfl, h1, h2⟩ := r
  have := rl_ints h2
  subst this
  exact ⟨a, ns, rfl, SqL.of h1, q.pure C h rfl⟩
section
variable {X : Cx} {e e2 o a b : Expr} {ta tb : TD} {pos pp apos : Pos}
theorem pd_sum1 (hc : X.calm = true) (ha : PD X e ta) (hm : X.mg "sum" = none) (hg : Gl X "sum" := by rfl) (he : starEach [e] X.env = (false, eval e X.env) :: starEach [] X.env := by rfl) (hpl : (backTo pos (starEach [] X.env)).any (·.1) = false := by rfl) :
    PD X (.Call (.Name "sum" pp) [e] [] pos) (dCB (un1 fSum1) (dCons ta dNil)) := pd_B1 (cr_sum hc) l1_sum1 boot_sum (by decide) (by decide) ha hg hm he hpl
end
end Cw

namespace Cw
open PySem PySem.Spec PyProof.Rows L2
/-! ### [e for x in xs if ..] over a mutable list that stands -/
structure WalksC (K : PySem.W.Frag) (J : It) (m : Ad) (H : Hp) (ds : List D) (k : Nat) (all : List D) : Prop where
  go : ∀ (i : Nat) m' H' c', Le m H m' H' → CR K H' m' c' → c'[k]? = some (.lst all) → i < ds.length → J.go i H'
  stop : ∀ (i : Nat) m' H' c', Le m H m' H' → CR K H' m' c' → c'[k]? = some (.lst all) → ds.length ≤ i → J.stop i H'
  yld : ∀ (i : Nat) m' H' c' x H2, Le m H m' H' → CR K H' m' c' → c'[k]? = some (.lst all) → i < ds.length → J.yld i H' x H2 → ∃ d, ds[i]? = some d ∧ CR K H2 m' c' ∧ Le m' H' m' H2 ∧ RR K H2 m' d x
theorem walksC_cell {K : PySem.W.Frag} {m : Ad} {H : Hp} {k : Nat} {a : Addr} {all : List D} (ha : m.ix[k]? = some a) : WalksC K (Itl K a) m H all k all := by
  have here : ∀ {m' H' c'}, Le m H m' H' → CR K H' m' c' → c'[k]? = some (.lst all) → ∃ xs, H' a = some (.lst xs) ∧ RRL K H' m' all xs := fun {m' H' c'} l C e => by
    obtain ⟨b, h1, xs, h2, h3⟩ := C.at_ k _ e
    rw [l.pre k a ha] at h1; cases h1
    exact ⟨xs, h2, h3⟩
  refine ⟨fun i m' H' c' l C e hi => ?_, fun i m' H' c' l C e hi => ?_, fun i m' H' c' x H2 l C e hi y => ?_⟩
  · obtain ⟨xs, h1, r⟩ := here l C e
    obtain ⟨d, x, _, h2, _⟩ := RL.at r hi
    exact ⟨xs, x, SqL.of h1, h2⟩
  · obtain ⟨xs, h1, r⟩ := here l C e
    exact ⟨xs, SqL.of h1, by rw [rlen r]; exact hi⟩
  · obtain ⟨e2, y⟩ := y
    subst e2
    obtain ⟨xs, h1, r⟩ := here l C e
    obtain ⟨d, z, h3, h4, h5⟩ := RL.at r hi
    have := y xs (SqL.of h1)
    rw [h4] at this; cases this
    exact ⟨d, h3, C, Le.refl _ _, h5⟩
def lcK (k : Nat) (all : List D) (i : Nat) (tt : TDt) (te : TD) : List D → List D → Env → List Cell → (List D → List Cell → Prop) → Prop
  | [], acc, _, c, Φ => c[k]? = some (.lst all) ∧ okCs c.length c = true ∧ okDs c.length acc = true ∧ Φ acc c
  | d :: ds, acc, ρ, c, Φ => c[k]? = some (.lst all) ∧ tt (ρ.set i (some d)) (c ++ [.lst acc]) fun b c2 => match b with
    | true => te (ρ.set i (some d)) c2 fun y c3 => acc.length < sizeLine ∧ inner c.length acc y c3 fun c4 => lcK k all i tt te ds (acc ++ [y]) ρ c4 Φ
    | false => inner c.length acc .non c2 fun c4 => lcK k all i tt te ds acc ρ c4 Φ
def dLcC (ta : TD) (i : Nat) (tt : TDt) (te : TD) : TD := fun ρ c Φ => ta ρ c fun x c1 => ∃ k all, x = .cell k ∧ c1[k]? = some (.lst all) ∧ lcK k all i tt te all [] ρ c1 fun xs c2 => Φ (.lst xs) c2
/-- the loop of a comprehension -/
theorem lc_walkC {K : PySem.W.Frag} {J : It} {k : Nat} {all : List D} {m : Ad} {H1 : Hp} {ds : List D} {σ : L2.St} {ρ : Env} {c : List Cell} {i : Nat} {tt : TDt} {te : TD} {Φ : List D → List Cell → Prop} {Qd : Addr → Hp → Prop} (wk : WalksC K J m H1 ds k all) (S : SR K σ H1 m ρ c) (h : lcK k all i tt te ds [] ρ c Φ)
    (q : ∀ p xs c' H', Φ xs c' → CR K H' m c' → RR K H' m (.lst xs) (.ref p) → Le m H1 m H' → Qd p H') : ∀ p, H1 p = none → ∃ W : Nat → Nat → Hp → Prop, (∃ mm, W 0 mm (upd H1 p (.lst []))) ∧ ∀ j mm H, W j mm H →
      (J.stop j H ∧ Qd p H) ∨ (J.go j H ∧ ∃ Nx : Hp → Prop, (∀ H', Nx H' → ∃ m', m' < mm ∧ W (j + 1) m' H') ∧ ∀ x H', J.yld j H x H' → gName i x (wipe σ [i]) H' fun σ2 H2 => wipe σ2 [i] = wipe σ [i] ∧ liftT K tt σ2 H2 fun b H3 =>
        if b = true then lift K te σ2 H3 fun y H4 => ∃ acc, H4 p = some (.lst acc) ∧ acc.length < sizeLine ∧ Nx (upd H4 p (.lst (acc ++ [y]))) else Nx H3) := by
  intro p hp
  have z0 := cell_new (ce := .lst []) (o := .lst []) S.cr hp ⟨[], upd_same, rfl⟩
  -- the state behind a number of turns
  refine ⟨fun j mm H => mm = ds.length - j ∧ j ≤ ds.length ∧ ∃ c' acc, c'.length = c.length ∧ CR K H (m.push p) (c' ++ [.lst acc]) ∧ Le m H1 (m.push p) H ∧ lcK k all i tt te (ds.drop j) acc ρ c' Φ,
    ⟨ds.length, by simp, Nat.zero_le _, c, [], rfl, z0.1, z0.2.1, by simpa using h⟩, ?_⟩
  rintro j mm H ⟨rfl, hj, c', acc, hl, C, l, hf⟩
  by_cases hlt : j < ds.length
  · have hk : (c' ++ [Cell.lst acc])[k]? = some (.lst all) := by
      rw [List.drop_eq_getElem_cons hlt] at hf
      rw [List.getElem?_append_left (List.getElem?_eq_some_iff.mp hf.1).1]; exact hf.1
    refine .inr ⟨wk.go j (m.push p) H _ l C hk hlt, fun H' => ∃ c' acc, c'.length = c.length ∧ CR K H' (m.push p) (c' ++ [.lst acc]) ∧ Le m H1 (m.push p) H' ∧ lcK k all i tt te (ds.drop (j + 1)) acc ρ c' Φ, fun H' w => ⟨ds.length - (j + 1), by omega, rfl, hlt, w⟩, fun x H2 y => ?_⟩
    obtain ⟨d, hd, C2, l2, rx⟩ := wk.yld j (m.push p) H _ x H2 l C hk hlt y
    have e : ds.drop j = d :: ds.drop (j + 1) := by
      rw [List.drop_eq_getElem_cons hlt]
      congr 1
      have := List.getElem?_eq_getElem hlt
      rw [hd] at this
      exact (Option.some.inj this).symm
    rw [e] at hf
    obtain ⟨_, hf⟩ := hf
    have L2 := l.trans l2
    have S2 : SR K ((wipe σ [i]).set i (some x)) H2 (m.push p) (ρ.set i (some d)) (c' ++ [.lst acc]) := (S.step L2 C2).blk rx
    refine ⟨by rw [wipe1, wipe1, List.set_set, List.set_set], m.push p, _, _, _, S2, hf, fun b c2 H3 m3 hb C3 l3 => ?_⟩
    have hmn : (m.push p).ix.length = c'.length + 1 := by
      have := C2.len
      simp at this
      exact this
    cases b with
    | false =>
      dsimp only
      rw [if_neg (by decide)]
      obtain ⟨z1, _, z2, z3, z4⟩ := inner_ok (v := .non) hmn hb C3 rfl l3
      exact ⟨c2.take c'.length, acc, by rw [z4, hl], z1, L2.trans z2, z3⟩
    | true =>
      dsimp only
      rw [if_pos rfl]
      refine ⟨m3, _, c2, _, S2.step l3 C3, hb, fun y c3 v H4 m4 hy C4 R4 l4 => ?_⟩
      obtain ⟨hsz, hin⟩ := hy
      obtain ⟨z1, z5, z2, z3, z4⟩ := inner_ok hmn hin C4 R4 (l3.trans l4)
      obtain ⟨a, h5, xs, h6, h7⟩ := z1.at_ c'.length (.lst acc) (by rw [List.getElem?_append_right (by omega), z4]; simp)
      have last : (m.push p).ix[c'.length]? = some p := by
        show (m.ix ++ [p])[c'.length]? = some p
        rw [hl, ← S.cr.len]; simp
      rw [last] at h5; cases h5
      refine ⟨xs, h6, by rw [rlen h7]; exact hsz, ?_⟩
      have hm : p ∈ (m.push p).ix := List.mem_of_getElem? last
      have z := cell_put (o := .lst (xs ++ [v])) (ce := .lst (acc ++ [y])) z1 last ⟨_, upd_same, by show RL _ _ (hid (m.push p) _) _ _; rw [hid_mut hm]; exact RL.append h7 ⟨v, [], rfl, z5, rfl⟩⟩
      have ec : (c3.take c'.length ++ [Cell.lst acc]).set c'.length (.lst (acc ++ [y])) = c3.take c'.length ++ [.lst (acc ++ [y])] := by
        rw [List.set_append_right _ _ (by omega), z4]; simp
      rw [ec] at z
      exact ⟨c3.take c'.length, acc ++ [y], by rw [z4, hl], z.1, (L2.trans z2).trans z.2, z3⟩
  · have ej : j = ds.length := by omega
    subst ej
    rw [List.drop_length] at hf
    obtain ⟨hk, h1, h2, h3⟩ := hf
    have hk' : (c' ++ [Cell.lst acc])[k]? = some (.lst all) := by
      rw [List.getElem?_append_left (List.getElem?_eq_some_iff.mp hk).1]; exact hk
    obtain ⟨C', _, ⟨xs, h4, h5⟩, hp1, hp2⟩ := C.pop h1
    refine .inl ⟨wk.stop _ (m.push p) H _ l C hk' (Nat.le_refl _), q p acc c' H h3 C' ⟨p, xs, rfl, by rw [hid_of ⟨hp1, hp2⟩]; exact h4, RL.low ex_pop (low_push C'.len) acc xs h2 h5⟩ ⟨fun _ _ e => e, l.ex.trans ex_pop, rfl, l.hk, fun _ h => .inl h, l.al⟩⟩
section
variable {X : Cx} {tg iter e elt : Expr} {ta te : TD} {tt : TDt} {pos pp tp : Pos} {ifs : List Expr} {scope : Scope} {x y : Str} {i j : Nat}
theorem pd_lcC (hc : X.calm = true) (hN : X.N.Nodup) (hi : PD X iter ta) (ok : blkC X.N X.env.scope scope [(x, i)] = true)
    (hg : ∀ (s : Shared) (H : Hp) (C : Addr) (cl : List (Str × Addr)) (fp : List Addr), PG (X.blk s H scope (compEnvC scope cl C X.env) fp) (.Name x tp) (gName i))
    (ht : ∀ (s : Shared) (H : Hp) (C : Addr) (cl : List (Str × Addr)) (fp : List Addr), PTD (X.blk s H scope (compEnvC scope cl C X.env) fp) ifs tt)
    (he : ∀ (s : Shared) (H : Hp) (C : Addr) (cl : List (Str × Addr)) (fp : List Addr), PD (X.blk s H scope (compEnvC scope cl C X.env) fp) elt te) (hs : ∀ x, foldedSetIterable iter X.env x = pure x := by intro _; rfl) :
    PD X (.ListComp elt [⟨.Name x tp, iter, ifs, 0⟩] scope pos) (dLcC ta i tt te) :=
  PE.imp (pe_lc (own := [(x, i)]) hc hN (pi_list hi) (blkOk_by ok) hg ht he hs) fun σ H Q ⟨m, ρ, c, Φ, S, h, q⟩ =>
    ⟨m, ρ, c, _, S, h, fun d c1 v H1 m1 hx C1 R1 L1 => by
      obtain ⟨k, all, rfl, hk, hf⟩ := hx
      obtain ⟨a, ha, rfl⟩ := R1
      obtain ⟨b, h1, xs, h2, h3⟩ := C1.at_ k _ hk
      rw [ha] at h1; cases h1
      exact ⟨a, rfl, ⟨xs, SqL.of h2⟩, lc_walkC (walksC_cell ha) (S.step L1 C1) hf fun p xs c' H' h' C' R' l' => q _ c' _ H' m1 h' C' R' (L1.trans l')⟩⟩
theorem psd_setLcC {spos py : Pos} (hc : X.calm = true) (hN : X.N.Nodup) (hy : X.N[j]? = some y) (hyl : X.env.scope.names.lookup y = some .local)
    (hsw : swapsWith (.ListComp elt [⟨.Name x tp, iter, ifs, 0⟩] scope pos) (some (.Name y py)) spos.line X.env = pure true)
    (hi : PD X iter ta) (ok : blkC X.N X.env.scope scope [(x, i)] = true)
    (hg : ∀ (s : Shared) (H : Hp) (C : Addr) (cl : List (Str × Addr)) (fp : List Addr), PG (X.blk s H scope (compEnvC scope cl C X.env) fp) (.Name x tp) (gName i))
    (ht : ∀ (s : Shared) (H : Hp) (C : Addr) (cl : List (Str × Addr)) (fp : List Addr), PTD (X.blk s H scope (compEnvC scope cl C X.env) fp) ifs tt)
    (he : ∀ (s : Shared) (H : Hp) (C : Addr) (cl : List (Str × Addr)) (fp : List Addr), PD (X.blk s H scope (compEnvC scope cl C X.env) fp) elt te) (hs : ∀ x, foldedSetIterable iter X.env x = pure x := by intro _; rfl) :
    PSD X (.Assign [.Name y py] (.ListComp elt [⟨.Name x tp, iter, ifs, 0⟩] scope pos) spos) (dSet j (dLcC ta i tt te)) :=
  PS.imp (ps_setLc (i := j) (own := [(x, i)]) hc hN hy hyl hsw (pi_list hi) (blkOk_by ok) hg ht he hs) fun Dn σ H ⟨m, ρ, c, De, S, h, n, r, b, kk⟩ =>
    ⟨m, ρ, c, _, S, h, fun d c1 v H1 m1 hx C1 R1 L1 => by
      obtain ⟨k, all, rfl, hk, hf⟩ := hx
      obtain ⟨a, ha, rfl⟩ := R1
      obtain ⟨b', h1, xs, h2, h3⟩ := C1.at_ k _ hk
      rw [ha] at h1; cases h1
      exact ⟨a, rfl, ⟨xs, SqL.of h2⟩, lc_walkC (walksC_cell ha) (S.step L1 C1) hf fun p xs c' H' h' C' R' l' => n _ H' m1 _ c' h' ((S.step (L1.trans l') C').set R') (L1.trans l')⟩⟩
end
end Cw

namespace Cw
open PySem PySem.Spec PyProof.Rows L2
/-! ### dict(xs) of a list of pairs whose keys are tuples -/
section
variable {prog : Program} {w : World}
abbrev tK (prog : Program) (w : World) : HeapKind prog w (List Key) := tupleKind (mixKind prog w)
def mergH (acc more : List (List Key × Addr × Value)) : List (List Key × Addr × Value) := more.foldl (fun a q => storedH a q.1 q.2.1 q.2.2) acc
theorem tk_keep {g g' : Heap} {ks : List Key} {a : Addr} (x : (tK prog w).is g ks a) (k : ∀ o, g.get? a = some o → g'.get? a = some o) : (tK prog w).is g' ks a := by
  obtain ⟨o, its, n, e1, e2, e3, e4⟩ := x
  exact ⟨o, its, n, k o e1, e2, e3, e4⟩
theorem dt_keep {g g' : Heap} {S : Addr} {xs : List (List Key × Addr × Value)} (m : g.DictOfH (tK prog w) S xs) (kS : ∀ o, g.get? S = some o → g'.get? S = some o) (kx : ∀ x ∈ xs, ∀ o, g.get? x.2.1 = some o → g'.get? x.2.1 = some o) : g'.DictOfH (tK prog w) S xs := by
  obtain ⟨o, es, ep, e1, e2, e3, e4, e5, e6⟩ := m
  exact ⟨o, es, ep, kS o e1, e2, e3, e4, fun x hx => tk_keep (e5 x hx) (kx x hx), e6⟩
theorem storedH_mem {xs : List (List Key × Addr × Value)} {k : List Key} {a : Addr} {v : Value} {P : Addr → Prop} (h : ∀ x ∈ xs, P x.2.1) (ha : P a) : ∀ x ∈ storedH xs k a v, P x.2.1 := by
  intro x hx
  unfold storedH at hx
  split at hx
  · obtain ⟨y, hy, rfl⟩ := List.mem_map.mp hx
    unfold putAt
    split
    · exact h y hy
    · exact h y hy
  · rcases List.mem_append.mp hx with hx | hx
    · exact h x hx
    · rw [List.mem_singleton.mp hx]; exact ha
theorem storedH_le (xs : List (List Key × Addr × Value)) (k : List Key) (a : Addr) (v : Value) : (storedH xs k a v).length ≤ xs.length + 1 := by
  unfold storedH
  split
  · rw [List.length_map]; omega
  · rw [List.length_append]; simp
variable {A : Around} {E : Value → Shared → Prop}
theorem updT_loop {R : Result → Shared → Prop} {S I l : Addr} {items : Array Value} {res : Value} (hu : A.in1.units < cLine) (hh : A.handled = none) (e1 : l ≠ I) (e2 : S ≠ I) (e3 : S ≠ l) :
    ∀ (more : List (List Key × Addr × Value)) (i : Nat) (acc : List (List Key × Addr × Value)) (ix : Int) (t : Tok) (s : Shared), items.size = i + more.length → acc.length + more.length ≤ sizeLine →
      (∀ (j : Nat) q, more[j]? = some q → ∃ b : Addr, items[i + j]? = some (.ref b) ∧ (b ≠ S ∧ b ≠ I) ∧ (q.2.1 ≠ S ∧ q.2.1 ≠ I) ∧ IsTup s.heap b #[.ref q.2.1, q.2.2] ∧ (tK prog w).is s.heap q.1 q.2.1) →
      (∀ x ∈ acc, x.2.1 ≠ S ∧ x.2.1 ≠ I) → s.heap.IsListIter I l i → s.heap.IsList l items → s.heap.DictOfH (tK prog w) S acc →
      (∀ g tk, g.DictOfH (tK prog w) S (mergH acc more) → (∀ b o, b ≠ S → b ≠ I → s.heap.get? b = some o → g.get? b = some o) → R (.ok (.ret res)) { s with heap := g, toks := tk }) →
      codeAny (model prog w) A (.builtin "dict.update.loop" ⟨[.ref S, .ref I, .int ix t, res], []⟩) R s := by
  intro more
  induction more with
  | nil =>
    intro i acc ix t s hz _ _ ha hit hl hm hR
    refine codeAny_builtin L2.ud_entry ?_
    rw [Around.under_plainId L2.ud_plain _]
    show wpAny _ A.in1 (pyNext (.ref I) >>= _) _ _ _
    refine wpAny_bind (wpAny_pyNext_list_end (A := A.in1) hh hit hl (Array.getElem?_eq_none (by rw [hz]; simp)) fun g he => ?_)
    show wpAny _ A.in1 (Builtin.Dict.addKeywords S [] >>= _) _ _ _
    exact wpAny_bind (wpAny_pure (wpAny_pure (hR g s.toks (dt_keep hm (fun o z => he S o e2 z) fun x hx o z => he _ o (ha x hx).2 z) fun b o _ hb z => he b o hb z)))
  | cons q more ih =>
    intro i acc ix t s hz hln ht ha hit hl hm hR
    obtain ⟨b, hb, ⟨bS, bI⟩, ⟨kS, kI⟩, htup, hk⟩ := ht 0 q rfl
    rw [List.length_cons] at hz hln
    refine codeAny_builtin L2.ud_entry ?_
    rw [Around.under_plainId L2.ud_plain _]
    show wpAny _ A.in1 (pyNext (.ref I) >>= _) _ _ _
    refine wpAny_bind (wpAny_pyNext_list_item (x := .ref b) hit hl (by simpa using hb) fun g1 hit1 s1 => ?_)
    have tup1 : IsTup g1 b #[.ref q.2.1, q.2.2] := htup.extBut s1.extBut bI
    have lst1 : g1.IsList l items := hl.extBut s1.extBut e1
    have m1 : g1.DictOfH (tK prog w) S acc := dt_keep hm (fun o z => s1.extBut S o e2 z) fun x hx o z => s1.extBut _ o (ha x hx).2 z
    have k1 : (tK prog w).is g1 q.1 q.2.1 := tk_keep hk fun o z => s1.extBut _ o kI z
    obtain ⟨o, ho, hc, n, hd⟩ := id tup1
    show wpAny _ A.in1 (holding [Value.ref b] _ >>= _) _ _ _
    refine wpAny_bind (wpAny_holding (wpAny_bind (wpAny_tryCatch ?_)))
    unfold Builtin.Dict.pairItems
    refine wpAny_bind (wpAny_typeOf (T := "tuple") ⟨o, ho, hc⟩ ?_)
    rw [if_pos (by first | decide | rfl | simp)]
    refine wpAny_bind (wpAny_seqItems ho hd (wpAny_pure ?_))
    show wpAny _ A.in1 (holding [.ref q.2.1, q.2.2] (dictSet S (.ref q.2.1) q.2.2)) _ _ _
    refine wpAny_holding (wpAny_dictSet_heap (knd := tK prog w) (k := q.1) hu k1 m1 (fun g2 m2 s2 => ?_) (by omega))
    have old : ∀ c oc, c ≠ S → c ≠ I → s.heap.get? c = some oc → g2.get? c = some oc := fun c oc z1 z2 z => s2.extBut c oc z1 (s1.extBut c oc z2 z)
    have le := storedH_le acc q.1 q.2.1 q.2.2
    refine wpAny_pure ⟨plainId_quiet L2.ud_plain _, ih (i + 1) (storedH acc q.1 q.2.1 q.2.2) (ix + 1) 0 _ (show items.size = i + 1 + more.length by omega) (by omega) (fun j q' e => ?_) ?_ ?_ (lst1.extBut s2.extBut (Ne.symm e3)) m2 fun g tk hd' k => ?_⟩
    · obtain ⟨b', w1, ⟨w2, w3⟩, ⟨w4, w5⟩, w6, w7⟩ := ht (j + 1) q' (by simpa using e)
      exact ⟨b', by rw [show i + 1 + j = i + (j + 1) by omega]; exact w1, ⟨w2, w3⟩, ⟨w4, w5⟩, (w6.extBut s1.extBut w3).extBut s2.extBut w2, tk_keep w7 fun o z => old _ o w4 w5 z⟩
    · exact storedH_mem (P := fun x => x ≠ S ∧ x ≠ I) ha ⟨kS, kI⟩
    · exact hit1.at fun o' z => s2.extBut I o' (Ne.symm e2) z
    · exact hR g tk hd' fun c oc z1 z2 z => k c oc z1 z2 (old c oc z1 z2 z)
theorem dictT_call {s : Shared} {l : Addr} {ol : Obj} {items : Array Value} {n : Nat} {prs : List (List Key × Addr × Value)} {Q : Value → Shared → Prop} (hu : A.in1.in1.in1.units < cLine) (hh : A.handled = none) (hl : s.heap.get? l = some ol) (hc : ol.cls = .type "list") (hd : ol.dict = none)
    (hdat : ol.data = .seq items n) (hsz : items.size = prs.length) (hln : prs.length ≤ sizeLine)
    (ht : ∀ (j : Nat) q, prs[j]? = some q → ∃ b : Addr, items[j]? = some (.ref b) ∧ IsTup s.heap b #[.ref q.2.1, q.2.2] ∧ (tK prog w).is s.heap q.1 q.2.1)
    (h : ∀ g tk, g.DictOfH (tK prog w) s.heap.objs.size (mergH [] prs) → (∀ b o, s.heap.get? b = some o → g.get? b = some o) → Q (.ref s.heap.objs.size) { s with heap := g, toks := tk }) :
    wpAny (model prog w) A (call (.type "dict") [.ref l]) Q E s := by
  refine callType_codes (Q₁ := fun u z => u = .ref s.heap.objs.size ∧ z = { s with heap := s.heap.push { cls := .type "dict", data := .dict #[] } }) PySem.F.kt_called_dict (PySem.F.kt_typeCall_dict_1 _) PySem.F.entry_dict_init (kt_code_dict_new _ ⟨rfl, rfl⟩) ?_
  rintro u z ⟨rfl, rfl⟩
  have d0 : (s.heap.push { cls := .type "dict", data := .dict #[] }).DictOfH (tK prog w) s.heap.objs.size [] := Heap.DictOfH.new s.heap
  have k0 : ∀ b o, s.heap.get? b = some o → (s.heap.push { cls := .type "dict", data := .dict #[] }).get? b = some o := fun b o e => Heap.get?_push_of_some _ e
  refine ⟨d0.typeIs, PySem.F.args_dict_init_2 _ _, ?_⟩
  unfold Builtin.«dict.__init__»
  refine wpAny_bind ?_
  unfold Builtin.Dict.selfAndRest
  refine wpAny_bind (wpAny_notOrdered_dict d0.typeIs ?_)
  show wpAny _ _ (pure (s.heap.objs.size, [Value.ref l])) _ _ _
  refine wpAny_pure ?_
  show wpAny _ _ (Builtin.Dict.updateFrom "dict.__init__" s.heap.objs.size (.ref l) [] .none) _ _ _
  unfold Builtin.Dict.updateFrom
  refine wpAny_bind (wpAny_typeOf (T := "list") ⟨ol, k0 _ _ hl, hc⟩ ?_)
  rw [if_pos (by first | decide | rfl | simp)]
  refine wpAny_bind (L2.miss_list (k0 _ _ hl) hc hdat hd hh fun g1 tk1 hk1 => ?_)
  rw [if_pos (show (none : Option Value).isNone = true from rfl)]
  refine wpAny_bind (wpAny_rule ?_)
  have l1 : g1.IsList l items := ⟨ol, hk1 _ _ (k0 _ _ hl), hc, n, hdat⟩
  have S1 : s.heap.objs.size < g1.objs.size := Heap.lt_size (hk1 _ _ (Heap.get?_push_size _ rfl))
  refine wpAny_bind (wpAny_pyIter_list l1 ?_)
  have k2 : ∀ b o, g1.get? b = some o → (g1.push { cls := .type "list_iterator", data := .fields #[.ref l, .int 0 0] }).get? b = some o := fun b o e => Heap.get?_push_of_some _ e
  have all : ∀ b o, s.heap.get? b = some o → (g1.push { cls := .type "list_iterator", data := .fields #[.ref l, .int 0 0] }).get? b = some o := fun b o e => k2 _ _ (hk1 _ _ (k0 _ _ e))
  have far : ∀ {b : Addr}, b < s.heap.objs.size → b ≠ s.heap.objs.size ∧ b ≠ g1.objs.size := fun z => ⟨Nat.ne_of_lt z, Nat.ne_of_lt (Nat.lt_trans z S1)⟩
  have ll := far (Heap.lt_size hl)
  have key := updT_loop (prog := prog) (w := w) (A := A.in1) (R := wants (fun r z => r = .none ∧ Q (.ref s.heap.objs.size) z) E) (S := s.heap.objs.size) (I := g1.objs.size) (l := l) (items := items) (res := Value.none) (by first | exact hu | exact Nat.lt_of_le_of_lt (by first | exact Nat.le_refl _ | exact Nat.le_succ _) hu) hh
    ll.2 (Nat.ne_of_lt S1) (Ne.symm ll.1) prs 0 [] 0 0
    { s with heap := g1.push { cls := .type "list_iterator", data := .fields #[.ref l, .int 0 0] }, toks := tk1 } (by rw [hsz, Nat.zero_add]) (by rw [List.length_nil, Nat.zero_add]; exact hln)
    (fun j q e => by
      obtain ⟨b, w1, w2, w3⟩ := ht j q e
      refine ⟨b, by rw [Nat.zero_add]; exact w1, far w2.lt, ?_, w2.keeps fun c o z => all _ _ z, tk_keep w3 fun o z => all _ _ z⟩
      obtain ⟨o, _, _, z, _⟩ := w3
      exact far (Heap.lt_size z))
    (by intro x hx; cases hx) ⟨_, Heap.get?_push_size _ rfl, rfl, rfl⟩ (l1.at fun o e => k2 _ _ e) (dt_keep d0 (fun o z => k2 _ _ (hk1 _ _ z)) (by intro x hx; cases hx))
    (fun g tk hd' k => ⟨rfl, h g tk hd' fun b o e => k b o (far (Heap.lt_size e)).1 (far (Heap.lt_size e)).2 (all _ _ e)⟩)
  first
    | exact wpAny_pure ⟨plainId_quiet L2.ud_plain _, key⟩
    | exact wpAny_bind (wpAny_pure (wpAny_pure ⟨plainId_quiet L2.ud_plain _, key⟩))
end
def mergT (kvs more : List (List Key × V)) : List (List Key × V) := more.foldl (fun acc kv => putK acc kv.1 kv.2) kvs
theorem KT.merg {H : Hp} : ∀ {more : List (List Key × V)} {rs : List (List Key × Addr × Value)} {kvs : List (List Key × V)} {vs : List (List Key × Addr × Value)}, KT H more rs → KT H kvs vs → KT H (mergT kvs more) (mergH vs rs)
  | _, _, _, _, .nil, h => h
  | _, _, _, _, .cons (a := p) (b := q) ⟨e, hb, hv⟩ t, h => by
    show KT H (mergT (putK _ p.1 p.2) _) (mergH (storedH _ q.1 q.2.1 q.2.2) _)
    rw [← e]
    exact KT.merg t (h.put p.1 hb hv)
theorem mergT_le : ∀ (more kvs : List (List Key × V)), (mergT kvs more).length ≤ kvs.length + more.length
  | [], kvs => Nat.le_refl _
  | p :: more, kvs => by
    have h1 := mergT_le more (putK kvs p.1 p.2)
    have h2 := length_putK kvs p.1 p.2
    show (mergT (putK kvs p.1 p.2) more).length ≤ kvs.length + (more.length + 1)
    omega
def PairT (K : PySem.W.Frag) (H : Hp) (p : Addr) (kv : List Key × V) : Prop := ∃ kb, SqT K H p [.ref kb, kv.2] ∧ H kb = some (.tup (kv.1.map kV))
section
variable {X : Cx}
theorem pairsT_of {pins : List (Addr × Obj)} {σ : L2.St} {H : Hp} {s : Shared} (I : Inv X pins σ H s) : ∀ {ps : List Addr} {kvs : List (List Key × V)}, Paired (PairT X.K H) ps kvs →
    ∃ prs : List (List Key × Addr × Value), KT H kvs prs ∧ prs.length = ps.length ∧ ∀ (j : Nat) q, prs[j]? = some q → ∃ b : Addr, ps[j]? = some b ∧ IsTup s.heap b #[.ref q.2.1, q.2.2] ∧ (tK X.prog X.w).is s.heap q.1 q.2.1
  | _, _, .nil => ⟨[], .nil, rfl, fun j q e => by simp at e⟩
  | _, _, .cons (a := p) (b := kv) h t => by
    obtain ⟨prs, r, hl, hp⟩ := pairsT_of I t
    obtain ⟨kb, h, hk⟩ := h
    obtain ⟨its, rv, ht, _⟩ := I.tuple h
    obtain ⟨u, y, ei, ru, ry⟩ := vals2 rv
    subst ei
    obtain rfl : u = Value.ref kb := ru
    refine ⟨(kv.1, kb, y) :: prs, .cons ⟨rfl, hk, ry⟩ r, by rw [List.length_cons, List.length_cons, hl], fun j q e => ?_⟩
    cases j with
    | zero =>
      have e' : (kv.1, kb, y) = q := Option.some.inj e
      subst e'
      exact ⟨p, rfl, ht, key_of I.hok hk⟩
    | succ j =>
      obtain ⟨b, e1, e2, e3⟩ := hp j q (by simpa using e)
      exact ⟨b, by simpa using e1, e2, e3⟩
def rDictT (K : PySem.W.Frag) : List V → Hp → VK → Prop := fun xs H Q => ∃ (a : Addr) (ps : List Addr) (kvs : List (List Key × V)), xs = [.ref a] ∧ SqL K H a (ps.map V.ref) ∧ Paired (PairT K H) ps kvs ∧ ∀ p, H p = none → Q (.ref p) (upd H p (.dT (mergT [] kvs)))
theorem call_dictT (hcalm : X.calm = true) (hu : X.A.units + 8 < cLine) : CallR X (.type "dict") (rDictT X.K) := by
  intro pins s σ H xs us Q I r q
  obtain ⟨a, ps, kvs, ex, hq, hp, q⟩ := q
  subst ex
  obtain ⟨u, eu, rx⟩ := vals1 r
  subst eu
  cases rx
  obtain ⟨its, rv, pl, hz⟩ := I.list hq
  obtain rfl := L2.refs_at rv
  rw [List.length_map] at hz
  obtain ⟨prs, rel, hl, hpr⟩ := pairsT_of I hp
  obtain ⟨o, n, ho, hc, hd, hdat⟩ := pl
  refine dictT_call (prs := prs) (show X.A.units + 1 + 1 + 1 < cLine by omega) (I.ok.hd hcalm) ho hc hd hdat (by simp [hl]) (by rw [hl]; exact hz) (fun j q' e => ?_) fun g tk hd' k => ?_
  · obtain ⟨b, e1, e2, e3⟩ := hpr j q' e
    exact ⟨b, by simp [e1], e2, e3⟩
  · have hm : (s.heap.objs.size == sysModules) = false := beq_eq_false_iff_ne.mpr (Nat.ne_of_gt I.big)
    have hlen : (mergT [] kvs).length ≤ sizeLine := by
      have h1 := mergT_le kvs []
      have h2 : kvs.length = ps.length := by rw [Paired.length rel, hl]
      rw [List.length_nil, Nat.zero_add] at h1
      omega
    obtain ⟨od, es, ep, d1, d2, d3, d4, _, d6⟩ := hd'
    have fr : H s.heap.objs.size = none := I.hok.fresh (Nat.le_refl _)
    refine ⟨.ref s.heap.objs.size, upd H s.heap.objs.size (.dT (mergT [] kvs)), I.laid (t' := tk) k (Nat.le_refl _) (show ObjOk X.prog X.w _ _ _ (.dT (mergT [] kvs)) from ⟨hlen, hm, mergH [] prs, (KT.merg rel .nil).keeps fun b ys e => ?_, od, es, ep, d1, d2, d3, d4, d6⟩), rfl, q _ fr⟩
    rw [upd_ne (ne_of_none e fr)]; exact e
end
end Cw

namespace Cw
open PySem PySem.Spec PyProof.Rows L2
/-! ### == of dicts whose keys are tuples -/
section
variable {prog : Program} {w : World} {A : Around} {E : Value → Shared → Prop} {s : Shared}
inductive KqT (A : Around) (s : Shared) (xb : List (List Key × Addr × Value)) : List (List Key × Addr × Value) → Bool → Prop
  | nil : KqT A s xb [] true
  | miss {k : List Key} {p : Addr × Value} {r} : atKey xb k = none → KqT A s xb ((k, p) :: r) false
  | hit {k : List Key} {p y : Addr × Value} {r} {e b : Bool} : atKey xb k = some y → SeqAt.EqAt A s p.2 y.2 e → KqT A s xb r b → KqT A s xb ((k, p) :: r) (e && b)
theorem keyT_at {xs : List (List Key × Addr × Value)} {k : List Key} {j : Nat} {p : Addr × Value} (hn : (xs.map (·.1)).Nodup) (h : xs[j]? = some (k, p)) : atKey xs k = some p := atKey_of_get hn h
theorem atKey_none_of {xs : List (List Key × Addr × Value)} {k : List Key} (h : ∀ (j : Nat) (p : Addr × Value), xs[j]? ≠ some (k, p)) : atKey xs k = none := by
  unfold atKey
  rw [List.find?_eq_none.mpr, Option.map_none]
  intro x hx hk
  obtain ⟨j, hj⟩ := List.getElem?_of_mem hx
  have e : x.1 = k := by simpa using hk
  exact h j x.2 (by rw [hj, ← e])
theorem sameT_run {nm : String} {a b : Addr} {xa xb : List (List Key × Addr × Value)} {r : Bool} {Q : Bool → Shared → Prop} (hu : A.units < cLine) (ha : (a == sysModules) = false) (hb : (b == sysModules) = false)
    (da : s.heap.DictOfH (tK prog w) a xa) (db : s.heap.DictOfH (tK prog w) b xb) (hits : xa.length = xb.length → KqT A s xb xa r) (h : Q (xa.length == xb.length && r) s) :
    wpAny (model prog w) A (Builtin.Dict.samePairs nm a b) Q E s := by
  obtain ⟨oa, es, pa, a1, _, a3, a4, a5, _⟩ := da
  obtain ⟨ob, fs, pb, b1, _, b3, b4, b5, b6⟩ := db
  have la : es.size = xa.length := size_of_entries a4
  have lb : fs.size = xb.length := size_of_entries b4
  rw [← la, ← lb] at h
  unfold Builtin.Dict.samePairs Builtin.Dict.showsAll
  rw [if_neg (by rw [ha]; decide), if_neg (by rw [hb]; decide)]
  refine wpAny_bind (wpAny_pure (wpAny_bind (wpAny_pure (wpAny_bind (wpAny_dictEntries a1 a3 ?_)))))
  dsimp only
  refine wpAny_bind (wpAny_dictEntries b1 b3 ?_)
  by_cases z : es.size = fs.size
  · have h' : Q r s := by simpa [z] using h
    have start := hits (by rw [← la, ← lb]; exact z)
    rw [if_neg (by rw [z]; simp)]
    refine wpAny_bind (wpAny_dictEpoch a1 a3 (wpAny_bind ?_))
    rw [Std.Legacy.Range.forIn_eq_forIn_range']
    simp only [Std.Legacy.Range.size, Nat.sub_zero, Nat.add_sub_cancel, Nat.div_one]
    refine wpAny_forIn_list _ (fun rest q z => z = s ∧ q = (none, ()) ∧ ∃ i, rest = List.range' i (es.size - i) ∧ i ≤ es.size ∧ KqT A s xb (xa.drop i) r) _ ?_ ?_ _ _ ⟨rfl, rfl, 0, by simp, Nat.zero_le _, start⟩
    · intro x rest q zs hinv
      obtain ⟨hzs, hq, i, hr, hi, pre⟩ := hinv
      subst hzs
      have less : i < es.size := by
        rcases Nat.lt_or_ge i es.size with g | g
        · exact g
        · rw [Nat.sub_eq_zero_of_le g] at hr; exact nomatch hr
      have split : es.size - i = (es.size - (i + 1)) + 1 := by omega
      rw [split, List.range'_succ] at hr
      injection hr with hx hrest
      subst hx
      obtain ⟨xk, hxk⟩ : ∃ y, xa[x]? = some y := ⟨xa[x]'(by rw [← la]; exact less), List.getElem?_eq_getElem _⟩
      obtain ⟨k, p⟩ := xk
      have hd : xa.drop x = (k, p) :: xa.drop (x + 1) := by
        have lt : x < xa.length := by rw [← la]; exact less
        rw [List.drop_eq_getElem_cons lt]
        congr 1
        rw [List.getElem?_eq_getElem lt] at hxk
        exact Option.some.inj hxk
      rw [hd] at pre
      have hent : es[x]? = some (entryOfKey (tK prog w) (k, p)) := by rw [entry_at a4, hxk]; rfl
      refine wpAny_bind (wpAny_dictEntries a1 a3 ?_)
      rw [hent]
      have isk : (tK prog w).is zs.heap k p.1 := a5 (k, p) (List.mem_of_getElem? hxk)
      show wpAny _ _ (holding [Value.ref p.1, p.2] _ >>= _) _ _ _
      refine wpAny_bind (wpAny_holding (wpAny_bind (wpAny_dictFind_heap (knd := tK prog w) (k := k) hu isk b1 b3 b4 b5 b6 ?_ ?_)))
      · intro hno
        have none_ : atKey xb k = none := atKey_none_of hno
        generalize hl : (k, p) :: xa.drop (x + 1) = lst at pre
        cases pre with
        | nil => exact nomatch hl
        | hit hy he hr' => injection hl with e1 e2; injection e1 with e3 e4; subst e3; rw [none_] at hy; exact nomatch hy
        | miss hn =>
          refine wpAny_pure ?_
          show wpAny _ _ (if (!false) = true then _ else _) _ _ _
          rw [if_pos (by decide)]
          exact wpAny_pure (wpAny_pure h')
      · intro j y hj
        have some_ : atKey xb k = some y := atKey_of_get b6 hj
        have hentb : fs[j]? = some (entryOfKey (tK prog w) (k, y)) := by rw [entry_at b4, hj]; rfl
        refine wpAny_bind (wpAny_dictEntries b1 b3 ?_)
        rw [hentb]
        generalize hl : (k, p) :: xa.drop (x + 1) = lst at pre
        cases pre with
        | nil => exact nomatch hl
        | miss hn => injection hl with e1 e2; injection e1 with e3 e4; subst e3; rw [some_] at hn; exact nomatch hn
        | @hit k' p' y' r' e b hy he hr' =>
          injection hl with e1 e2; injection e1 with e3 e4; subst e3; subst e4; subst e2
          obtain rfl : y = y' := Option.some.inj (some_.symm.trans hy)
          refine wpAny_holding (he prog w _ _ ?_)
          cases e with
          | false =>
            show wpAny _ _ (if (!false) = true then _ else _) _ _ _
            rw [if_pos (by decide)]
            exact wpAny_pure (wpAny_pure h')
          | true =>
            show wpAny _ _ (if (!true) = true then _ else _) _ _ _
            rw [if_neg (by decide)]
            refine wpAny_bind (wpAny_dictEpoch a1 a3 ?_)
            rw [if_neg (by simp)]
            exact wpAny_pure ⟨rfl, rfl, x + 1, hrest, less, by rw [Bool.true_and]; exact hr'⟩
    · intro q zs hinv
      obtain ⟨hzs, hq, i, hr, hi, pre⟩ := hinv
      subst hzs; subst hq
      have hin : i = es.size := by
        rcases Nat.lt_or_ge i es.size with g | g
        · have split : es.size - i = (es.size - (i + 1)) + 1 := by omega
          rw [split, List.range'_succ] at hr; exact nomatch hr
        · exact Nat.le_antisymm hi g
      rw [hin, la, List.drop_length] at pre
      refine wpAny_pure ?_
      cases pre
      exact h'
  · rw [if_pos (by simpa using z)]
    have no : (es.size == fs.size) = false := by simpa using z
    rw [no, Bool.false_and] at h
    exact wpAny_bind (wpAny_rule (wpAny_pure h))
end
end Cw

namespace Cw
open PySem PySem.Spec PyProof.Rows L2
/-! ### dict([((a, b), v) for x in ..]) -/
def Strong (K : PySem.W.Frag) (ix : List Addr) (H : Hp) (x : V) (q : List Key × D) : Prop := ∃ a kb v, x = .ref a ∧ H a = some (.tup [.ref kb, v]) ∧ H kb = some (.tup (q.1.map kV)) ∧ R K ix H q.2 v
theorem Strong.mono {K : PySem.W.Frag} {ix ix' : List Addr} {H H' : Hp} {x : V} {q : List Key × D} (e : Ex H H') (p : ∀ (k : Nat) a, ix[k]? = some a → ix'[k]? = some a) (h : Strong K ix H x q) : Strong K ix' H' x q := by
  obtain ⟨a, kb, v, h1, h2, h3, h4⟩ := h
  exact ⟨a, kb, v, h1, e _ _ h2, e _ _ h3, R.mono e p _ _ h4⟩
theorem Strong.low {K : PySem.W.Frag} {ix ix' : List Addr} {H H' : Hp} {n : Nat} (e : Ex H H') (p : ∀ (k : Nat) a, k < n → ix[k]? = some a → ix'[k]? = some a) : ∀ {L : List V} {ps : List (List Key × D)}, okDs n (ps.map (·.2)) = true → Paired (Strong K ix H) L ps → Paired (Strong K ix' H') L ps
  | _, _, _, .nil => .nil
  | x :: L, q :: ps, k, .cons h t => by
    obtain ⟨a, kb, v, h1, h2, h3, h4⟩ := h
    have k' : okD n q.2 = true ∧ okDs n (ps.map (·.2)) = true := by simpa [okDs] using k
    exact .cons ⟨a, kb, v, h1, e _ _ h2, e _ _ h3, R.low e p _ _ k'.1 h4⟩ (Strong.low e p k'.2 t)
theorem two_line {α : Type} {a b : α} : [a, b].length ≤ sizeLine := by show 2 ≤ sizeLine; decide
def rawC (L : List V) : Cell := .lst (L.map D.raw)
def pcD (i : Nat) (ta tb tv : TD) : List D → List (List Key × D) → Env → List Cell → (List (List Key × D) → List Cell → Prop) → Prop
  | [], acc, _, c, Φ => okCs c.length c = true ∧ okDs c.length (acc.map (·.2)) = true ∧ Φ acc c
  | d :: ds, acc, ρ, c, Φ => ∀ L : List V, ta (ρ.set i (some d)) (c ++ [rawC L]) fun x c1 => tb (ρ.set i (some d)) c1 fun y c2 => tv (ρ.set i (some d)) c2 fun v c3 => ∃ k l, x = kD k ∧ y = kD l ∧ acc.length < sizeLine ∧
      inner c.length (L.map D.raw) v c3 fun c4 => pcD i ta tb tv ds (acc ++ [([k, l], v)]) ρ c4 Φ
theorem rl_raw {K : PySem.W.Frag} {ix : List Addr} {H : Hp} : ∀ {L : List V} {xs : List V}, RL K ix H (L.map D.raw) xs → xs = L
  | [], _, h => h
  | v :: L, _, ⟨x, r, e, h1, h2⟩ => by subst e; rw [show x = v from h1, rl_raw h2]
theorem rl_raws {K : PySem.W.Frag} {ix : List Addr} {H : Hp} : ∀ {L : List V}, RL K ix H (L.map D.raw) L
  | [] => rfl
  | v :: L => ⟨v, L, rfl, rfl, rl_raws⟩
theorem paired_len {α β : Type} {F : α → β → Prop} : ∀ {xs : List α} {ys : List β}, Paired F xs ys → xs.length = ys.length
  | _, _, .nil => rfl
  | _, _, .cons _ t => by rw [List.length_cons, List.length_cons, paired_len t]
theorem pc_walk {K : PySem.W.Frag} {J : It} {m : Ad} {H1 : Hp} {ds : List D} {σ : L2.St} {ρ : Env} {c : List Cell} {i : Nat} {ta tb tv : TD} {Φ : List (List Key × D) → List Cell → Prop} {Qd : Addr → Hp → Prop} (wk : Walks K J m H1 ds) (S : SR K σ H1 m ρ c) (h : pcD i ta tb tv ds [] ρ c Φ)
    (q : ∀ p ps L c' H', Φ ps c' → CR K H' m c' → H' p = some (.lst L) → Paired (Strong K m.ix (hid m H')) L ps → Le m H1 m H' → Qd p H') : ∀ p, H1 p = none → ∃ W : Nat → Nat → Hp → Prop, (∃ mm, W 0 mm (upd H1 p (.lst []))) ∧ ∀ j mm H, W j mm H →
      (J.stop j H ∧ Qd p H) ∨ (J.go j H ∧ ∃ Nx : Hp → Prop, (∀ H', Nx H' → ∃ m', m' < mm ∧ W (j + 1) m' H') ∧ ∀ x H', J.yld j H x H' → gName i x (wipe σ [i]) H' fun σ2 H2 => wipe σ2 [i] = wipe σ [i] ∧ liftT K dYes σ2 H2 fun b H3 =>
        if b = true then tTup (tCons (tTup (tCons (lift K ta) (tCons (lift K tb) tNil))) (tCons (lift K tv) tNil)) σ2 H3 fun y H4 => ∃ acc, H4 p = some (.lst acc) ∧ acc.length < sizeLine ∧ Nx (upd H4 p (.lst (acc ++ [y]))) else Nx H3) := by
  intro p hp
  have z0 := cell_new (ce := rawC []) (o := .lst []) S.cr hp ⟨[], upd_same, rfl⟩
  refine ⟨fun j mm H => mm = ds.length - j ∧ j ≤ ds.length ∧ ∃ c' acc L, c'.length = c.length ∧ CR K H (m.push p) (c' ++ [rawC L]) ∧ Le m H1 (m.push p) H ∧ Paired (Strong K (m.push p).ix (hid (m.push p) H)) L acc ∧ pcD i ta tb tv (ds.drop j) acc ρ c' Φ,
    ⟨ds.length, by simp, Nat.zero_le _, c, [], [], rfl, z0.1, z0.2.1, .nil, by simpa using h⟩, ?_⟩
  rintro j mm H ⟨rfl, hj, c', acc, L, hl, C, l, hst, hf⟩
  by_cases hlt : j < ds.length
  · refine .inr ⟨wk.go j (m.push p) H _ l C hlt, fun H' => ∃ c' acc L, c'.length = c.length ∧ CR K H' (m.push p) (c' ++ [rawC L]) ∧ Le m H1 (m.push p) H' ∧ Paired (Strong K (m.push p).ix (hid (m.push p) H')) L acc ∧ pcD i ta tb tv (ds.drop (j + 1)) acc ρ c' Φ, fun H' w => ⟨ds.length - (j + 1), by omega, rfl, hlt, w⟩, fun x H2 y => ?_⟩
    obtain ⟨d, hd, C2, l2, rx⟩ := wk.yld j (m.push p) H _ x H2 l C hlt y
    have e : ds.drop j = d :: ds.drop (j + 1) := by
      rw [List.drop_eq_getElem_cons hlt]
      congr 1
      have := List.getElem?_eq_getElem hlt
      rw [hd] at this
      exact (Option.some.inj this).symm
    rw [e] at hf
    have L2 := l.trans l2
    have S2 : SR K ((wipe σ [i]).set i (some x)) H2 (m.push p) (ρ.set i (some d)) (c' ++ [rawC L]) := (S.step L2 C2).blk rx
    have hmn : (m.push p).ix.length = c'.length + 1 := by
      have := C2.len
      simp at this
      exact this
    refine ⟨by rw [wipe1, wipe1, List.set_set, List.set_set], m.push p, _, _, (fun b c2 => b = true ∧ c2 = c' ++ [rawC L]), S2, ⟨rfl, rfl⟩, fun b c2 H3 m3 hb C3 l3 => ?_⟩
    obtain ⟨hb, ht⟩ := hb
    subst hb; subst ht
    rw [if_pos rfl]
    refine ⟨m3, _, _, _, S2.step l3 C3, hf L, fun a0 c3 va H4 m4 hy C4 R4 l4 => ⟨m4, _, c3, _, (S2.step l3 C3).step l4 C4, hy, fun b0 c4 vb H5 m5 hy C5 R5 l5 => ⟨two_line, fun p1 hp1 => ?_⟩⟩⟩
    have n1 := hid_new hp1 C5
    have C5' := CR.new (o := .tup [va, vb]) hp1 C5
    have l5' := Le.new (o := .tup [va, vb]) hp1 C5
    have at1 : hid m5 (upd H5 p1 (.tup [va, vb])) p1 = some (.tup [va, vb]) := by rw [hid_of n1]; exact upd_same
    refine ⟨m5, _, c4, _, (((S2.step l3 C3).step l4 C4).step l5 C5).step l5' C5', hy, fun v0 c5 vv H6 m6 hy C6 R6 l6 => ⟨two_line, fun p2 hp2 => ?_⟩⟩
    obtain ⟨k, k2, ex, ey, hsz, hin⟩ := hy
    have n2 := hid_new hp2 C6
    have C6' := CR.new (o := .tup [.ref p1, vv]) hp2 C6
    have l6' := Le.new (o := .tup [.ref p1, vv]) hp2 C6
    have at2 : hid m6 (upd H6 p2 (.tup [.ref p1, vv])) p2 = some (.tup [.ref p1, vv]) := by rw [hid_of n2]; exact upd_same
    have at1' : hid m6 (upd H6 p2 (.tup [.ref p1, vv])) p1 = some (.tup [va, vb]) := (l6.trans l6').ex _ _ at1
    subst ex; subst ey
    have eva : va = kV k := kD_v R4
    have evb : vb = kV k2 := kD_v R5
    subst eva; subst evb
    have lall := l3.trans (l4.trans (l5.trans (l5'.trans (l6.trans l6'))))
    obtain ⟨z1, z5, z2, z3, z4⟩ := inner_ok hmn hin C6' (l6'.r R6) lall
    have cut := ex_cut (H := upd H6 p2 (.tup [.ref p1, vv])) lall.pre lall.hd
    obtain ⟨a, h5, xs, h6, h7⟩ := z1.at_ c'.length (.lst (L.map D.raw)) (by rw [List.getElem?_append_right (by omega), z4]; simp)
    have last : (m.push p).ix[c'.length]? = some p := by
      show (m.ix ++ [p])[c'.length]? = some p
      rw [hl, ← S.cr.len]; simp
    rw [last] at h5; cases h5
    obtain rfl := rl_raw h7
    have old := Paired.mapP hst fun _ _ s => Strong.mono (l2.trans z2).ex (fun _ _ e => e) s
    have ll : xs.length = acc.length := paired_len hst
    refine ⟨xs, h6, by rw [ll]; exact hsz, ?_⟩
    have hm : p ∈ (m.push p).ix := List.mem_of_getElem? last
    have z := cell_put (o := .lst (xs ++ [.ref p2])) (ce := rawC (xs ++ [.ref p2])) z1 last ⟨_, upd_same, rl_raws⟩
    have ec : (c5.take c'.length ++ [Cell.lst (xs.map D.raw)]).set c'.length (rawC (xs ++ [.ref p2])) = c5.take c'.length ++ [rawC (xs ++ [.ref p2])] := by
      rw [List.set_append_right _ _ (by omega), z4]; simp
    rw [ec] at z
    refine ⟨c5.take c'.length, acc ++ [([k, k2], v0)], xs ++ [.ref p2], by rw [z4, hl], z.1, (L2.trans z2).trans z.2, ?_, z3⟩
    rw [hid_mut hm]
    exact Paired.snoc old ⟨p2, p1, vv, rfl, cut _ _ at2, cut _ _ at1', z5⟩
  · have ej : j = ds.length := by omega
    subst ej
    rw [List.drop_length] at hf
    obtain ⟨h1, h2, h3⟩ := hf
    obtain ⟨C', _, ⟨xs, h4, h5⟩, hp1, hp2⟩ := C.pop h1
    obtain rfl := rl_raw h5
    exact .inl ⟨wk.stop _ (m.push p) H _ l C (Nat.le_refl _), q p acc xs c' H h3 C' h4 (Strong.low ex_pop (low_push C'.len) h2 hst) ⟨fun _ _ e => e, l.ex.trans ex_pop, rfl, l.hk, fun _ h => .inl h, l.al⟩⟩
end Cw

namespace Cw
open PySem PySem.Spec PyProof.Rows L2
/-! ### dict(..) of pairs -/
theorem mergT_nodup : ∀ (more kvs : List (List Key × V)), ((kvs ++ more).map (·.1)).Nodup → mergT kvs more = kvs ++ more
  | [], kvs, _ => by simp [mergT]
  | p :: more, kvs, h => by
    have hn : valV kvs p.1 = none := by
      unfold valV
      rw [List.find?_eq_none.mpr, Option.map_none]
      intro x hx hk
      have e : x.1 = p.1 := by simpa using hk
      rw [List.map_append, List.nodup_append] at h
      exact h.2.2 x.1 (List.mem_map_of_mem hx) p.1 (by simp) e
    show mergT (putK kvs p.1 p.2) more = _
    rw [putK_new _ hn, mergT_nodup more (kvs ++ [(p.1, p.2)]) (by rw [List.append_assoc]; exact h), List.append_assoc]
    rfl
theorem strong_split {K : PySem.W.Frag} {m : Ad} {H : Hp} : ∀ {L : List V} {ps : List (List Key × D)}, Paired (Strong K m.ix (hid m H)) L ps → ∃ (as : List Addr) (kvs : List (List Key × V)), L = as.map V.ref ∧ Paired (PairT K H) as kvs ∧ kvs.map (·.1) = ps.map (·.1) ∧ RRL K H m (ps.map (·.2)) (kvs.map (·.2))
  | _, _, .nil => ⟨[], [], rfl, .nil, rfl, rfl⟩
  | x :: L, q :: ps, .cons h t => by
    obtain ⟨a, kb, v, h1, h2, h3, h4⟩ := h
    obtain ⟨as, kvs, e1, e2, e3, e4⟩ := strong_split t
    refine ⟨a :: as, (q.1, v) :: kvs, by rw [h1, e1]; rfl, .cons ⟨kb, .inl (.inl (ex_hid m H _ _ h2)), ex_hid m H _ _ h3⟩ e2, by rw [List.map_cons, List.map_cons, e3], ⟨v, _, rfl, h4, e4⟩⟩
def dDictP (ti : TDs) (i : Nat) (ta tb tv : TD) : TD := fun ρ c Φ => ti ρ c fun ds c1 => pcD i ta tb tv ds [] ρ c1 fun ps c2 => (ps.map (·.1)).Nodup ∧ Φ (.dcT (ps.map (·.1)) (ps.map (·.2))) c2
def dDictPM (ti : TDs) (i : Nat) (ta tb tv : TD) : TD := fun ρ c Φ => ti ρ c fun ds c1 => pcD i ta tb tv ds [] ρ c1 fun ps c2 => (ps.map (·.1)).Nodup ∧ Φ (.cell c2.length) (c2 ++ [.dcT (ps.map (·.1)) (ps.map (·.2))])
/-- a key of two parts, a pair of such a key and a value -/
def tKey (K : PySem.W.Frag) (ta tb : TD) : TE := tTup (tCons (lift K ta) (tCons (lift K tb) tNil))
def tPr (K : PySem.W.Frag) (ta tb tv : TD) : TE := tTup (tCons (tTup (tCons (lift K ta) (tCons (lift K tb) tNil))) (tCons (lift K tv) tNil))
abbrev PKey (X : Cx) (e : Expr) (ta tb : TD) : Prop := PE X e (tKey X.K ta tb)
section
variable {X : Cx} {a b v : Expr} {ta tb tv : TD} {p1 p2 : Pos} {x1 x2 : Nat}
theorem pk_key (ha : PD X a ta) (hb : PD X b tb) (h1 : starEach [a, b] X.env = (false, eval a X.env) :: starEach [b] X.env := by rfl) (h2 : starEach [b] X.env = (false, eval b X.env) :: starEach [] X.env := by rfl) : PKey X (.Tuple [a, b] x1 p1) ta tb := pe_tup (pa_cons ha (pa_cons hb pa_nil h2) h1)
theorem pk_pr (ha : PD X a ta) (hb : PD X b tb) (hv : PD X v tv) (h1 : starEach [a, b] X.env = (false, eval a X.env) :: starEach [b] X.env := by rfl) (h2 : starEach [b] X.env = (false, eval b X.env) :: starEach [] X.env := by rfl)
    (h3 : starEach [.Tuple [a, b] x1 p1, v] X.env = (false, eval (.Tuple [a, b] x1 p1) X.env) :: starEach [v] X.env := by rfl) (h4 : starEach [v] X.env = (false, eval v X.env) :: starEach [] X.env := by rfl) :
    PE X (.Tuple [.Tuple [a, b] x1 p1, v] x2 p2) (tPr X.K ta tb tv) := pe_tup (pa_cons (pe_tup (pa_cons ha (pa_cons hb pa_nil h2) h1)) (pa_cons hv pa_nil h4) h3)
end
section
variable {X : Cx} {iter elt : Expr} {ta tb tv : TD} {pos pp tp cp : Pos} {ti : TDs} {scope : Scope} {x : Str} {i : Nat}
theorem lift_dictP {K : PySem.W.Frag} {σ : L2.St} {H : Hp} {Q : VK} (h : lift K (dDictP ti i ta tb tv) σ H Q) : tCB (rDictT K) (tCons (tLc (liftI K ti) (gName i) (liftT K dYes) (tPr K ta tb tv) [i]) tNil) σ H Q := by
  obtain ⟨m, ρ, c, Φ, S, h, q⟩ := h
  refine ⟨m, ρ, c, _, S, h, fun ds c1 J H1 m1 hx C1 wk L1 => pc_walk wk (S.step L1 C1) hx fun p ps L c' H' hΦ C' hp hst l' => ?_⟩
  obtain ⟨nd, hΦ⟩ := hΦ
  obtain ⟨as, kvs, e1, e2, e3, e4⟩ := strong_split hst
  subst e1
  refine ⟨p, as, kvs, rfl, SqL.of hp, e2, fun p' hp' => ?_⟩
  rw [mergT_nodup kvs [] (by rw [List.nil_append, e3]; exact nd), List.nil_append]
  have C2 := CR.new (o := .dT kvs) hp' C'
  have l2 := Le.new (o := .dT kvs) hp' C'
  exact q _ c' _ _ m1 hΦ C2 ⟨p', kvs, rfl, new_at hp' C', e3, l2.rl e4⟩ (L1.trans (l'.trans l2))
theorem lift_dictPM {K : PySem.W.Frag} {σ : L2.St} {H : Hp} {Q : VK} (h : lift K (dDictPM ti i ta tb tv) σ H Q) : tCB (rDictT K) (tCons (tLc (liftI K ti) (gName i) (liftT K dYes) (tPr K ta tb tv) [i]) tNil) σ H Q := by
  obtain ⟨m, ρ, c, Φ, S, h, q⟩ := h
  refine ⟨m, ρ, c, _, S, h, fun ds c1 J H1 m1 hx C1 wk L1 => pc_walk wk (S.step L1 C1) hx fun p ps L c' H' hΦ C' hp hst l' => ?_⟩
  obtain ⟨nd, hΦ⟩ := hΦ
  obtain ⟨as, kvs, e1, e2, e3, e4⟩ := strong_split hst
  subst e1
  refine ⟨p, as, kvs, rfl, SqL.of hp, e2, fun p' hp' => ?_⟩
  rw [mergT_nodup kvs [] (by rw [List.nil_append, e3]; exact nd), List.nil_append]
  have z := cell_new (ce := .dcT (ps.map (·.1)) (ps.map (·.2))) (o := .dT kvs) C' hp' ⟨kvs, upd_same, e3, by
    show RL _ _ (hid (m1.push p') _) _ _
    rw [hid_app hp']; exact RL.mono (Ex.refl _) push_pre _ _ e4⟩
  exact q _ _ _ _ _ hΦ z.1 z.2.2 (L1.trans (l'.trans z.2.1))
theorem pe_dictP (hc : X.calm = true) (hu : X.A.units + 8 < cLine) (hN : X.N.Nodup) (hi : PID X (.Name x tp) iter ti) (ok : blkC X.N X.env.scope scope [(x, i)] = true)
    (hg : ∀ (s : Shared) (H : Hp) (C : Addr) (cl : List (Str × Addr)) (fp : List Addr), PG (X.blk s H scope (compEnvC scope cl C X.env) fp) (.Name x tp) (gName i))
    (hp : ∀ (s : Shared) (H : Hp) (C : Addr) (cl : List (Str × Addr)) (fp : List Addr), PE (X.blk s H scope (compEnvC scope cl C X.env) fp) elt (tPr X.K ta tb tv))
    (hm : X.mg "dict" = none) (hg2 : Gl X "dict" := by rfl) (hs : ∀ x, foldedSetIterable iter X.env x = pure x := by intro _; rfl)
    (he : starEach [Expr.ListComp elt [⟨.Name x tp, iter, [], 0⟩] scope cp] X.env = (false, eval (.ListComp elt [⟨.Name x tp, iter, [], 0⟩] scope cp) X.env) :: starEach [] X.env := by rfl)
    (hpl : (backTo pos (starEach [] X.env)).any (·.1) = false := by rfl) :
    PE X (.Call (.Name "dict" pp) [.ListComp elt [⟨.Name x tp, iter, [], 0⟩] scope cp] [] pos) (tCB (rDictT X.K) (tCons (tLc (liftI X.K ti) (gName i) (liftT X.K dYes) (tPr X.K ta tb tv) [i]) tNil)) :=
  pe_callTy (call_dictT hc hu) hg2 hm PyProof.Rows.boot_dict (pa_cons (pe_lc (own := [(x, i)]) hc hN hi (blkOk_by ok) hg (fun _ _ _ _ _ => ptd_nil) hp hs) pa_nil he) (by decide) (by decide) he hpl
theorem pd_dictP (hc : X.calm = true) {kr : Nat} (hr : Room kr X.A) (hN : X.N.Nodup) (hi : PID X (.Name x tp) iter ti) (ok : blkC X.N X.env.scope scope [(x, i)] = true)
    (hg : ∀ (s : Shared) (H : Hp) (C : Addr) (cl : List (Str × Addr)) (fp : List Addr), PG (X.blk s H scope (compEnvC scope cl C X.env) fp) (.Name x tp) (gName i))
    (hp : ∀ (s : Shared) (H : Hp) (C : Addr) (cl : List (Str × Addr)) (fp : List Addr), PE (X.blk s H scope (compEnvC scope cl C X.env) fp) elt (tPr X.K ta tb tv))
    (hm : X.mg "dict" = none) (hg2 : Gl X "dict" := by rfl) (hs : ∀ x, foldedSetIterable iter X.env x = pure x := by intro _; rfl)
    (he : starEach [Expr.ListComp elt [⟨.Name x tp, iter, [], 0⟩] scope cp] X.env = (false, eval (.ListComp elt [⟨.Name x tp, iter, [], 0⟩] scope cp) X.env) :: starEach [] X.env := by rfl)
    (hpl : (backTo pos (starEach [] X.env)).any (·.1) = false := by rfl) :
    PD X (.Call (.Name "dict" pp) [.ListComp elt [⟨.Name x tp, iter, [], 0⟩] scope cp] [] pos) (dDictP ti i ta tb tv) :=
  PE.imp (pe_dictP hc (by have := hr.units; omega) hN hi ok hg hp hm hg2 hs he hpl) fun _ _ _ h => lift_dictP h
theorem pd_dictPM (hc : X.calm = true) {kr : Nat} (hr : Room kr X.A) (hN : X.N.Nodup) (hi : PID X (.Name x tp) iter ti) (ok : blkC X.N X.env.scope scope [(x, i)] = true)
    (hg : ∀ (s : Shared) (H : Hp) (C : Addr) (cl : List (Str × Addr)) (fp : List Addr), PG (X.blk s H scope (compEnvC scope cl C X.env) fp) (.Name x tp) (gName i))
    (hp : ∀ (s : Shared) (H : Hp) (C : Addr) (cl : List (Str × Addr)) (fp : List Addr), PE (X.blk s H scope (compEnvC scope cl C X.env) fp) elt (tPr X.K ta tb tv))
    (hm : X.mg "dict" = none) (hg2 : Gl X "dict" := by rfl) (hs : ∀ x, foldedSetIterable iter X.env x = pure x := by intro _; rfl)
    (he : starEach [Expr.ListComp elt [⟨.Name x tp, iter, [], 0⟩] scope cp] X.env = (false, eval (.ListComp elt [⟨.Name x tp, iter, [], 0⟩] scope cp) X.env) :: starEach [] X.env := by rfl)
    (hpl : (backTo pos (starEach [] X.env)).any (·.1) = false := by rfl) :
    PD X (.Call (.Name "dict" pp) [.ListComp elt [⟨.Name x tp, iter, [], 0⟩] scope cp] [] pos) (dDictPM ti i ta tb tv) :=
  PE.imp (pe_dictP hc (by have := hr.units; omega) hN hi ok hg hp hm hg2 hs he hpl) fun _ _ _ h => lift_dictPM h
end
end Cw

namespace Cw
open PySem PySem.Spec PyProof.Rows L2
theorem rl_keysV {K : PySem.W.Frag} {ix : List Addr} {H : Hp} : ∀ {k : List Key}, RL K ix H (k.map kD) (k.map kV)
  | [] => rfl
  | .inl i :: k => ⟨_, _, rfl, rfl, rl_keysV⟩
  | .inr x :: k => ⟨_, _, rfl, rfl, rl_keysV⟩
/-! ### d[k], d.get(k), d.get(k, x), list(d), d[k] = v; keys are tuples -/
def lookT : List (List Key) → List D → List Key → Option D
  | k :: ks, d :: ds, q => if k = q then some d else lookT ks ds q
  | _, _, _ => none
theorem lookT_rel {K : PySem.W.Frag} {m : List Addr} {H : Hp} : ∀ {kvs : List (List Key × V)} {ds : List D} {q : List Key}, RL K m H ds (kvs.map (·.2)) → (∀ d, lookT (kvs.map (·.1)) ds q = some d → ∃ v, valV kvs q = some v ∧ R K m H d v) ∧ (lookT (kvs.map (·.1)) ds q = none → valV kvs q = none)
  | [], [], q, h => ⟨fun d e => (nomatch e), fun _ => rfl⟩
  | [], d :: ds, q, ⟨x, r, e, _⟩ => nomatch e
  | (k, w) :: kvs, [], _, h => nomatch (show (w :: kvs.map (·.2) : List V) = [] from h)
  | (k, w) :: kvs, d :: ds, q, ⟨x, r, e1, h1, h2⟩ => by
    cases e1
    have ih := lookT_rel (q := q) h2
    by_cases hk : k = q
    · have e2 : lookT (((k, w) :: kvs).map (·.1)) (d :: ds) q = some d := by show (if k = q then some d else _) = _; rw [if_pos hk]
      refine ⟨fun d' e => ?_, fun e => ?_⟩
      · rw [e2] at e; cases e
        exact ⟨w, valV_pos hk, h1⟩
      · rw [e2] at e; cases e
    · have e2 : lookT (((k, w) :: kvs).map (·.1)) (d :: ds) q = lookT (kvs.map (·.1)) ds q := by show (if k = q then some d else _) = _; rw [if_neg hk]
      rw [e2, valV_neg hk]
      exact ih
theorem look_getD {K : PySem.W.Frag} {m : List Addr} {H : Hp} {kvs : List (List Key × V)} {ds : List D} {q : List Key} {x : D} {y : V} (h : RL K m H ds (kvs.map (·.2))) (hx : R K m H x y) : R K m H ((lookT (kvs.map (·.1)) ds q).getD x) ((valV kvs q).getD y) := by
  cases e : lookT (kvs.map (·.1)) ds q with
  | none => rw [(lookT_rel h).2 e]; exact hx
  | some d => obtain ⟨v, e1, e2⟩ := (lookT_rel h).1 d e; rw [e1]; exact e2
def tTGet (K : PySem.W.Frag) (td ty : TE) : TE := fun σ H Q => td σ H fun x H1 => ty σ H1 fun y H2 => ∃ a b kvs k v, x = .ref a ∧ y = .ref b ∧ Rd H2 a (.dT kvs) ∧ SqT K H2 b (k.map kV) ∧ valV kvs k = some v ∧ Q v H2
def dTGet (td ty : TD) : TD := fun ρ c Φ => td ρ c fun x c1 => ty ρ c1 fun y c2 => ∃ ks ds k d, vw c2 x = .dcT ks ds ∧ y = .tup (k.map kD) ∧ lookT ks ds k = some d ∧ Φ d c2
def dTGet1 (td ta tb : TD) : TD := fun ρ c Φ => td ρ c fun x c1 => (∃ ks ds, vw c1 x = .dcT ks ds) ∧ ta ρ c1 fun u c2 => tb ρ c2 fun w c3 => ∃ ks ds k l, vw c3 x = .dcT ks ds ∧ u = kD k ∧ w = kD l ∧ Φ ((lookT ks ds [k, l]).getD .non) c3
def dTGet2 (td ta tb tx : TD) : TD := fun ρ c Φ => td ρ c fun x c1 => (∃ ks ds, vw c1 x = .dcT ks ds) ∧ ta ρ c1 fun u c2 => tb ρ c2 fun w c3 => tx ρ c3 fun z c4 => ∃ ks ds k l, vw c4 x = .dcT ks ds ∧ u = kD k ∧ w = kD l ∧ Φ ((lookT ks ds [k, l]).getD z) c4
section
variable {X : Cx} {o i e f : Expr} {pos apos cpos : Pos} {td ty ta tb tx : TD}
theorem key_sq {pins : List (Addr × Obj)} {s : Shared} {σ : L2.St} {H : Hp} {b : Addr} {ks : List Key} (I : Inv X pins σ H s) (e : SqT X.K H b (ks.map kV)) : (tK X.prog X.w).is s.heap ks b := by
  obtain ⟨its, r, ⟨o, h1, h2, n, h3⟩, _⟩ := I.tuple e
  exact ⟨o, its.toArray, n, h1, h2, h3, by simpa using items_are r⟩
theorem pe_tget {td ty : TE} (hu : X.A.units + 1 < cLine) (ho : PE X o td) (hi : PE X i ty) (hs : NoSl i) : PE X (.Subscript o i pos) (tTGet X.K td ty) := by
  refine ⟨fun pins s σ H Q I h => ?_⟩
  refine subD_of PySem.F.slot_dict_getitem.lookup hs (thn (ho.run pins s σ H _ I h) fun u s1 ⟨x, H1, I1, rx, q1⟩ => thn (hi.run pins s1 σ H1 _ I1 q1) fun iv s2 ⟨y, H2, I2, ry, a, b, kvs, k, v, ex, ey, e, eb, l, q2⟩ => ?_)
  subst ex; subst ey
  obtain rfl : u = Value.ref a := rx
  obtain rfl : iv = Value.ref b := ry
  obtain ⟨z, hd, xs, rel, dd⟩ := dt_rd I2.hok e
  obtain ⟨w', hw, rw'⟩ := RelO.some_of (v := v) (o := (atKey xs k).map (·.2)) (by rw [← l]; exact rel.val k)
  obtain ⟨p, hp, hp2⟩ := Option.map_eq_some_iff.mp hw
  refine ⟨dd.typeIs, wpAny_getItem_heap (tupleKind_room_in1 hu) (key_sq I2 eb) dd hp ?_⟩
  rw [hp2]
  exact ⟨v, H2, I2.tok _, rw', q2⟩
theorem pd_tget {k : Nat} (hr : Room k X.A) (hd : PD X o td) (hy : PD X i ty) (hs : NoSl i := by intro _ _; rfl) : PD X (.Subscript o i pos) (dTGet td ty) :=
  PE.imp (pe_tget (by have := hr.un; omega) hd hy hs) fun σ H Q ⟨m, ρ, c, Φ, S, h, q⟩ =>
    ⟨m, ρ, c, _, S, h, fun x c1 u H1 m1 hx C1 R1 L1 => ⟨m1, ρ, c1, _, S.step L1 C1, hx, fun y c2 v H2 m2 hy C2 R2 L2 => by
      obtain ⟨ks, ds, k, d, e1, e2, e3, hΦ⟩ := hy
      subst e2
      obtain ⟨b, xs, rfl, hb, hxs⟩ := R2
      obtain rfl := rl_keys hxs
      have w := W.vw C2 (L2.r R1)
      rw [e1] at w
      obtain ⟨a, kvs, rfl, h1, h2, h3⟩ := w
      subst h2
      obtain ⟨w, h4, h5⟩ := (lookT_rel h3).1 d e3
      exact ⟨a, b, kvs, k, w, rfl, rfl, .inl h1, ex_t (ex_hid m2 H2) hb, h4, q _ c2 _ H2 m2 hΦ C2 h5 (L1.trans L2)⟩⟩⟩
theorem pd_tget1 {k : Nat} (hr : Room k X.A) (ho : PD X o td) (he : PKey X e ta tb) (m : M1 X o "get" apos e cpos) : PD X (.Call (.Attribute o "get" apos) [e] [] cpos) (dTGet1 td ta tb) :=
  PE.imp (pe_dget1 (by have := hr.un; omega) ho he m) fun σ H Q ⟨m, ρ, c, Φ, S, h, q⟩ => ⟨m, ρ, c, _, S, h, fun x c1 u H1 m1 hx C1 R1 L1 => by
    obtain ⟨⟨ks, ds, e0⟩, hx⟩ := hx
    have w := W.vw C1 R1
    rw [e0] at w
    obtain ⟨a, kvs, rfl, h1, _⟩ := w
    refine ⟨a, rfl, .inr ⟨kvs, .inl h1⟩, ?_⟩
    refine ⟨m1, ρ, c1, _, S.step L1 C1, hx, fun u2 c2 v2 H2 m2 hy C2 R2 L2 => ⟨m2, ρ, c2, _, (S.step L1 C1).step L2 C2, hy, fun w2 c3 v3 H3 m3 hz C3 R3 L3 => ⟨two_line, fun p hp => ?_⟩⟩⟩
    obtain ⟨ks, ds, k, l, e1, ek, el, hΦ⟩ := hz
    subst ek; subst el
    have C4 := CR.new (o := .tup [v2, v3]) hp C3
    have l4 := Le.new (o := .tup [v2, v3]) hp C3
    obtain rfl := kD_v R2
    obtain rfl := kD_v R3
    have w := W.vw C4 ((L2.trans (L3.trans l4)).r R1)
    rw [e1] at w
    obtain ⟨a', kvs', e2, h2, h3, h4⟩ := w
    cases e2
    subst h3
    exact ⟨valV kvs' [k, l], .inr ⟨kvs', [k, l], p, .inl h2, rfl, upd_same, rfl⟩, q _ c3 _ _ m3 hΦ C4 (look_getD h4 rfl) (L1.trans (L2.trans (L3.trans l4)))⟩⟩
theorem pd_tget2 {k : Nat} (hr : Room k X.A) (ho : PD X o td) (he : PKey X e ta tb) (hf : PD X f tx) (m : M2 X o "get" apos e f cpos) : PD X (.Call (.Attribute o "get" apos) [e, f] [] cpos) (dTGet2 td ta tb tx) :=
  PE.imp (pe_dget2 (by have := hr.un; omega) ho he hf m) fun σ H Q ⟨m, ρ, c, Φ, S, h, q⟩ => ⟨m, ρ, c, _, S, h, fun x c1 u H1 m1 hx C1 R1 L1 => by
    obtain ⟨⟨ks, ds, e0⟩, hx⟩ := hx
    have w := W.vw C1 R1
    rw [e0] at w
    obtain ⟨a, kvs, rfl, h1, _⟩ := w
    refine ⟨a, rfl, .inr ⟨kvs, .inl h1⟩, ?_⟩
    refine ⟨m1, ρ, c1, _, S.step L1 C1, hx, fun u2 c2 v2 H2 m2 hy C2 R2 L2 => ⟨m2, ρ, c2, _, (S.step L1 C1).step L2 C2, hy, fun w2 c3 v3 H3 m3 hz C3 R3 L3 => ⟨two_line, fun p hp => ?_⟩⟩⟩
    have C4 := CR.new (o := .tup [v2, v3]) hp C3
    have l4 := Le.new (o := .tup [v2, v3]) hp C3
    have at4 := new_at (o := .tup [v2, v3]) hp C3
    refine ⟨m3, ρ, c3, _, (((S.step L1 C1).step L2 C2).step L3 C3).step l4 C4, hz, fun z c5 v5 H5 m5 hz C5 R5 L5 => ?_⟩
    obtain ⟨ks, ds, k, l, e1, ek, el, hΦ⟩ := hz
    subst ek; subst el
    obtain rfl := kD_v R2
    obtain rfl := kD_v R3
    have w := W.vw C5 ((L2.trans (L3.trans (l4.trans L5))).r R1)
    rw [e1] at w
    obtain ⟨a', kvs', e2, h2, h3, h4⟩ := w
    cases e2
    subst h3
    exact ⟨valV kvs' [k, l], .inr ⟨kvs', [k, l], p, .inl h2, rfl, ex_hid m5 H5 _ _ (L5.ex _ _ at4), rfl⟩, q _ c5 _ _ m5 hΦ C5 (look_getD h4 R5) (L1.trans (L2.trans (L3.trans (l4.trans L5))))⟩⟩
def fListT : F1 := fun x c Φ => ∃ ks ds, x = .dcT ks ds ∧ Φ (.lst (ks.map keyD)) c
theorem keys_r {K : PySem.W.Frag} {m : Ad} {H : Hp} {c : List Cell} (C : CR K H m c) : ∀ {kvs : List (List Key × V)} {bs : List Addr}, IsKeys H kvs bs → RRL K H m ((kvs.map (·.1)).map keyD) (bs.map V.ref)
  | _, _, .nil => rfl
  | p :: kvs, b :: bs, .cons h t => by
    have nb : b ∉ m.ix ∧ b ∉ m.hd := by
      refine ⟨fun z => ?_, fun z => ?_⟩
      · obtain ⟨j, hj⟩ := List.mem_iff_getElem?.mp z
        obtain ⟨ce, _, h2⟩ := C.some_at hj
        obtain ⟨o, h3, h4⟩ := h2.mu
        rw [h] at h3; cases h3
        exact h4 _ rfl
      · obtain ⟨o, h3, h4⟩ := C.hs b z
        rw [h] at h3; cases h3
        exact h4 _ rfl
    exact ⟨.ref b, _, rfl, ⟨b, _, rfl, .inl (.inl (by rw [hid_of nb]; exact h)), rl_keysV⟩, keys_r C t⟩
theorem l1_listT {K : PySem.W.Frag} : L1f K fListT (fun u H Q => ∃ d kvs, [u] = [V.ref d] ∧ Rd H d (.dT kvs) ∧ ∀ p bs, H p = none → IsKeys H kvs bs → Q (.ref p) (upd H p (.lst (bs.map V.ref)))) := by
  intro x c Φ h H m u C r Q q
  obtain ⟨ks, ds, rfl, hΦ⟩ := h
  obtain ⟨a, kvs, rfl, h1, h2, h3⟩ := r
  subst h2
  refine ⟨a, kvs, rfl, .inl h1, fun p bs hp hb => ?_⟩
  have C2 := CR.new (o := .lst (bs.map V.ref)) hp C
  have l2 := Le.new (o := .lst (bs.map V.ref)) hp C
  exact q _ c _ _ m hΦ C2 ⟨p, _, rfl, new_at hp C, l2.rl (keys_r C hb)⟩ l2
theorem pd_listT (hc : X.calm = true) {pp : Pos} (ha : PD X e ta) (hm : X.mg "list" = none) (hg : Gl X "list" := by rfl) (he : starEach [e] X.env = (false, eval e X.env) :: starEach [] X.env := by rfl) (hpl : (backTo pos (starEach [] X.env)).any (·.1) = false := by rfl) :
    PD X (.Call (.Name "list" pp) [e] [] pos) (dCB (un1 fListT) (dCons ta dNil)) := pd_T1 (call_list_dT hc) l1_listT boot_list (by decide) (by decide) ha hg hm he hpl
end
end Cw

namespace Cw
open PySem PySem.Spec PyProof.Rows L2
/-! ### d[a, b] = v -/
def repT : List (List Key) → List D → List Key → D → List D
  | k :: ks, x :: ds, q, d => (if k = q then d else x) :: repT ks ds q d
  | _, _, _, _ => []
def inK (ks : List (List Key)) (q : List Key) : Bool := ks.any fun x => decide (x = q)
theorem inK_mem {ks : List (List Key)} {q : List Key} : inK ks q = true ↔ q ∈ ks := by
  unfold inK
  rw [List.any_eq_true]
  constructor
  · rintro ⟨x, h1, h2⟩
    have e : x = q := by simpa using h2
    exact e ▸ h1
  · exact fun h => ⟨q, h, by simp⟩
def putKs (ks : List (List Key)) (q : List Key) : List (List Key) := if inK ks q = true then ks else ks ++ [q]
def putDs (ks : List (List Key)) (ds : List D) (q : List Key) (d : D) : List D := if inK ks q = true then repT ks ds q d else ds ++ [d]
theorem any_mem (kvs : List (List Key × V)) (q : List Key) : ((kvs.any fun kv => decide (kv.1 = q)) = true) ↔ q ∈ kvs.map (·.1) := by
  rw [List.any_eq_true, List.mem_map]
  constructor
  · rintro ⟨x, h1, h2⟩
    exact ⟨x, h1, by simpa using h2⟩
  · rintro ⟨x, h1, h2⟩
    exact ⟨x, h1, by simpa using h2⟩
theorem put_keys (kvs : List (List Key × V)) (q : List Key) (v : V) : (putK kvs q v).map (·.1) = putKs (kvs.map (·.1)) q := by
  unfold putK putKs
  by_cases h : q ∈ kvs.map (·.1)
  · rw [if_pos ((any_mem kvs q).mpr h), if_pos (inK_mem.mpr h), List.map_map]
    apply List.map_congr_left
    intro x _
    show (if x.1 = q then (x.1, v) else x).1 = x.1
    split <;> rfl
  · rw [if_neg (fun z => h ((any_mem kvs q).mp z)), if_neg (fun z => h (inK_mem.mp z)), List.map_append]; rfl
theorem rep_r {K : PySem.W.Frag} {m : List Addr} {H : Hp} {q : List Key} {d : D} {v : V} (hv : R K m H d v) : ∀ {kvs : List (List Key × V)} {ds : List D}, RL K m H ds (kvs.map (·.2)) → RL K m H (repT (kvs.map (·.1)) ds q d) ((kvs.map fun kv => if kv.1 = q then (kv.1, v) else kv).map (·.2))
  | [], [], _ => rfl
  | [], _ :: _, ⟨_, _, e, _⟩ => nomatch e
  | (k, w) :: kvs, [], h => nomatch (show (w :: kvs.map (·.2) : List V) = [] from h)
  | (k, w) :: kvs, x :: ds, ⟨y, r, e, h1, h2⟩ => by
    cases e
    refine ⟨_, _, rfl, ?_, rep_r hv h2⟩
    show R K m H (if k = q then d else x) (if k = q then (k, v) else (k, w)).2
    by_cases hk : k = q
    · rw [if_pos hk, if_pos hk]; exact hv
    · rw [if_neg hk, if_neg hk]; exact h1
theorem put_r {K : PySem.W.Frag} {m : List Addr} {H : Hp} {q : List Key} {d : D} {v : V} {kvs : List (List Key × V)} {ds : List D} (hv : R K m H d v) (h : RL K m H ds (kvs.map (·.2))) : RL K m H (putDs (kvs.map (·.1)) ds q d) ((putK kvs q v).map (·.2)) := by
  unfold putK putDs
  by_cases hq : q ∈ kvs.map (·.1)
  · rw [if_pos ((any_mem kvs q).mpr hq), if_pos (inK_mem.mpr hq)]
    exact rep_r hv h
  · rw [if_neg (fun z => hq ((any_mem kvs q).mp z)), if_neg (fun z => hq (inK_mem.mp z)), List.map_append]
    exact RL.append h ⟨v, [], rfl, hv, rfl⟩
def dPutT (td ta tb tv : TD) : TSD := fun De ρ c => tv ρ c fun v c1 => td ρ c1 fun x c2 => ta ρ c2 fun u c3 => tb ρ c3 fun w c4 => ∃ j ks ds k l, x = .cell j ∧ c4[j]? = some (.dcT ks ds) ∧ u = kD k ∧ w = kD l ∧ ks.length < sizeLine ∧ De.nx ρ (c4.set j (.dcT (putKs ks [k, l]) (putDs ks ds [k, l] v)))
section
variable {X : Cx} {o i e value : Expr} {pos pos' : Pos} {td ta tb tv : TD} {k : Nat}
theorem psd_putT (hr : Room k X.A) (ho : PD X o td) (hi : PKey X i ta tb) (hv : PD X value tv) (hs : swapsWith value (some (.Subscript o i pos')) pos.line X.env = pure false := by rfl) :
    PSD X (.Assign [.Subscript o i pos'] value pos) (dPutT td ta tb tv) :=
  PS.imp (ps_dput (by have := hr.un; omega) ho hi hv hs) fun Dn σ H ⟨m, ρ, c, De, S, h, n, r, b, kk⟩ =>
  ⟨m, ρ, c, _, S, h, fun v c1 vv H1 m1 hx C1 R1 L1 => ⟨m1, ρ, c1, _, S.step L1 C1, hx, fun x c2 vx H2 m2 hx C2 R2 L2 => ⟨m2, ρ, c2, _, (S.step L1 C1).step L2 C2, hx, fun u c3 vu H3 m3 hx C3 R3 L3 =>
    ⟨m3, ρ, c3, _, ((S.step L1 C1).step L2 C2).step L3 C3, hx, fun w c4 vw H4 m4 hx C4 R4 L4 => ⟨two_line, fun p hp => by
      obtain ⟨j, ks, ds, k, l, rfl, hk, rfl, rfl, hl, hn⟩ := hx
      have C5 := CR.new (o := .tup [vu, vw]) hp C4
      have l5 := Le.new (o := .tup [vu, vw]) hp C4
      obtain rfl := kD_v R3
      obtain rfl := kD_v R4
      have L25 := L3.trans (L4.trans l5)
      have L15 := L2.trans L25
      obtain ⟨a, h1, rfl⟩ := L25.r R2
      obtain ⟨b', h2, kvs, h3, h4, h5⟩ := C5.at_ j _ hk
      rw [h1] at h2; cases h2
      subst h4
      refine ⟨a, _, rfl, DPut.t h3 (k := [k, l]) upd_same (by simpa using hl), ?_⟩
      have hm : a ∈ m4.ix := List.mem_of_getElem? h1
      have z := cell_put (o := .dT (putK kvs [k, l] vv)) (ce := .dcT (putKs (kvs.map (·.1)) [k, l]) (putDs (kvs.map (·.1)) ds [k, l] v)) C5 h1 ⟨_, upd_same, put_keys _ _ _, by
        show RL _ _ (hid m4 _) _ _
        rw [hid_mut hm]; exact put_r (L15.r R1) h5⟩
      exact n _ _ m4 ρ _ hn ((((((S.step L1 C1).step L2 C2).step L3 C3).step L4 C4).step l5 C5).step z.2 z.1) (L1.trans (L15.trans z.2))⟩⟩⟩⟩⟩
end
/-! ### a def that tells a list of dicts -/
def meltT (n0 : Nat) (c : List Cell) : D → Option D
  | .cell k => match c[k]? with
    | some (.dcT ks es) => if Nat.ble n0 k && okDs n0 es then some (.dcT ks es) else none
    | _ => none
  | d => if okD n0 d then some d else none
def meltTs (n0 : Nat) (c : List Cell) : List D → Option (List D)
  | [] => some []
  | d :: ds => match meltT n0 c d, meltTs n0 c ds with
    | some e, some es => some (e :: es)
    | _, _ => none
def retDL (n0 : Nat) (Φ : D → List Cell → Prop) (d : D) (c : List Cell) : Prop := okCs n0 (c.take n0) = true ∧ ∃ k ds es, d = .cell k ∧ c[k]? = some (.lst ds) ∧ Nat.ble n0 k = true ∧ meltTs n0 c ds = some es ∧ Φ (.lst es) (c.take n0)
theorem free_cell {K : PySem.W.Frag} {H' : Hp} {m m' : Ad} {c' : List Cell} {n0 k : Nat} {a : Addr} (hn : m.ix.length = n0) (pre : ∀ (k : Nat) a, m.ix[k]? = some a → m'.ix[k]? = some a) (hd : m'.hd = m.hd) (C : CR K H' m' c') (b1 : Nat.ble n0 k = true) (h5 : m'.ix[k]? = some a) : a ∉ m.ix ∧ a ∉ m.hd := by
  refine ⟨fun z => ?_, fun z => C.dj a (List.mem_of_getElem? h5) (by rw [hd]; exact z)⟩
  obtain ⟨j, hj⟩ := List.mem_iff_getElem?.mp z
  have hj2 := pre j a hj
  have e1 := (List.getElem?_eq_some_iff.mp h5)
  have e2 := (List.getElem?_eq_some_iff.mp hj2)
  have : k = j := (List.getElem_inj C.nd).mp (e1.2.trans e2.2.symm)
  subst this
  have := (List.getElem?_eq_some_iff.mp hj).1
  have := Nat.le_of_ble_eq_true b1
  omega
theorem meltT_ok {K : PySem.W.Frag} {H' : Hp} {m m' : Ad} {c' : List Cell} {n0 : Nat} (hn : m.ix.length = n0) (pre : ∀ (k : Nat) a, m.ix[k]? = some a → m'.ix[k]? = some a) (hd : m'.hd = m.hd) (C : CR K H' m' c') (ex : Ex (hid m' H') (hid m H')) :
    ∀ {d e : D} {v : V}, meltT n0 c' d = some e → RR K H' m' d v → RR K H' m e v := by
  have gen : ∀ {d e : D} {v : V}, (if okD n0 d then some d else none) = some e → RR K H' m' d v → RR K H' m e v := fun {d e v} h r => by
    by_cases hk : okD n0 d = true
    · rw [if_pos hk] at h; cases h
      exact R.low ex (low_cut pre hn) _ v hk r
    · rw [if_neg hk] at h; cases h
  intro d e v h r
  cases d with
  | cell k =>
    obtain ⟨a, h5, rfl⟩ := r
    have h : (match c'[k]? with
      | some (.dcT ks es) => if Nat.ble n0 k && okDs n0 es then some (D.dcT ks es) else none
      | _ => none) = some e := h
    cases e1 : c'[k]? with
    | none => rw [e1] at h; cases h
    | some ce =>
      rw [e1] at h
      cases ce with
      | dcT ks es =>
        have h : (if Nat.ble n0 k && okDs n0 es then some (D.dcT ks es) else none) = some e := h
        by_cases hb : (Nat.ble n0 k && okDs n0 es) = true
        · rw [if_pos hb] at h
          cases h
          obtain ⟨b1, b2⟩ := Bool.and_eq_true_iff.mp hb
          obtain ⟨b, h6, kvs, h7, h8, h9⟩ := C.at_ k _ e1
          rw [h5] at h6; cases h6
          refine ⟨a, kvs, rfl, ?_, h8, RL.low ex (low_cut pre hn) es _ b2 h9⟩
          rw [hid_of (free_cell hn pre hd C b1 h5)]
          exact h7
        · rw [if_neg hb] at h; cases h
      | obj _ _ _ => cases h
      | dct _ _ => cases h
      | lst _ => cases h
  | non => exact gen (d := .non) h r
  | bl b => exact gen (d := .bl b) h r
  | int i => exact gen (d := .int i) h r
  | str x => exact gen (d := .str x) h r
  | tup ds => exact gen (d := .tup ds) h r
  | lst ds => exact gen (d := .lst ds) h r
  | fl ds => exact gen (d := .fl ds) h r
  | ins C' ns ds => exact gen (d := .ins C' ns ds) h r
  | dct _ _ => exact gen (d := .dct _ _) h r
  | dcT _ _ => exact gen (d := .dcT _ _) h r
  | raw v => exact gen (d := .raw v) h r
theorem meltTs_ok {K : PySem.W.Frag} {H' : Hp} {m m' : Ad} {c' : List Cell} {n0 : Nat} (hn : m.ix.length = n0) (pre : ∀ (k : Nat) a, m.ix[k]? = some a → m'.ix[k]? = some a) (hd : m'.hd = m.hd) (C : CR K H' m' c') (ex : Ex (hid m' H') (hid m H')) :
    ∀ {ds es : List D} {vs : List V}, meltTs n0 c' ds = some es → RRL K H' m' ds vs → RRL K H' m es vs
  | [], es, vs, h, r => by cases h; exact r
  | d :: ds, es, vs, h, r => by
    obtain ⟨x, t, rfl, r1, r2⟩ := r
    unfold meltTs at h
    cases e1 : meltT n0 c' d with
    | none => rw [e1] at h; cases h
    | some e =>
      cases e2 : meltTs n0 c' ds with
      | none => rw [e1, e2] at h; cases h
      | some es' =>
        rw [e1, e2] at h; cases h
        exact ⟨x, t, rfl, meltT_ok hn pre hd C ex e1 r1, meltTs_ok hn pre hd C ex e2 r2⟩
theorem ret_okL {K : PySem.W.Frag} {H H' : Hp} {m m' : Ad} {c' : List Cell} {Φ : D → List Cell → Prop} {d : D} {v : V} {Q : VK} {n0 : Nat} (hn : m.ix.length = n0) (q : ∀ d c' w H', Φ d c' → CR K H' m c' → RR K H' m d w → Le m H m H' → Q w H')
    (h : retDL n0 Φ d c') (C : CR K H' m' c') (r : RR K H' m' d v) (l : Le m H m' H') : Q v H' := by
  obtain ⟨hk, k, ds, es, rfl, h1, h2, h3, h4⟩ := h
  have C' := C.cut l.pre l.hd hn hk
  have ex : Ex (hid m' H') (hid m H') := ex_cut l.pre l.hd
  have l' : Le m H m H' := ⟨fun _ _ e => e, l.ex.trans ex, rfl, l.hk, fun _ h => .inl h, l.al⟩
  obtain ⟨a, h5, rfl⟩ := r
  obtain ⟨b, h6, xs, h7, h8⟩ := C.at_ k _ h1
  rw [h5] at h6; cases h6
  exact q (.lst es) _ (.ref a) H' h4 C' ⟨a, xs, rfl, by rw [hid_of (free_cell hn l.pre l.hd C h2 h5)]; exact h7, meltTs_ok hn l.pre l.hd C ex h3 h8⟩ l'
section
variable {P : Program} {w : World} {K : PySem.W.Frag} {mg : Str → Option Value} {base : Heap}
theorem fnDL {x qual : Str} {st : Stmt} {f : Addr} {fd : FuncData} {N ps : List Str} {k n0 : Nat} {S : Pm} (F : Fun K x qual st f fd) (Sc : FnScope N ps (defScope st))
    (hbody : ∀ (cdv : Value) (A : Around) (outer : List PySem.Env) (s : Shared) (H : Hp) (E : XK), Room k (A.deeper (envOfC qual (defScope st) s.heap.objs.size f cdv)) →
      ∃ ts, PSDs (cxOf CX0 P w K mg base N qual (defScope st) f cdv A outer s H E).nox (defBody st) ts ∧
        ∀ c ds Φ, c.length = n0 → ds.length = ps.length → S c ds Φ → ts ⟨fun _ c' => retDL n0 Φ .non c', retDL n0 Φ, fun _ _ => False, fun _ _ => False⟩ (startD N ds) c) :
    FnOk P w K mg base CX0 (k + 1) f fd ps (spD K n0 ps.length S) := by
  refine F.ok Sc (fun vs H Q E h => ?_) (fun cdv A outer s H vs Q E hr h => ?_)
  · obtain ⟨m, c, ds, Φ, h1, h2, C, r, _⟩ := h
    rw [← RL.length r]; exact h2
  · obtain ⟨m, c, ds, Φ, h1, h2, C, r, hS, q⟩ := h
    obtain ⟨ts, hp, ht⟩ := hbody cdv A outer s H E hr
    have hn : m.ix.length = n0 := by rw [C.len]; exact h1
    exact ⟨_, hp, m, startD N ds, c, _, start_slots C r, ht c ds Φ h1 h2 hS, fun σ' H' m' ρ' c' h' S' l => ret_okL hn q h' S'.cr rfl l, fun d c' v H' m' h' C' r' l => ret_okL hn q h' C' r' l, fun _ _ _ _ _ z => z.elim, fun _ _ _ _ _ z => z.elim⟩
end
end Cw

namespace Cw
open PySem PySem.Spec PyProof.Rows L2
/-! ### == of two dicts of ints whose keys are tuples -/
def lookTI : List (List Key) → List Int → List Key → Option Int
  | k :: ks, i :: is, q => if k = q then some i else lookTI ks is q
  | _, _, _ => none
def sameTI (ls : List (List Key)) (js : List Int) : List (List Key) → List Int → Bool
  | k :: ks, i :: is => match lookTI ls js k with
    | some j => (i == j) && sameTI ls js ks is
    | none => false
  | _, _ => true
theorem lookTI_val : ∀ {kvs : List (List Key × V)} {is : List Int} {q : List Key}, kvs.map (·.2) = is.map V.int → valV kvs q = (lookTI (kvs.map (·.1)) is q).map V.int
  | [], [], q, _ => rfl
  | [], _ :: _, q, h => nomatch h
  | (k, w) :: kvs, [], q, h => nomatch h
  | (k, w) :: kvs, i :: is, q, h => by
    injection h with h1 h2
    have h1 : w = V.int i := h1
    by_cases e : k = q
    · rw [valV_pos e]
      show some w = (if k = q then some i else _).map V.int
      rw [if_pos e, h1]; rfl
    · rw [valV_neg e, lookTI_val h2]
      show _ = (if k = q then some i else _).map V.int
      rw [if_neg e]
theorem hits_TI {A : Around} {s : Shared} {H : Hp} {kvs : List (List Key × V)} {xb : List (List Key × Addr × Value)} {js : List Int} (rb : KT H kvs xb) (hj : kvs.map (·.2) = js.map V.int) : ∀ {ks : List (List Key × V)} {xa : List (List Key × Addr × Value)} {is : List Int}, KT H ks xa → ks.map (·.2) = is.map V.int →
    KqT A s xb xa (sameTI (kvs.map (·.1)) js (ks.map (·.1)) is)
  | _, _, [], .nil, _ => .nil
  | _, _, _ :: _, .nil, h => nomatch h
  | _, _, [], .cons _ _, h => nomatch h
  | p :: ks, q :: xa, i :: is, .cons ⟨e, hb, hv⟩ t, h => by
    injection h with h1 h2
    have h1 : p.2 = V.int i := h1
    rw [h1] at hv
    obtain ⟨k, ad, v⟩ := q
    obtain ⟨t1, ev⟩ := (show ∃ t, v = Value.int i t from hv)
    subst ev
    have e : p.1 = k := e
    have vl := lookTI_val (q := k) hj
    have rr := rb.val k
    have ih := hits_TI rb hj t h2 (A := A) (s := s)
    show KqT A s xb ((k, ad, Value.int i t1) :: xa) (match lookTI (kvs.map (·.1)) js p.1 with | some j => (i == j) && sameTI (kvs.map (·.1)) js (ks.map (·.1)) is | none => false)
    rw [e]
    cases l : lookTI (kvs.map (·.1)) js k with
    | none =>
      rw [vl, l] at rr
      refine .miss ?_
      cases g : atKey xb k with
      | none => rfl
      | some y => rw [g] at rr; exact rr.elim
    | some j =>
      rw [vl, l] at rr
      obtain ⟨w, hw, rw'⟩ := RelO.some_of (show RelO (some (V.int j)) ((atKey xb k).map (·.2)) from rr)
      obtain ⟨y, hy, hy2⟩ := Option.map_eq_some_iff.mp hw
      obtain ⟨t2, ey⟩ := (show ∃ t, w = Value.int j t from rw')
      subst ey
      exact .hit hy (by rw [hy2]; exact SeqAt.EqAt.int_int _ _ _ _) ih
section
variable {prog : Program} {w : World} {A : Around} {E : Value → Shared → Prop} {s : Shared}
theorem keqT {a b : Addr} {xa xb : List (List Key × Addr × Value)} {r : Bool} {Q : Value → Shared → Prop} (na : (a == sysModules) = false) (nb : (b == sysModules) = false) (room : A.units + 1 < cLine)
    (da : s.heap.DictOfH (tK prog w) a xa) (db : s.heap.DictOfH (tK prog w) b xb) (hits : xa.length = xb.length → KqT A.in1 s xb xa r) (done : Q (.bool (xa.length == xb.length && r)) s) : wpAny (model prog w) A (compareOp .Eq (.ref a) (.ref b)) Q E s := by
  have ta := da.typeIs
  have tb := db.typeIs
  have room' : A.units < cLine := by omega
  refine wpAny_richCompare_same_room (op := .Eq) ta tb PySem.F.slot_dict_eq (wpAny_call_entry PySem.F.slot_dict_eq ta PySem.F.entry_dict_eq ?_ (PySem.F.args_dict_eq_2 _ _)) room'
  refine wpAny_bind (Q := _) ?_
  unfold Builtin.Dict.dictSlotArgs
  refine wpAny_bind (wpAny_notOrdered_dict ta (wpAny_pure ?_))
  refine wpAny_bind (wpAny_isInstance (T := "dict") tb PySem.F.sub_dict_dict ?_)
  rw [if_neg (by simp)]
  refine wpAny_bind (wpAny_pure (wpAny_bind (wpAny_pure (wpAny_bind (sameT_run (r := r) ?_ na nb da db hits ?_)))))
  · exact room
  · exact wpAny_pure ⟨_, rfl, (fun x => nomatch x), by simpa using done⟩
end
def rEqDT : R2 := fun x y H Q => ∃ a b ks ls is js, x = .ref a ∧ y = .ref b ∧ Rd H a (.dT ks) ∧ Rd H b (.dT ls) ∧ ks.map (·.2) = is.map V.int ∧ ls.map (·.2) = js.map V.int ∧ Q (.bl (ks.length == ls.length && sameTI (ls.map (·.1)) js (ks.map (·.1)) is)) H
def fEqDT : F2 := fun x y c Φ => ∃ ks ls is js, x = .dcT ks (is.map .int) ∧ y = .dcT ls (js.map .int) ∧ Φ (.bl (ks.length == ls.length && sameTI ls js ks is)) c
section
variable {X : Cx} {a b : Expr} {ta tb : TD} {pos : Pos}
theorem op_eqDT (hu : X.A.units + 1 < cLine) : OpR X (compareOp .Eq) rEqDT := by
  intro pins s σ H x y v u Q I rx ry h
  obtain ⟨a, b, ks, ls, is, js, rfl, rfl, ea, eb, hi, hj, q⟩ := h
  obtain rfl : v = Value.ref a := rx
  obtain rfl : u = Value.ref b := ry
  obtain ⟨_, ya, va, ra, da⟩ := dt_rd I.hok ea
  obtain ⟨_, yb, vb, rb, db⟩ := dt_rd I.hok eb
  have la := paired_len ra
  have lb := paired_len rb
  exact keqT (r := sameTI (ls.map (·.1)) js (ks.map (·.1)) is) ya yb hu da db (fun _ => hits_TI rb hj ra hi) (fin_bl I q (by rw [la, lb]))
theorem l2_eqDT {K : PySem.W.Frag} : L2f K fEqDT rEqDT := by
  intro x y c Φ ⟨ks, ls, is, js, e1, e2, h⟩ H m u v C r1 r2 Q q
  subst e1; subst e2
  obtain ⟨a, kvs, rfl, h1, h2, h3⟩ := r1
  obtain ⟨b, lvs, rfl, h4, h5, h6⟩ := r2
  subst h2; subst h5
  rw [List.length_map, List.length_map] at h
  exact ⟨a, b, kvs, lvs, is, js, rfl, rfl, .inl h1, .inl h4, rl_ints h3, rl_ints h6, q.pure C h rfl⟩
theorem pd_eqDT {k : Nat} (hr : Room k X.A) (ha : PD X a ta) (hb : PD X b tb) : PD X (.Compare a [.Eq] [b] pos) (dBin fEqDT ta tb) := PE.imp (pe_cmpR (op_eqDT (by have := hr.un; omega)) ha hb (nomark _)) fun σ H Q h => lift_bin l2_eqDT h
theorem pdt_eqDT {k : Nat} (hr : Room k X.A) (ha : PD X a ta) (hb : PD X b tb) : PDt X (.Compare a [.Eq] [b] pos) (dT (dBin fEqDT ta tb)) := pdt_cmp (op_eqDT (by have := hr.un; omega)) l2_eqDT ha hb (nomark _)
end
end Cw

namespace K20
open PySem PySem.Spec PyProof.Rows L2 Cw
def topS (i : Nat) : Stmt := PySem.Challenge.pw_cornerways_k20_whole_calendars.main.body.getD i (.Pass ⟨0, 0, 0, 0⟩)
abbrev st_is_letters : Stmt := topS 10
theorem sc_is_letters : FnScope ["text", "most", "sign"] ["text", "most"] (defScope st_is_letters) := ⟨rfl, rfl, rfl, by decide +kernel, rfl, by decide +kernel, by decide +kernel⟩
abbrev st_is_word : Stmt := topS 11
theorem sc_is_word : FnScope ["value"] ["value"] (defScope st_is_word) := ⟨rfl, rfl, rfl, by decide +kernel, rfl, by decide +kernel, by decide +kernel⟩
abbrev st_number_of : Stmt := topS 12
theorem sc_number_of : FnScope ["text", "least", "most"] ["text", "least", "most"] (defScope st_number_of) := ⟨rfl, rfl, rfl, by decide +kernel, rfl, by decide +kernel, by decide +kernel⟩
abbrev st_signs_of : Stmt := topS 20
theorem sc_signs_of : FnScope ["line", "words"] ["line"] (defScope st_signs_of) := ⟨rfl, rfl, rfl, by decide +kernel, rfl, by decide +kernel, by decide +kernel⟩
abbrev st_states_of : Stmt := topS 21
theorem sc_states_of : FnScope ["signs", "phase", "way"] ["signs"] (defScope st_states_of) := ⟨rfl, rfl, rfl, by decide +kernel, rfl, by decide +kernel, by decide +kernel⟩
abbrev st_piece_of : Stmt := topS 22
theorem sc_piece_of : FnScope ["line", "states", "words", "name", "begin", "end", "length", "cost"] ["line", "states"] (defScope st_piece_of) := ⟨rfl, rfl, rfl, by decide +kernel, rfl, by decide +kernel, by decide +kernel⟩
abbrev st_corner_of : Stmt := topS 23
theorem sc_corner_of : FnScope ["line", "states", "words", "name", "turn", "begin", "end", "cost"] ["line", "states"] (defScope st_corner_of) := ⟨rfl, rfl, rfl, by decide +kernel, rfl, by decide +kernel, by decide +kernel⟩
abbrev st_names_of : Stmt := topS 24
theorem sc_names_of : FnScope ["rows", "row"] ["rows"] (defScope st_names_of) := ⟨rfl, rfl, rfl, by decide +kernel, rfl, by decide +kernel, by decide +kernel⟩
abbrev st_pieces_fit : Stmt := topS 25
theorem sc_pieces_fit : FnScope ["pieces"] ["pieces"] (defScope st_pieces_fit) := ⟨rfl, rfl, rfl, by decide +kernel, rfl, by decide +kernel, by decide +kernel⟩
abbrev st_corners_fit : Stmt := topS 26
theorem sc_corners_fit : FnScope ["corners"] ["corners"] (defScope st_corners_fit) := ⟨rfl, rfl, rfl, by decide +kernel, rfl, by decide +kernel, by decide +kernel⟩
abbrev st_parts_of : Stmt := topS 27
theorem sc_parts_of : FnScope ["text", "lines", "signs", "states", "behind", "pieces", "corners", "line"] ["text"] (defScope st_parts_of) := ⟨rfl, rfl, rfl, by decide +kernel, rfl, by decide +kernel, by decide +kernel⟩
abbrev st_check_borders : Stmt := topS 31
theorem sc_check_borders : FnScope ["borders"] ["borders"] (defScope st_check_borders) := ⟨rfl, rfl, rfl, by decide +kernel, rfl, by decide +kernel, by decide +kernel⟩
abbrev st_state_behind : Stmt := topS 32
theorem sc_state_behind : FnScope ["borders", "state", "many", "move", "phase"] ["borders", "state", "many"] (defScope st_state_behind) := ⟨rfl, rfl, rfl, by decide +kernel, rfl, by decide +kernel, by decide +kernel⟩
abbrev st_steps_into : Stmt := topS 33
theorem sc_steps_into : FnScope ["borders", "steps", "name", "begin", "end", "length", "cost", "state"] ["borders"] (defScope st_steps_into) := ⟨rfl, rfl, rfl, by decide +kernel, rfl, by decide +kernel, by decide +kernel⟩
abbrev st_next_row : Stmt := topS 34
theorem sc_next_row : FnScope ["rows", "steps", "length", "end", "step", "begin", "long", "cost"] ["rows", "steps"] (defScope st_next_row) := ⟨rfl, rfl, rfl, by decide +kernel, rfl, by decide +kernel, by decide +kernel⟩
abbrev st_joined : Stmt := topS 35
theorem sc_joined : FnScope ["steps", "filling", "step"] ["steps"] (defScope st_joined) := ⟨rfl, rfl, rfl, by decide +kernel, rfl, by decide +kernel, by decide +kernel⟩
abbrev st_calendar : Stmt := topS 37
theorem sc_calendar : FnScope ["borders", "state"] ["borders"] (defScope st_calendar) := ⟨rfl, rfl, rfl, by decide +kernel, rfl, by decide +kernel, by decide +kernel⟩
abbrev st__law_brook : Stmt := topS 39
theorem sc__law_brook : FnScope ["_law_cells", "_law_turn", "_law_mixed", "_law_cell", "_law_own"] ["_law_cells", "_law_turn"] (defScope st__law_brook) := ⟨rfl, rfl, rfl, by decide +kernel, rfl, by decide +kernel, by decide +kernel⟩
abbrev st__law_sip : Stmt := topS 40
theorem sc__law_sip : FnScope ["_law_brook_here", "_law_amount", "_law_figure"] ["_law_brook_here", "_law_amount"] (defScope st__law_sip) := ⟨rfl, rfl, rfl, by decide +kernel, rfl, by decide +kernel, by decide +kernel⟩
abbrev st__law_state : Stmt := topS 41
theorem sc__law_state : FnScope ["_law_brook_here", "_law_period"] ["_law_brook_here", "_law_period"] (defScope st__law_state) := ⟨rfl, rfl, rfl, by decide +kernel, rfl, by decide +kernel, by decide +kernel⟩
abbrev st__law_spec : Stmt := topS 42
theorem sc__law_spec : FnScope ["_law_brook_here", "_law_periods", "_law_lots", "_law_ends", "_law_period", "_law_signs_here", "_law_parts_here", "_law_joints", "_law_k", "_law_near", "_law_far", "_law_row", "_law_turn_here", "_law_title", "_law_dear"] ["_law_brook_here", "_law_periods", "_law_lots", "_law_ends"] (defScope st__law_spec) := ⟨rfl, rfl, rfl, by decide +kernel, rfl, by decide +kernel, by decide +kernel⟩
abbrev st__law_lines : Stmt := topS 43
theorem sc__law_lines : FnScope ["_law_spec_here", "_law_rows_here", "_law_title", "_law_near", "_law_far", "_law_span", "_law_dear", "_law_turn_here"] ["_law_spec_here"] (defScope st__law_lines) := ⟨rfl, rfl, rfl, by decide +kernel, rfl, by decide +kernel, by decide +kernel⟩
abbrev st__law_made : Stmt := topS 44
theorem sc__law_made : FnScope ["_law_spec_here"] ["_law_spec_here"] (defScope st__law_made) := ⟨rfl, rfl, rfl, by decide +kernel, rfl, by decide +kernel, by decide +kernel⟩
abbrev st__law_states : Stmt := topS 45
theorem sc__law_states : FnScope ["_law_spec_here", "_law_found", "_law_k"] ["_law_spec_here"] (defScope st__law_states) := ⟨rfl, rfl, rfl, by decide +kernel, rfl, by decide +kernel, by decide +kernel⟩
abbrev st__law_plain : Stmt := topS 46
theorem sc__law_plain : FnScope ["_law_spec_here", "_law_here", "_law_period", "_law_step"] ["_law_spec_here", "_law_here"] (defScope st__law_plain) := ⟨rfl, rfl, rfl, by decide +kernel, rfl, by decide +kernel, by decide +kernel⟩
abbrev st__law_rows : Stmt := topS 47
theorem sc__law_rows : FnScope ["_law_spec_here", "_law_most_here", "_law_rows_here", "_law_span", "_law_found", "_law_title", "_law_near", "_law_far", "_law_long_here", "_law_dear", "_law_start", "_law_base", "_law_here", "_law_pair"] ["_law_spec_here", "_law_most_here"] (defScope st__law_rows) := ⟨rfl, rfl, rfl, by decide +kernel, rfl, by decide +kernel, by decide +kernel⟩
abbrev st__law_begin : Stmt := topS 48
theorem sc__law_begin : FnScope ["_law_spec_here", "_law_rows_here", "_law_period", "_law_found"] ["_law_spec_here", "_law_rows_here"] (defScope st__law_begin) := ⟨rfl, rfl, rfl, by decide +kernel, rfl, by decide +kernel, by decide +kernel⟩
abbrev st__law_right : Stmt := topS 49
theorem sc__law_right : FnScope ["_law_brook_here", "_law_spec_here", "_law_mine", "_law_rows_here", "_law_wanted"] ["_law_brook_here"] (defScope st__law_right) := ⟨rfl, rfl, rfl, by decide +kernel, rfl, by decide +kernel, by decide +kernel⟩
abbrev st_law : Stmt := topS 50
theorem sc_law : FnScope ["_law_cells", "_law_some", "_law_each", "_law_turn"] ["_law_cells"] (defScope st_law) := ⟨rfl, rfl, rfl, by decide +kernel, rfl, by decide +kernel, by decide +kernel⟩
abbrev st_Borders___init__ : Stmt := inClass (topS 28) 0
theorem sc_Borders___init__ : FnScope ["self", "text", "parts"] ["self", "text"] (defScope st_Borders___init__) := ⟨rfl, rfl, rfl, by decide +kernel, rfl, by decide +kernel, by decide +kernel⟩
abbrev st_Borders_text : Stmt := inClass (topS 28) 1
theorem sc_Borders_text : FnScope ["self"] ["self"] (defScope st_Borders_text) := ⟨rfl, rfl, rfl, by decide +kernel, rfl, by decide +kernel, by decide +kernel⟩
abbrev st_Borders_signs : Stmt := inClass (topS 28) 2
theorem sc_Borders_signs : FnScope ["self"] ["self"] (defScope st_Borders_signs) := ⟨rfl, rfl, rfl, by decide +kernel, rfl, by decide +kernel, by decide +kernel⟩
abbrev st_Borders_states : Stmt := inClass (topS 28) 3
theorem sc_Borders_states : FnScope ["self"] ["self"] (defScope st_Borders_states) := ⟨rfl, rfl, rfl, by decide +kernel, rfl, by decide +kernel, by decide +kernel⟩
abbrev st_Borders_pieces : Stmt := inClass (topS 28) 4
theorem sc_Borders_pieces : FnScope ["self"] ["self"] (defScope st_Borders_pieces) := ⟨rfl, rfl, rfl, by decide +kernel, rfl, by decide +kernel, by decide +kernel⟩
abbrev st_Borders_corners : Stmt := inClass (topS 28) 5
theorem sc_Borders_corners : FnScope ["self"] ["self"] (defScope st_Borders_corners) := ⟨rfl, rfl, rfl, by decide +kernel, rfl, by decide +kernel, by decide +kernel⟩
abbrev st_Borders_names : Stmt := inClass (topS 28) 6
theorem sc_Borders_names : FnScope ["self"] ["self"] (defScope st_Borders_names) := ⟨rfl, rfl, rfl, by decide +kernel, rfl, by decide +kernel, by decide +kernel⟩
abbrev st_Borders___eq__ : Stmt := inClass (topS 28) 9
theorem sc_Borders___eq__ : FnScope ["self", "other"] ["self", "other"] (defScope st_Borders___eq__) := ⟨rfl, rfl, rfl, by decide +kernel, rfl, by decide +kernel, by decide +kernel⟩
abbrev st_Borders___str__ : Stmt := inClass (topS 28) 10
theorem sc_Borders___str__ : FnScope ["self"] ["self"] (defScope st_Borders___str__) := ⟨rfl, rfl, rfl, by decide +kernel, rfl, by decide +kernel, by decide +kernel⟩
abbrev st_Prices___init__ : Stmt := inClass (topS 36) 0
theorem sc_Prices___init__ : FnScope ["self", "borders", "begin", "rows", "again", "same", "state"] ["self", "borders", "begin"] (defScope st_Prices___init__) := ⟨rfl, rfl, rfl, by decide +kernel, rfl, by decide +kernel, by decide +kernel⟩
abbrev st_Prices_kept_length : Stmt := inClass (topS 36) 1
theorem sc_Prices_kept_length : FnScope ["self", "length"] ["self", "length"] (defScope st_Prices_kept_length) := ⟨rfl, rfl, rfl, by decide +kernel, rfl, by decide +kernel, by decide +kernel⟩
abbrev st_Prices_cost : Stmt := inClass (topS 36) 2
theorem sc_Prices_cost : FnScope ["self", "length", "end"] ["self", "length", "end"] (defScope st_Prices_cost) := ⟨rfl, rfl, rfl, by decide +kernel, rfl, by decide +kernel, by decide +kernel⟩
abbrev st_Prices_last_step : Stmt := inClass (topS 36) 3
theorem sc_Prices_last_step : FnScope ["self", "length", "end", "cost", "step", "begin", "long", "more"] ["self", "length", "end"] (defScope st_Prices_last_step) := ⟨rfl, rfl, rfl, by decide +kernel, rfl, by decide +kernel, by decide +kernel⟩
abbrev st_Prices_filling : Stmt := inClass (topS 36) 4
theorem sc_Prices_filling : FnScope ["self", "length", "end", "left", "ahead", "steps", "step", "long"] ["self", "length", "end"] (defScope st_Prices_filling) := ⟨rfl, rfl, rfl, by decide +kernel, rfl, by decide +kernel, by decide +kernel⟩
def gOwn (C : Addr) : Ty → Option Bool
  | .ins D => if D = C then some true else none
  | _ => none
structure Tx (K : PySem.W.Frag) (mg : Str → Option Value) where
  n_all : mg "all" = none
  n_len : mg "len" = none
  n_isinstance : mg "isinstance" = none
  n_str : mg "str" = none
  n_int : mg "int" = none
  n_tuple : mg "tuple" = none
  n_range : mg "range" = none
  n_sorted : mg "sorted" = none
  n_set : mg "set" = none
  n_min : mg "min" = none
  n_max : mg "max" = none
  n_abs : mg "abs" = none
  n_divmod : mg "divmod" = none
  n_dict : mg "dict" = none
  n_list : mg "list" = none
  n_repr : mg "repr" = none
  c_LETTERS : ∃ t, mg "LETTERS" = some (.str "abcdefghijklmnopqrstuvwxyz" t)
  c_DIGITS : ∃ t, mg "DIGITS" = some (.str "0123456789" t)
  c_LONGEST_WORD : ∃ t, mg "LONGEST_WORD" = some (.int 8 t)
  c_MOST_SIGNS : ∃ t, mg "MOST_SIGNS" = some (.int 5 t)
  c_MOST_PIECES : ∃ t, mg "MOST_PIECES" = some (.int 8 t)
  c_MOST_CORNERS : ∃ t, mg "MOST_CORNERS" = some (.int 12 t)
  c_MOST_NAMES : ∃ t, mg "MOST_NAMES" = some (.int 4 t)
  c_MOST_LONG : ∃ t, mg "MOST_LONG" = some (.int 6 t)
  c_MOST_COST : ∃ t, mg "MOST_COST" = some (.int 9 t)
  c_NO_COST : ∃ t, mg "NO_COST" = some (.int 1000000 t)
  c_TURNS : TupK K mg "TURNS" ["out", "in"]
  a_is_letters : Addr
  d_is_letters : FuncData
  F_is_letters : Fun K "is_letters" "is_letters" st_is_letters a_is_letters d_is_letters
  g_is_letters : mg "is_letters" = some (.ref a_is_letters)
  b_is_letters : Binds K d_is_letters ["text", "most"] []
  a_is_word : Addr
  d_is_word : FuncData
  F_is_word : Fun K "is_word" "is_word" st_is_word a_is_word d_is_word
  g_is_word : mg "is_word" = some (.ref a_is_word)
  b_is_word : Binds K d_is_word ["value"] []
  a_number_of : Addr
  d_number_of : FuncData
  F_number_of : Fun K "number_of" "number_of" st_number_of a_number_of d_number_of
  g_number_of : mg "number_of" = some (.ref a_number_of)
  b_number_of : Binds K d_number_of ["text", "least", "most"] []
  a_signs_of : Addr
  d_signs_of : FuncData
  F_signs_of : Fun K "signs_of" "signs_of" st_signs_of a_signs_of d_signs_of
  g_signs_of : mg "signs_of" = some (.ref a_signs_of)
  b_signs_of : Binds K d_signs_of ["line"] []
  a_states_of : Addr
  d_states_of : FuncData
  F_states_of : Fun K "states_of" "states_of" st_states_of a_states_of d_states_of
  g_states_of : mg "states_of" = some (.ref a_states_of)
  b_states_of : Binds K d_states_of ["signs"] []
  a_piece_of : Addr
  d_piece_of : FuncData
  F_piece_of : Fun K "piece_of" "piece_of" st_piece_of a_piece_of d_piece_of
  g_piece_of : mg "piece_of" = some (.ref a_piece_of)
  b_piece_of : Binds K d_piece_of ["line", "states"] []
  a_corner_of : Addr
  d_corner_of : FuncData
  F_corner_of : Fun K "corner_of" "corner_of" st_corner_of a_corner_of d_corner_of
  g_corner_of : mg "corner_of" = some (.ref a_corner_of)
  b_corner_of : Binds K d_corner_of ["line", "states"] []
  a_names_of : Addr
  d_names_of : FuncData
  F_names_of : Fun K "names_of" "names_of" st_names_of a_names_of d_names_of
  g_names_of : mg "names_of" = some (.ref a_names_of)
  b_names_of : Binds K d_names_of ["rows"] []
  a_pieces_fit : Addr
  d_pieces_fit : FuncData
  F_pieces_fit : Fun K "pieces_fit" "pieces_fit" st_pieces_fit a_pieces_fit d_pieces_fit
  g_pieces_fit : mg "pieces_fit" = some (.ref a_pieces_fit)
  b_pieces_fit : Binds K d_pieces_fit ["pieces"] []
  a_corners_fit : Addr
  d_corners_fit : FuncData
  F_corners_fit : Fun K "corners_fit" "corners_fit" st_corners_fit a_corners_fit d_corners_fit
  g_corners_fit : mg "corners_fit" = some (.ref a_corners_fit)
  b_corners_fit : Binds K d_corners_fit ["corners"] []
  a_parts_of : Addr
  d_parts_of : FuncData
  F_parts_of : Fun K "parts_of" "parts_of" st_parts_of a_parts_of d_parts_of
  g_parts_of : mg "parts_of" = some (.ref a_parts_of)
  b_parts_of : Binds K d_parts_of ["text"] []
  a_check_borders : Addr
  d_check_borders : FuncData
  F_check_borders : Fun K "check_borders" "check_borders" st_check_borders a_check_borders d_check_borders
  g_check_borders : mg "check_borders" = some (.ref a_check_borders)
  b_check_borders : Binds K d_check_borders ["borders"] []
  a_state_behind : Addr
  d_state_behind : FuncData
  F_state_behind : Fun K "state_behind" "state_behind" st_state_behind a_state_behind d_state_behind
  g_state_behind : mg "state_behind" = some (.ref a_state_behind)
  b_state_behind : Binds K d_state_behind ["borders", "state", "many"] []
  a_steps_into : Addr
  d_steps_into : FuncData
  F_steps_into : Fun K "steps_into" "steps_into" st_steps_into a_steps_into d_steps_into
  g_steps_into : mg "steps_into" = some (.ref a_steps_into)
  b_steps_into : Binds K d_steps_into ["borders"] []
  a_next_row : Addr
  d_next_row : FuncData
  F_next_row : Fun K "next_row" "next_row" st_next_row a_next_row d_next_row
  g_next_row : mg "next_row" = some (.ref a_next_row)
  b_next_row : Binds K d_next_row ["rows", "steps"] []
  a_joined : Addr
  d_joined : FuncData
  F_joined : Fun K "joined" "joined" st_joined a_joined d_joined
  g_joined : mg "joined" = some (.ref a_joined)
  b_joined : Binds K d_joined ["steps"] []
  a_calendar : Addr
  d_calendar : FuncData
  F_calendar : Fun K "calendar" "calendar" st_calendar a_calendar d_calendar
  g_calendar : mg "calendar" = some (.ref a_calendar)
  b_calendar : Binds K d_calendar ["borders"] []
  kw_calendar_0 : KBn K d_calendar ["borders"] 0 ["borders"] (fun _ ws => perm [0] ws) (fun _ ws => perm [0] ws)
  a__law_brook : Addr
  d__law_brook : FuncData
  F__law_brook : Fun K "_law_brook" "_law_brook" st__law_brook a__law_brook d__law_brook
  g__law_brook : mg "_law_brook" = some (.ref a__law_brook)
  b__law_brook : Binds K d__law_brook ["_law_cells", "_law_turn"] []
  a__law_sip : Addr
  d__law_sip : FuncData
  F__law_sip : Fun K "_law_sip" "_law_sip" st__law_sip a__law_sip d__law_sip
  g__law_sip : mg "_law_sip" = some (.ref a__law_sip)
  b__law_sip : Binds K d__law_sip ["_law_brook_here", "_law_amount"] []
  a__law_state : Addr
  d__law_state : FuncData
  F__law_state : Fun K "_law_state" "_law_state" st__law_state a__law_state d__law_state
  g__law_state : mg "_law_state" = some (.ref a__law_state)
  b__law_state : Binds K d__law_state ["_law_brook_here", "_law_period"] []
  a__law_spec : Addr
  d__law_spec : FuncData
  F__law_spec : Fun K "_law_spec" "_law_spec" st__law_spec a__law_spec d__law_spec
  g__law_spec : mg "_law_spec" = some (.ref a__law_spec)
  b__law_spec : Binds K d__law_spec ["_law_brook_here", "_law_periods", "_law_lots", "_law_ends"] []
  a__law_lines : Addr
  d__law_lines : FuncData
  F__law_lines : Fun K "_law_lines" "_law_lines" st__law_lines a__law_lines d__law_lines
  g__law_lines : mg "_law_lines" = some (.ref a__law_lines)
  b__law_lines : Binds K d__law_lines ["_law_spec_here"] []
  a__law_made : Addr
  d__law_made : FuncData
  F__law_made : Fun K "_law_made" "_law_made" st__law_made a__law_made d__law_made
  g__law_made : mg "_law_made" = some (.ref a__law_made)
  b__law_made : Binds K d__law_made ["_law_spec_here"] []
  a__law_states : Addr
  d__law_states : FuncData
  F__law_states : Fun K "_law_states" "_law_states" st__law_states a__law_states d__law_states
  g__law_states : mg "_law_states" = some (.ref a__law_states)
  b__law_states : Binds K d__law_states ["_law_spec_here"] []
  a__law_plain : Addr
  d__law_plain : FuncData
  F__law_plain : Fun K "_law_plain" "_law_plain" st__law_plain a__law_plain d__law_plain
  g__law_plain : mg "_law_plain" = some (.ref a__law_plain)
  b__law_plain : Binds K d__law_plain ["_law_spec_here", "_law_here"] []
  a__law_rows : Addr
  d__law_rows : FuncData
  F__law_rows : Fun K "_law_rows" "_law_rows" st__law_rows a__law_rows d__law_rows
  g__law_rows : mg "_law_rows" = some (.ref a__law_rows)
  b__law_rows : Binds K d__law_rows ["_law_spec_here", "_law_most_here"] []
  a__law_begin : Addr
  d__law_begin : FuncData
  F__law_begin : Fun K "_law_begin" "_law_begin" st__law_begin a__law_begin d__law_begin
  g__law_begin : mg "_law_begin" = some (.ref a__law_begin)
  b__law_begin : Binds K d__law_begin ["_law_spec_here", "_law_rows_here"] []
  a__law_right : Addr
  d__law_right : FuncData
  F__law_right : Fun K "_law_right" "_law_right" st__law_right a__law_right d__law_right
  g__law_right : mg "_law_right" = some (.ref a__law_right)
  b__law_right : Binds K d__law_right ["_law_brook_here"] []
  a_law : Addr
  d_law : FuncData
  F_law : Fun K "law" "law" st_law a_law d_law
  g_law : mg "law" = some (.ref a_law)
  b_law : Binds K d_law ["_law_cells"] []
  C_Borders : Addr
  g_Borders : mg "Borders" = some (.ref C_Borders)
  cl_Borders : Cls K C_Borders
  na_whole : NoAttr K C_Borders "whole"
  na_all_states : NoAttr K C_Borders "all_states"
  na_corner_names : NoAttr K C_Borders "corner_names"
  na_motif : NoAttr K C_Borders "motif"
  na_piece_rows : NoAttr K C_Borders "piece_rows"
  na_corner_rows : NoAttr K C_Borders "corner_rows"
  ne_Borders : PySem.W.findIn K (.ref C_Borders) "__ne__" = some (some (.builtin "object.__ne__"))
  mro_Borders : PySem.W.mroIn K C_Borders (.type "object") = some true
  bool_Borders : PySem.W.findIn K (.ref C_Borders) "__bool__" = some none
  i_Borders : IsiT K (.ref C_Borders) (gOwn C_Borders)
  nolen_Borders : PySem.W.findIn K (.ref C_Borders) "__len__" = some none
  a_Borders___init__ : Addr
  d_Borders___init__ : FuncData
  F_Borders___init__ : Fun K "__init__" "Borders.__init__" st_Borders___init__ a_Borders___init__ d_Borders___init__
  b_Borders___init__ : Binds K d_Borders___init__ ["self", "text"] []
  mk_Borders : Mk K C_Borders a_Borders___init__
  kb_Borders : KBn K d_Borders___init__ ["self", "text"] 1 ["text"] (fun us ws => us ++ ws) (fun us ws => us ++ ws)
  a_Borders_text : Addr
  d_Borders_text : FuncData
  F_Borders_text : Fun K "text" "Borders.text" st_Borders_text a_Borders_text d_Borders_text
  b_Borders_text : Binds K d_Borders_text ["self"] []
  p_Borders_text : Addr
  P_Borders_text : PropOf K C_Borders "text" p_Borders_text a_Borders_text
  a_Borders_signs : Addr
  d_Borders_signs : FuncData
  F_Borders_signs : Fun K "signs" "Borders.signs" st_Borders_signs a_Borders_signs d_Borders_signs
  b_Borders_signs : Binds K d_Borders_signs ["self"] []
  p_Borders_signs : Addr
  P_Borders_signs : PropOf K C_Borders "signs" p_Borders_signs a_Borders_signs
  a_Borders_states : Addr
  d_Borders_states : FuncData
  F_Borders_states : Fun K "states" "Borders.states" st_Borders_states a_Borders_states d_Borders_states
  b_Borders_states : Binds K d_Borders_states ["self"] []
  p_Borders_states : Addr
  P_Borders_states : PropOf K C_Borders "states" p_Borders_states a_Borders_states
  a_Borders_pieces : Addr
  d_Borders_pieces : FuncData
  F_Borders_pieces : Fun K "pieces" "Borders.pieces" st_Borders_pieces a_Borders_pieces d_Borders_pieces
  b_Borders_pieces : Binds K d_Borders_pieces ["self"] []
  p_Borders_pieces : Addr
  P_Borders_pieces : PropOf K C_Borders "pieces" p_Borders_pieces a_Borders_pieces
  a_Borders_corners : Addr
  d_Borders_corners : FuncData
  F_Borders_corners : Fun K "corners" "Borders.corners" st_Borders_corners a_Borders_corners d_Borders_corners
  b_Borders_corners : Binds K d_Borders_corners ["self"] []
  p_Borders_corners : Addr
  P_Borders_corners : PropOf K C_Borders "corners" p_Borders_corners a_Borders_corners
  a_Borders_names : Addr
  d_Borders_names : FuncData
  F_Borders_names : Fun K "names" "Borders.names" st_Borders_names a_Borders_names d_Borders_names
  b_Borders_names : Binds K d_Borders_names ["self"] []
  p_Borders_names : Addr
  P_Borders_names : PropOf K C_Borders "names" p_Borders_names a_Borders_names
  a_Borders___eq__ : Addr
  d_Borders___eq__ : FuncData
  F_Borders___eq__ : Fun K "__eq__" "Borders.__eq__" st_Borders___eq__ a_Borders___eq__ d_Borders___eq__
  b_Borders___eq__ : Binds K d_Borders___eq__ ["self", "other"] []
  f_Borders___eq__ : PySem.W.findIn K (.ref C_Borders) "__eq__" = some (some (.ref a_Borders___eq__))
  k_Borders___eq__ : PySem.W.isFn K (.ref a_Borders___eq__) = true
  a_Borders___str__ : Addr
  d_Borders___str__ : FuncData
  F_Borders___str__ : Fun K "__str__" "Borders.__str__" st_Borders___str__ a_Borders___str__ d_Borders___str__
  b_Borders___str__ : Binds K d_Borders___str__ ["self"] []
  f_Borders___str__ : PySem.W.findIn K (.ref C_Borders) "__str__" = some (some (.ref a_Borders___str__))
  k_Borders___str__ : PySem.W.isFn K (.ref a_Borders___str__) = true
  C_Prices : Addr
  g_Prices : mg "Prices" = some (.ref C_Prices)
  cl_Prices : Cls K C_Prices
  na_period : NoAttr K C_Prices "period"
  na_steps : NoAttr K C_Prices "steps"
  na_since : NoAttr K C_Prices "since"
  na_costs : NoAttr K C_Prices "costs"
  ne_Prices : PySem.W.findIn K (.ref C_Prices) "__ne__" = some (some (.builtin "object.__ne__"))
  mro_Prices : PySem.W.mroIn K C_Prices (.type "object") = some true
  bool_Prices : PySem.W.findIn K (.ref C_Prices) "__bool__" = some none
  i_Prices : IsiT K (.ref C_Prices) (gOwn C_Prices)
  nolen_Prices : PySem.W.findIn K (.ref C_Prices) "__len__" = some none
  a_Prices___init__ : Addr
  d_Prices___init__ : FuncData
  F_Prices___init__ : Fun K "__init__" "Prices.__init__" st_Prices___init__ a_Prices___init__ d_Prices___init__
  b_Prices___init__ : Binds K d_Prices___init__ ["self", "borders", "begin"] []
  mk_Prices : Mk K C_Prices a_Prices___init__
  kb_Prices : KBn K d_Prices___init__ ["self", "borders", "begin"] 1 ["borders", "begin"] (fun us ws => us ++ ws) (fun us ws => us ++ ws)
  a_Prices_kept_length : Addr
  d_Prices_kept_length : FuncData
  F_Prices_kept_length : Fun K "kept_length" "Prices.kept_length" st_Prices_kept_length a_Prices_kept_length d_Prices_kept_length
  b_Prices_kept_length : Binds K d_Prices_kept_length ["self", "length"] []
  f_Prices_kept_length : PySem.W.findIn K (.ref C_Prices) "kept_length" = some (some (.ref a_Prices_kept_length))
  k_Prices_kept_length : PySem.W.isFn K (.ref a_Prices_kept_length) = true
  a_Prices_cost : Addr
  d_Prices_cost : FuncData
  F_Prices_cost : Fun K "cost" "Prices.cost" st_Prices_cost a_Prices_cost d_Prices_cost
  b_Prices_cost : Binds K d_Prices_cost ["self", "length", "end"] []
  f_Prices_cost : PySem.W.findIn K (.ref C_Prices) "cost" = some (some (.ref a_Prices_cost))
  k_Prices_cost : PySem.W.isFn K (.ref a_Prices_cost) = true
  a_Prices_last_step : Addr
  d_Prices_last_step : FuncData
  F_Prices_last_step : Fun K "last_step" "Prices.last_step" st_Prices_last_step a_Prices_last_step d_Prices_last_step
  b_Prices_last_step : Binds K d_Prices_last_step ["self", "length", "end"] []
  f_Prices_last_step : PySem.W.findIn K (.ref C_Prices) "last_step" = some (some (.ref a_Prices_last_step))
  k_Prices_last_step : PySem.W.isFn K (.ref a_Prices_last_step) = true
  a_Prices_filling : Addr
  d_Prices_filling : FuncData
  F_Prices_filling : Fun K "filling" "Prices.filling" st_Prices_filling a_Prices_filling d_Prices_filling
  b_Prices_filling : Binds K d_Prices_filling ["self", "length", "end"] []
  f_Prices_filling : PySem.W.findIn K (.ref C_Prices) "filling" = some (some (.ref a_Prices_filling))
  k_Prices_filling : PySem.W.isFn K (.ref a_Prices_filling) = true
theorem own_is {C D : Addr} {b : Bool} (h : gOwn C (.ins D) = some b) : D = C := by
  have h : (if D = C then some true else none) = some b := h
  by_cases e : D = C
  · exact e
  · rw [if_neg e] at h; cases h
theorem own_kit {K : PySem.W.Frag} {C : Addr} (t : Ty) (b : Bool) (h : gOwn C t = some b) : PySem.W.kitOne K t.val (.ref C) = some b := by
  cases t <;> first | cases h; done | skip
  rename_i D
  have e := own_is h
  subst e
  have h : (if D = D then some true else none) = some b := h
  rw [if_pos rfl] at h
  cases h
  show PySem.W.kitOne K (.ref D) (.ref D) = some true
  unfold PySem.W.kitOne
  rw [if_pos (by simp)]
def mkTx {K : PySem.W.Frag} {h : Heap} {mg : Str → Option Value} (X : K.In h) (G : h.Ns mainGlobals mg) {t_LETTERS : Tok} {t_DIGITS : Tok} {t_LONGEST_WORD : Tok} {t_MOST_SIGNS : Tok} {t_MOST_PIECES : Tok} {t_MOST_CORNERS : Tok} {t_MOST_NAMES : Tok} {t_MOST_LONG : Tok} {t_MOST_COST : Tok} {t_NO_COST : Tok} {p_TURNS : Addr} {n_TURNS : Nat} {q_TURNS_0 : Tok} {q_TURNS_1 : Tok} {dd_TURNS : Option Addr} {sl_TURNS : Array (Option Value)} {f_is_letters : Addr} {oc_is_letters kV_is_letters dc_is_letters pm_is_letters cd_is_letters ct_is_letters : Value} {od_is_letters an_is_letters : Option Addr} {sl_is_letters : Array (Option Value)} {f_is_word : Addr} {oc_is_word kV_is_word dc_is_word pm_is_word cd_is_word ct_is_word : Value} {od_is_word an_is_word : Option Addr} {sl_is_word : Array (Option Value)} {f_number_of : Addr} {oc_number_of kV_number_of dc_number_of pm_number_of cd_number_of ct_number_of : Value} {od_number_of an_number_of : Option Addr} {sl_number_of : Array (Option Value)} {f_signs_of : Addr} {oc_signs_of kV_signs_of dc_signs_of pm_signs_of cd_signs_of ct_signs_of : Value} {od_signs_of an_signs_of : Option Addr} {sl_signs_of : Array (Option Value)} {f_states_of : Addr} {oc_states_of kV_states_of dc_states_of pm_states_of cd_states_of ct_states_of : Value} {od_states_of an_states_of : Option Addr} {sl_states_of : Array (Option Value)} {f_piece_of : Addr} {oc_piece_of kV_piece_of dc_piece_of pm_piece_of cd_piece_of ct_piece_of : Value} {od_piece_of an_piece_of : Option Addr} {sl_piece_of : Array (Option Value)} {f_corner_of : Addr} {oc_corner_of kV_corner_of dc_corner_of pm_corner_of cd_corner_of ct_corner_of : Value} {od_corner_of an_corner_of : Option Addr} {sl_corner_of : Array (Option Value)} {f_names_of : Addr} {oc_names_of kV_names_of dc_names_of pm_names_of cd_names_of ct_names_of : Value} {od_names_of an_names_of : Option Addr} {sl_names_of : Array (Option Value)} {f_pieces_fit : Addr} {oc_pieces_fit kV_pieces_fit dc_pieces_fit pm_pieces_fit cd_pieces_fit ct_pieces_fit : Value} {od_pieces_fit an_pieces_fit : Option Addr} {sl_pieces_fit : Array (Option Value)} {f_corners_fit : Addr} {oc_corners_fit kV_corners_fit dc_corners_fit pm_corners_fit cd_corners_fit ct_corners_fit : Value} {od_corners_fit an_corners_fit : Option Addr} {sl_corners_fit : Array (Option Value)} {f_parts_of : Addr} {oc_parts_of kV_parts_of dc_parts_of pm_parts_of cd_parts_of ct_parts_of : Value} {od_parts_of an_parts_of : Option Addr} {sl_parts_of : Array (Option Value)} {f_check_borders : Addr} {oc_check_borders kV_check_borders dc_check_borders pm_check_borders cd_check_borders ct_check_borders : Value} {od_check_borders an_check_borders : Option Addr} {sl_check_borders : Array (Option Value)} {f_state_behind : Addr} {oc_state_behind kV_state_behind dc_state_behind pm_state_behind cd_state_behind ct_state_behind : Value} {od_state_behind an_state_behind : Option Addr} {sl_state_behind : Array (Option Value)} {f_steps_into : Addr} {oc_steps_into kV_steps_into dc_steps_into pm_steps_into cd_steps_into ct_steps_into : Value} {od_steps_into an_steps_into : Option Addr} {sl_steps_into : Array (Option Value)} {f_next_row : Addr} {oc_next_row kV_next_row dc_next_row pm_next_row cd_next_row ct_next_row : Value} {od_next_row an_next_row : Option Addr} {sl_next_row : Array (Option Value)} {f_joined : Addr} {oc_joined kV_joined dc_joined pm_joined cd_joined ct_joined : Value} {od_joined an_joined : Option Addr} {sl_joined : Array (Option Value)} {f_calendar : Addr} {oc_calendar kV_calendar dc_calendar pm_calendar cd_calendar ct_calendar : Value} {od_calendar an_calendar : Option Addr} {sl_calendar : Array (Option Value)} {f__law_brook : Addr} {oc__law_brook kV__law_brook dc__law_brook pm__law_brook cd__law_brook ct__law_brook : Value} {od__law_brook an__law_brook : Option Addr} {sl__law_brook : Array (Option Value)} {f__law_sip : Addr} {oc__law_sip kV__law_sip dc__law_sip pm__law_sip cd__law_sip ct__law_sip : Value} {od__law_sip an__law_sip : Option Addr} {sl__law_sip : Array (Option Value)} {f__law_state : Addr} {oc__law_state kV__law_state dc__law_state pm__law_state cd__law_state ct__law_state : Value} {od__law_state an__law_state : Option Addr} {sl__law_state : Array (Option Value)} {f__law_spec : Addr} {oc__law_spec kV__law_spec dc__law_spec pm__law_spec cd__law_spec ct__law_spec : Value} {od__law_spec an__law_spec : Option Addr} {sl__law_spec : Array (Option Value)} {f__law_lines : Addr} {oc__law_lines kV__law_lines dc__law_lines pm__law_lines cd__law_lines ct__law_lines : Value} {od__law_lines an__law_lines : Option Addr} {sl__law_lines : Array (Option Value)} {f__law_made : Addr} {oc__law_made kV__law_made dc__law_made pm__law_made cd__law_made ct__law_made : Value} {od__law_made an__law_made : Option Addr} {sl__law_made : Array (Option Value)} {f__law_states : Addr} {oc__law_states kV__law_states dc__law_states pm__law_states cd__law_states ct__law_states : Value} {od__law_states an__law_states : Option Addr} {sl__law_states : Array (Option Value)} {f__law_plain : Addr} {oc__law_plain kV__law_plain dc__law_plain pm__law_plain cd__law_plain ct__law_plain : Value} {od__law_plain an__law_plain : Option Addr} {sl__law_plain : Array (Option Value)} {f__law_rows : Addr} {oc__law_rows kV__law_rows dc__law_rows pm__law_rows cd__law_rows ct__law_rows : Value} {od__law_rows an__law_rows : Option Addr} {sl__law_rows : Array (Option Value)} {f__law_begin : Addr} {oc__law_begin kV__law_begin dc__law_begin pm__law_begin cd__law_begin ct__law_begin : Value} {od__law_begin an__law_begin : Option Addr} {sl__law_begin : Array (Option Value)} {f__law_right : Addr} {oc__law_right kV__law_right dc__law_right pm__law_right cd__law_right ct__law_right : Value} {od__law_right an__law_right : Option Addr} {sl__law_right : Array (Option Value)} {f_law : Addr} {oc_law kV_law dc_law pm_law cd_law ct_law : Value} {od_law an_law : Option Addr} {sl_law : Array (Option Value)} {C_Borders : Addr} {f_Borders___init__ : Addr} {oc_Borders___init__ kV_Borders___init__ dc_Borders___init__ pm_Borders___init__ cd_Borders___init__ ct_Borders___init__ : Value} {od_Borders___init__ an_Borders___init__ : Option Addr} {sl_Borders___init__ : Array (Option Value)} {p_Borders_text : Addr} {rest_Borders_text : List Value} {f_Borders_text : Addr} {oc_Borders_text kV_Borders_text dc_Borders_text pm_Borders_text cd_Borders_text ct_Borders_text : Value} {od_Borders_text an_Borders_text : Option Addr} {sl_Borders_text : Array (Option Value)} {p_Borders_signs : Addr} {rest_Borders_signs : List Value} {f_Borders_signs : Addr} {oc_Borders_signs kV_Borders_signs dc_Borders_signs pm_Borders_signs cd_Borders_signs ct_Borders_signs : Value} {od_Borders_signs an_Borders_signs : Option Addr} {sl_Borders_signs : Array (Option Value)} {p_Borders_states : Addr} {rest_Borders_states : List Value} {f_Borders_states : Addr} {oc_Borders_states kV_Borders_states dc_Borders_states pm_Borders_states cd_Borders_states ct_Borders_states : Value} {od_Borders_states an_Borders_states : Option Addr} {sl_Borders_states : Array (Option Value)} {p_Borders_pieces : Addr} {rest_Borders_pieces : List Value} {f_Borders_pieces : Addr} {oc_Borders_pieces kV_Borders_pieces dc_Borders_pieces pm_Borders_pieces cd_Borders_pieces ct_Borders_pieces : Value} {od_Borders_pieces an_Borders_pieces : Option Addr} {sl_Borders_pieces : Array (Option Value)} {p_Borders_corners : Addr} {rest_Borders_corners : List Value} {f_Borders_corners : Addr} {oc_Borders_corners kV_Borders_corners dc_Borders_corners pm_Borders_corners cd_Borders_corners ct_Borders_corners : Value} {od_Borders_corners an_Borders_corners : Option Addr} {sl_Borders_corners : Array (Option Value)} {p_Borders_names : Addr} {rest_Borders_names : List Value} {f_Borders_names : Addr} {oc_Borders_names kV_Borders_names dc_Borders_names pm_Borders_names cd_Borders_names ct_Borders_names : Value} {od_Borders_names an_Borders_names : Option Addr} {sl_Borders_names : Array (Option Value)} {f_Borders___eq__ : Addr} {oc_Borders___eq__ kV_Borders___eq__ dc_Borders___eq__ pm_Borders___eq__ cd_Borders___eq__ ct_Borders___eq__ : Value} {od_Borders___eq__ an_Borders___eq__ : Option Addr} {sl_Borders___eq__ : Array (Option Value)} {f_Borders___str__ : Addr} {oc_Borders___str__ kV_Borders___str__ dc_Borders___str__ pm_Borders___str__ cd_Borders___str__ ct_Borders___str__ : Value} {od_Borders___str__ an_Borders___str__ : Option Addr} {sl_Borders___str__ : Array (Option Value)} {C_Prices : Addr} {f_Prices___init__ : Addr} {oc_Prices___init__ kV_Prices___init__ dc_Prices___init__ pm_Prices___init__ cd_Prices___init__ ct_Prices___init__ : Value} {od_Prices___init__ an_Prices___init__ : Option Addr} {sl_Prices___init__ : Array (Option Value)} {f_Prices_kept_length : Addr} {oc_Prices_kept_length kV_Prices_kept_length dc_Prices_kept_length pm_Prices_kept_length cd_Prices_kept_length ct_Prices_kept_length : Value} {od_Prices_kept_length an_Prices_kept_length : Option Addr} {sl_Prices_kept_length : Array (Option Value)} {f_Prices_cost : Addr} {oc_Prices_cost kV_Prices_cost dc_Prices_cost pm_Prices_cost cd_Prices_cost ct_Prices_cost : Value} {od_Prices_cost an_Prices_cost : Option Addr} {sl_Prices_cost : Array (Option Value)} {f_Prices_last_step : Addr} {oc_Prices_last_step kV_Prices_last_step dc_Prices_last_step pm_Prices_last_step cd_Prices_last_step ct_Prices_last_step : Value} {od_Prices_last_step an_Prices_last_step : Option Addr} {sl_Prices_last_step : Array (Option Value)} {f_Prices_filling : Addr} {oc_Prices_filling kV_Prices_filling dc_Prices_filling pm_Prices_filling cd_Prices_filling ct_Prices_filling : Value} {od_Prices_filling an_Prices_filling : Option Addr} {sl_Prices_filling : Array (Option Value)}
    (z_all : PySem.W.nsIn K mainGlobals "all" = some none)
    (z_len : PySem.W.nsIn K mainGlobals "len" = some none)
    (z_isinstance : PySem.W.nsIn K mainGlobals "isinstance" = some none)
    (z_str : PySem.W.nsIn K mainGlobals "str" = some none)
    (z_int : PySem.W.nsIn K mainGlobals "int" = some none)
    (z_tuple : PySem.W.nsIn K mainGlobals "tuple" = some none)
    (z_range : PySem.W.nsIn K mainGlobals "range" = some none)
    (z_sorted : PySem.W.nsIn K mainGlobals "sorted" = some none)
    (z_set : PySem.W.nsIn K mainGlobals "set" = some none)
    (z_min : PySem.W.nsIn K mainGlobals "min" = some none)
    (z_max : PySem.W.nsIn K mainGlobals "max" = some none)
    (z_abs : PySem.W.nsIn K mainGlobals "abs" = some none)
    (z_divmod : PySem.W.nsIn K mainGlobals "divmod" = some none)
    (z_dict : PySem.W.nsIn K mainGlobals "dict" = some none)
    (z_list : PySem.W.nsIn K mainGlobals "list" = some none)
    (z_repr : PySem.W.nsIn K mainGlobals "repr" = some none)
    (s_LETTERS : PySem.W.nsIn K mainGlobals "LETTERS" = some (some (.str "abcdefghijklmnopqrstuvwxyz" t_LETTERS)))
    (s_DIGITS : PySem.W.nsIn K mainGlobals "DIGITS" = some (some (.str "0123456789" t_DIGITS)))
    (s_LONGEST_WORD : PySem.W.nsIn K mainGlobals "LONGEST_WORD" = some (some (.int 8 t_LONGEST_WORD)))
    (s_MOST_SIGNS : PySem.W.nsIn K mainGlobals "MOST_SIGNS" = some (some (.int 5 t_MOST_SIGNS)))
    (s_MOST_PIECES : PySem.W.nsIn K mainGlobals "MOST_PIECES" = some (some (.int 8 t_MOST_PIECES)))
    (s_MOST_CORNERS : PySem.W.nsIn K mainGlobals "MOST_CORNERS" = some (some (.int 12 t_MOST_CORNERS)))
    (s_MOST_NAMES : PySem.W.nsIn K mainGlobals "MOST_NAMES" = some (some (.int 4 t_MOST_NAMES)))
    (s_MOST_LONG : PySem.W.nsIn K mainGlobals "MOST_LONG" = some (some (.int 6 t_MOST_LONG)))
    (s_MOST_COST : PySem.W.nsIn K mainGlobals "MOST_COST" = some (some (.int 9 t_MOST_COST)))
    (s_NO_COST : PySem.W.nsIn K mainGlobals "NO_COST" = some (some (.int 1000000 t_NO_COST)))
    (s_TURNS : PySem.W.nsIn K mainGlobals "TURNS" = some (some (.ref p_TURNS)))
    (l_TURNS : K.lookup p_TURNS = some { cls := .type "tuple", dict := dd_TURNS, data := .seq #[.str "out" q_TURNS_0, .str "in" q_TURNS_1] n_TURNS, slots := sl_TURNS })
    (ag_is_letters : PySem.W.nsIn K mainGlobals "is_letters" = some (some (.ref f_is_letters)))
    (l_is_letters : K.lookup f_is_letters = some ⟨oc_is_letters, od_is_letters, .func (PySem.W.fnOf "is_letters" "is_letters" (defArgs st_is_letters) (defBody st_is_letters) (defScope st_is_letters) .none kV_is_letters dc_is_letters pm_is_letters an_is_letters cd_is_letters ct_is_letters), sl_is_letters⟩)
    (c_is_letters : PySem.W.codeIn K cd_is_letters "is_letters" = true)
    (k_is_letters : PySem.W.keepIn K (.ref f_is_letters) = true)
    (ag_is_word : PySem.W.nsIn K mainGlobals "is_word" = some (some (.ref f_is_word)))
    (l_is_word : K.lookup f_is_word = some ⟨oc_is_word, od_is_word, .func (PySem.W.fnOf "is_word" "is_word" (defArgs st_is_word) (defBody st_is_word) (defScope st_is_word) .none kV_is_word dc_is_word pm_is_word an_is_word cd_is_word ct_is_word), sl_is_word⟩)
    (c_is_word : PySem.W.codeIn K cd_is_word "is_word" = true)
    (k_is_word : PySem.W.keepIn K (.ref f_is_word) = true)
    (ag_number_of : PySem.W.nsIn K mainGlobals "number_of" = some (some (.ref f_number_of)))
    (l_number_of : K.lookup f_number_of = some ⟨oc_number_of, od_number_of, .func (PySem.W.fnOf "number_of" "number_of" (defArgs st_number_of) (defBody st_number_of) (defScope st_number_of) .none kV_number_of dc_number_of pm_number_of an_number_of cd_number_of ct_number_of), sl_number_of⟩)
    (c_number_of : PySem.W.codeIn K cd_number_of "number_of" = true)
    (k_number_of : PySem.W.keepIn K (.ref f_number_of) = true)
    (ag_signs_of : PySem.W.nsIn K mainGlobals "signs_of" = some (some (.ref f_signs_of)))
    (l_signs_of : K.lookup f_signs_of = some ⟨oc_signs_of, od_signs_of, .func (PySem.W.fnOf "signs_of" "signs_of" (defArgs st_signs_of) (defBody st_signs_of) (defScope st_signs_of) .none kV_signs_of dc_signs_of pm_signs_of an_signs_of cd_signs_of ct_signs_of), sl_signs_of⟩)
    (c_signs_of : PySem.W.codeIn K cd_signs_of "signs_of" = true)
    (k_signs_of : PySem.W.keepIn K (.ref f_signs_of) = true)
    (ag_states_of : PySem.W.nsIn K mainGlobals "states_of" = some (some (.ref f_states_of)))
    (l_states_of : K.lookup f_states_of = some ⟨oc_states_of, od_states_of, .func (PySem.W.fnOf "states_of" "states_of" (defArgs st_states_of) (defBody st_states_of) (defScope st_states_of) .none kV_states_of dc_states_of pm_states_of an_states_of cd_states_of ct_states_of), sl_states_of⟩)
    (c_states_of : PySem.W.codeIn K cd_states_of "states_of" = true)
    (k_states_of : PySem.W.keepIn K (.ref f_states_of) = true)
    (ag_piece_of : PySem.W.nsIn K mainGlobals "piece_of" = some (some (.ref f_piece_of)))
    (l_piece_of : K.lookup f_piece_of = some ⟨oc_piece_of, od_piece_of, .func (PySem.W.fnOf "piece_of" "piece_of" (defArgs st_piece_of) (defBody st_piece_of) (defScope st_piece_of) .none kV_piece_of dc_piece_of pm_piece_of an_piece_of cd_piece_of ct_piece_of), sl_piece_of⟩)
    (c_piece_of : PySem.W.codeIn K cd_piece_of "piece_of" = true)
    (k_piece_of : PySem.W.keepIn K (.ref f_piece_of) = true)
    (ag_corner_of : PySem.W.nsIn K mainGlobals "corner_of" = some (some (.ref f_corner_of)))
    (l_corner_of : K.lookup f_corner_of = some ⟨oc_corner_of, od_corner_of, .func (PySem.W.fnOf "corner_of" "corner_of" (defArgs st_corner_of) (defBody st_corner_of) (defScope st_corner_of) .none kV_corner_of dc_corner_of pm_corner_of an_corner_of cd_corner_of ct_corner_of), sl_corner_of⟩)
    (c_corner_of : PySem.W.codeIn K cd_corner_of "corner_of" = true)
    (k_corner_of : PySem.W.keepIn K (.ref f_corner_of) = true)
    (ag_names_of : PySem.W.nsIn K mainGlobals "names_of" = some (some (.ref f_names_of)))
    (l_names_of : K.lookup f_names_of = some ⟨oc_names_of, od_names_of, .func (PySem.W.fnOf "names_of" "names_of" (defArgs st_names_of) (defBody st_names_of) (defScope st_names_of) .none kV_names_of dc_names_of pm_names_of an_names_of cd_names_of ct_names_of), sl_names_of⟩)
    (c_names_of : PySem.W.codeIn K cd_names_of "names_of" = true)
    (k_names_of : PySem.W.keepIn K (.ref f_names_of) = true)
    (ag_pieces_fit : PySem.W.nsIn K mainGlobals "pieces_fit" = some (some (.ref f_pieces_fit)))
    (l_pieces_fit : K.lookup f_pieces_fit = some ⟨oc_pieces_fit, od_pieces_fit, .func (PySem.W.fnOf "pieces_fit" "pieces_fit" (defArgs st_pieces_fit) (defBody st_pieces_fit) (defScope st_pieces_fit) .none kV_pieces_fit dc_pieces_fit pm_pieces_fit an_pieces_fit cd_pieces_fit ct_pieces_fit), sl_pieces_fit⟩)
    (c_pieces_fit : PySem.W.codeIn K cd_pieces_fit "pieces_fit" = true)
    (k_pieces_fit : PySem.W.keepIn K (.ref f_pieces_fit) = true)
    (ag_corners_fit : PySem.W.nsIn K mainGlobals "corners_fit" = some (some (.ref f_corners_fit)))
    (l_corners_fit : K.lookup f_corners_fit = some ⟨oc_corners_fit, od_corners_fit, .func (PySem.W.fnOf "corners_fit" "corners_fit" (defArgs st_corners_fit) (defBody st_corners_fit) (defScope st_corners_fit) .none kV_corners_fit dc_corners_fit pm_corners_fit an_corners_fit cd_corners_fit ct_corners_fit), sl_corners_fit⟩)
    (c_corners_fit : PySem.W.codeIn K cd_corners_fit "corners_fit" = true)
    (k_corners_fit : PySem.W.keepIn K (.ref f_corners_fit) = true)
    (ag_parts_of : PySem.W.nsIn K mainGlobals "parts_of" = some (some (.ref f_parts_of)))
    (l_parts_of : K.lookup f_parts_of = some ⟨oc_parts_of, od_parts_of, .func (PySem.W.fnOf "parts_of" "parts_of" (defArgs st_parts_of) (defBody st_parts_of) (defScope st_parts_of) .none kV_parts_of dc_parts_of pm_parts_of an_parts_of cd_parts_of ct_parts_of), sl_parts_of⟩)
    (c_parts_of : PySem.W.codeIn K cd_parts_of "parts_of" = true)
    (k_parts_of : PySem.W.keepIn K (.ref f_parts_of) = true)
    (ag_check_borders : PySem.W.nsIn K mainGlobals "check_borders" = some (some (.ref f_check_borders)))
    (l_check_borders : K.lookup f_check_borders = some ⟨oc_check_borders, od_check_borders, .func (PySem.W.fnOf "check_borders" "check_borders" (defArgs st_check_borders) (defBody st_check_borders) (defScope st_check_borders) .none kV_check_borders dc_check_borders pm_check_borders an_check_borders cd_check_borders ct_check_borders), sl_check_borders⟩)
    (c_check_borders : PySem.W.codeIn K cd_check_borders "check_borders" = true)
    (k_check_borders : PySem.W.keepIn K (.ref f_check_borders) = true)
    (ag_state_behind : PySem.W.nsIn K mainGlobals "state_behind" = some (some (.ref f_state_behind)))
    (l_state_behind : K.lookup f_state_behind = some ⟨oc_state_behind, od_state_behind, .func (PySem.W.fnOf "state_behind" "state_behind" (defArgs st_state_behind) (defBody st_state_behind) (defScope st_state_behind) .none kV_state_behind dc_state_behind pm_state_behind an_state_behind cd_state_behind ct_state_behind), sl_state_behind⟩)
    (c_state_behind : PySem.W.codeIn K cd_state_behind "state_behind" = true)
    (k_state_behind : PySem.W.keepIn K (.ref f_state_behind) = true)
    (ag_steps_into : PySem.W.nsIn K mainGlobals "steps_into" = some (some (.ref f_steps_into)))
    (l_steps_into : K.lookup f_steps_into = some ⟨oc_steps_into, od_steps_into, .func (PySem.W.fnOf "steps_into" "steps_into" (defArgs st_steps_into) (defBody st_steps_into) (defScope st_steps_into) .none kV_steps_into dc_steps_into pm_steps_into an_steps_into cd_steps_into ct_steps_into), sl_steps_into⟩)
    (c_steps_into : PySem.W.codeIn K cd_steps_into "steps_into" = true)
    (k_steps_into : PySem.W.keepIn K (.ref f_steps_into) = true)
    (ag_next_row : PySem.W.nsIn K mainGlobals "next_row" = some (some (.ref f_next_row)))
    (l_next_row : K.lookup f_next_row = some ⟨oc_next_row, od_next_row, .func (PySem.W.fnOf "next_row" "next_row" (defArgs st_next_row) (defBody st_next_row) (defScope st_next_row) .none kV_next_row dc_next_row pm_next_row an_next_row cd_next_row ct_next_row), sl_next_row⟩)
    (c_next_row : PySem.W.codeIn K cd_next_row "next_row" = true)
    (k_next_row : PySem.W.keepIn K (.ref f_next_row) = true)
    (ag_joined : PySem.W.nsIn K mainGlobals "joined" = some (some (.ref f_joined)))
    (l_joined : K.lookup f_joined = some ⟨oc_joined, od_joined, .func (PySem.W.fnOf "joined" "joined" (defArgs st_joined) (defBody st_joined) (defScope st_joined) .none kV_joined dc_joined pm_joined an_joined cd_joined ct_joined), sl_joined⟩)
    (c_joined : PySem.W.codeIn K cd_joined "joined" = true)
    (k_joined : PySem.W.keepIn K (.ref f_joined) = true)
    (ag_calendar : PySem.W.nsIn K mainGlobals "calendar" = some (some (.ref f_calendar)))
    (l_calendar : K.lookup f_calendar = some ⟨oc_calendar, od_calendar, .func (PySem.W.fnOf "calendar" "calendar" (defArgs st_calendar) (defBody st_calendar) (defScope st_calendar) .none kV_calendar dc_calendar pm_calendar an_calendar cd_calendar ct_calendar), sl_calendar⟩)
    (c_calendar : PySem.W.codeIn K cd_calendar "calendar" = true)
    (k_calendar : PySem.W.keepIn K (.ref f_calendar) = true)
    (ag__law_brook : PySem.W.nsIn K mainGlobals "_law_brook" = some (some (.ref f__law_brook)))
    (l__law_brook : K.lookup f__law_brook = some ⟨oc__law_brook, od__law_brook, .func (PySem.W.fnOf "_law_brook" "_law_brook" (defArgs st__law_brook) (defBody st__law_brook) (defScope st__law_brook) .none kV__law_brook dc__law_brook pm__law_brook an__law_brook cd__law_brook ct__law_brook), sl__law_brook⟩)
    (c__law_brook : PySem.W.codeIn K cd__law_brook "_law_brook" = true)
    (k__law_brook : PySem.W.keepIn K (.ref f__law_brook) = true)
    (ag__law_sip : PySem.W.nsIn K mainGlobals "_law_sip" = some (some (.ref f__law_sip)))
    (l__law_sip : K.lookup f__law_sip = some ⟨oc__law_sip, od__law_sip, .func (PySem.W.fnOf "_law_sip" "_law_sip" (defArgs st__law_sip) (defBody st__law_sip) (defScope st__law_sip) .none kV__law_sip dc__law_sip pm__law_sip an__law_sip cd__law_sip ct__law_sip), sl__law_sip⟩)
    (c__law_sip : PySem.W.codeIn K cd__law_sip "_law_sip" = true)
    (k__law_sip : PySem.W.keepIn K (.ref f__law_sip) = true)
    (ag__law_state : PySem.W.nsIn K mainGlobals "_law_state" = some (some (.ref f__law_state)))
    (l__law_state : K.lookup f__law_state = some ⟨oc__law_state, od__law_state, .func (PySem.W.fnOf "_law_state" "_law_state" (defArgs st__law_state) (defBody st__law_state) (defScope st__law_state) .none kV__law_state dc__law_state pm__law_state an__law_state cd__law_state ct__law_state), sl__law_state⟩)
    (c__law_state : PySem.W.codeIn K cd__law_state "_law_state" = true)
    (k__law_state : PySem.W.keepIn K (.ref f__law_state) = true)
    (ag__law_spec : PySem.W.nsIn K mainGlobals "_law_spec" = some (some (.ref f__law_spec)))
    (l__law_spec : K.lookup f__law_spec = some ⟨oc__law_spec, od__law_spec, .func (PySem.W.fnOf "_law_spec" "_law_spec" (defArgs st__law_spec) (defBody st__law_spec) (defScope st__law_spec) .none kV__law_spec dc__law_spec pm__law_spec an__law_spec cd__law_spec ct__law_spec), sl__law_spec⟩)
    (c__law_spec : PySem.W.codeIn K cd__law_spec "_law_spec" = true)
    (k__law_spec : PySem.W.keepIn K (.ref f__law_spec) = true)
    (ag__law_lines : PySem.W.nsIn K mainGlobals "_law_lines" = some (some (.ref f__law_lines)))
    (l__law_lines : K.lookup f__law_lines = some ⟨oc__law_lines, od__law_lines, .func (PySem.W.fnOf "_law_lines" "_law_lines" (defArgs st__law_lines) (defBody st__law_lines) (defScope st__law_lines) .none kV__law_lines dc__law_lines pm__law_lines an__law_lines cd__law_lines ct__law_lines), sl__law_lines⟩)
    (c__law_lines : PySem.W.codeIn K cd__law_lines "_law_lines" = true)
    (k__law_lines : PySem.W.keepIn K (.ref f__law_lines) = true)
    (ag__law_made : PySem.W.nsIn K mainGlobals "_law_made" = some (some (.ref f__law_made)))
    (l__law_made : K.lookup f__law_made = some ⟨oc__law_made, od__law_made, .func (PySem.W.fnOf "_law_made" "_law_made" (defArgs st__law_made) (defBody st__law_made) (defScope st__law_made) .none kV__law_made dc__law_made pm__law_made an__law_made cd__law_made ct__law_made), sl__law_made⟩)
    (c__law_made : PySem.W.codeIn K cd__law_made "_law_made" = true)
    (k__law_made : PySem.W.keepIn K (.ref f__law_made) = true)
    (ag__law_states : PySem.W.nsIn K mainGlobals "_law_states" = some (some (.ref f__law_states)))
    (l__law_states : K.lookup f__law_states = some ⟨oc__law_states, od__law_states, .func (PySem.W.fnOf "_law_states" "_law_states" (defArgs st__law_states) (defBody st__law_states) (defScope st__law_states) .none kV__law_states dc__law_states pm__law_states an__law_states cd__law_states ct__law_states), sl__law_states⟩)
    (c__law_states : PySem.W.codeIn K cd__law_states "_law_states" = true)
    (k__law_states : PySem.W.keepIn K (.ref f__law_states) = true)
    (ag__law_plain : PySem.W.nsIn K mainGlobals "_law_plain" = some (some (.ref f__law_plain)))
    (l__law_plain : K.lookup f__law_plain = some ⟨oc__law_plain, od__law_plain, .func (PySem.W.fnOf "_law_plain" "_law_plain" (defArgs st__law_plain) (defBody st__law_plain) (defScope st__law_plain) .none kV__law_plain dc__law_plain pm__law_plain an__law_plain cd__law_plain ct__law_plain), sl__law_plain⟩)
    (c__law_plain : PySem.W.codeIn K cd__law_plain "_law_plain" = true)
    (k__law_plain : PySem.W.keepIn K (.ref f__law_plain) = true)
    (ag__law_rows : PySem.W.nsIn K mainGlobals "_law_rows" = some (some (.ref f__law_rows)))
    (l__law_rows : K.lookup f__law_rows = some ⟨oc__law_rows, od__law_rows, .func (PySem.W.fnOf "_law_rows" "_law_rows" (defArgs st__law_rows) (defBody st__law_rows) (defScope st__law_rows) .none kV__law_rows dc__law_rows pm__law_rows an__law_rows cd__law_rows ct__law_rows), sl__law_rows⟩)
    (c__law_rows : PySem.W.codeIn K cd__law_rows "_law_rows" = true)
    (k__law_rows : PySem.W.keepIn K (.ref f__law_rows) = true)
    (ag__law_begin : PySem.W.nsIn K mainGlobals "_law_begin" = some (some (.ref f__law_begin)))
    (l__law_begin : K.lookup f__law_begin = some ⟨oc__law_begin, od__law_begin, .func (PySem.W.fnOf "_law_begin" "_law_begin" (defArgs st__law_begin) (defBody st__law_begin) (defScope st__law_begin) .none kV__law_begin dc__law_begin pm__law_begin an__law_begin cd__law_begin ct__law_begin), sl__law_begin⟩)
    (c__law_begin : PySem.W.codeIn K cd__law_begin "_law_begin" = true)
    (k__law_begin : PySem.W.keepIn K (.ref f__law_begin) = true)
    (ag__law_right : PySem.W.nsIn K mainGlobals "_law_right" = some (some (.ref f__law_right)))
    (l__law_right : K.lookup f__law_right = some ⟨oc__law_right, od__law_right, .func (PySem.W.fnOf "_law_right" "_law_right" (defArgs st__law_right) (defBody st__law_right) (defScope st__law_right) .none kV__law_right dc__law_right pm__law_right an__law_right cd__law_right ct__law_right), sl__law_right⟩)
    (c__law_right : PySem.W.codeIn K cd__law_right "_law_right" = true)
    (k__law_right : PySem.W.keepIn K (.ref f__law_right) = true)
    (ag_law : PySem.W.nsIn K mainGlobals "law" = some (some (.ref f_law)))
    (l_law : K.lookup f_law = some ⟨oc_law, od_law, .func (PySem.W.fnOf "law" "law" (defArgs st_law) (defBody st_law) (defScope st_law) .none kV_law dc_law pm_law an_law cd_law ct_law), sl_law⟩)
    (c_law : PySem.W.codeIn K cd_law "law" = true)
    (k_law : PySem.W.keepIn K (.ref f_law) = true)
    (aC_Borders : PySem.W.nsIn K mainGlobals "Borders" = some (some (.ref C_Borders)))
    (pg_Borders : PySem.W.plainGet K C_Borders Str.empty = true)
    (hd_Borders : PySem.W.hasDictIn K C_Borders = true)
    (po_Borders : PySem.W.plainOver K C_Borders = true)
    (sa_Borders : PySem.W.findIn K (.ref C_Borders) "__setattr__" = some (some (.builtin "object.__setattr__")))
    (mk_Borders : PySem.W.makesIn K C_Borders = true)
    (kc_Borders : PySem.W.keepIn K (.ref C_Borders) = true)
    (ne_Borders : PySem.W.findIn K (.ref C_Borders) "__ne__" = some (some (.builtin "object.__ne__")))
    (mro_Borders : PySem.W.mroIn K C_Borders (.type "object") = some true)
    (bool_Borders : PySem.W.findIn K (.ref C_Borders) "__bool__" = some none)
    (hcl_Borders : PySem.W.findIn K (.ref C_Borders) "__class__" = some (some (.builtin "object.__class__")))
    (hsp_Borders : PySem.W.specialIn K (.builtin "object.__class__") "__get__" = some (some (.builtin "getset_descriptor.__get__")))
    (htk_Borders : PySem.W.takesIn K (.builtin "object.__class__") = some true)
    (na_whole_Borders : PySem.W.findIn K (.ref C_Borders) "whole" = some none)
    (na_all_states_Borders : PySem.W.findIn K (.ref C_Borders) "all_states" = some none)
    (na_corner_names_Borders : PySem.W.findIn K (.ref C_Borders) "corner_names" = some none)
    (na_motif_Borders : PySem.W.findIn K (.ref C_Borders) "motif" = some none)
    (na_piece_rows_Borders : PySem.W.findIn K (.ref C_Borders) "piece_rows" = some none)
    (na_corner_rows_Borders : PySem.W.findIn K (.ref C_Borders) "corner_rows" = some none)
    (nolen_Borders : PySem.W.findIn K (.ref C_Borders) "__len__" = some none)
    (l_Borders___init__ : K.lookup f_Borders___init__ = some ⟨oc_Borders___init__, od_Borders___init__, .func (PySem.W.fnOf "__init__" "Borders.__init__" (defArgs st_Borders___init__) (defBody st_Borders___init__) (defScope st_Borders___init__) .none kV_Borders___init__ dc_Borders___init__ pm_Borders___init__ an_Borders___init__ cd_Borders___init__ ct_Borders___init__), sl_Borders___init__⟩)
    (c_Borders___init__ : PySem.W.codeIn K cd_Borders___init__ "Borders.__init__" = true)
    (k_Borders___init__ : PySem.W.keepIn K (.ref f_Borders___init__) = true)
    (e_Borders___init__ : PySem.W.findIn K (.ref C_Borders) "__init__" = some (some (.ref f_Borders___init__)))
    (i_Borders___init__ : PySem.W.isFn K (.ref f_Borders___init__) = true)
    (l_Borders_text : K.lookup f_Borders_text = some ⟨oc_Borders_text, od_Borders_text, .func (PySem.W.fnOf "text" "Borders.text" (defArgs st_Borders_text) (defBody st_Borders_text) (defScope st_Borders_text) .none kV_Borders_text dc_Borders_text pm_Borders_text an_Borders_text cd_Borders_text ct_Borders_text), sl_Borders_text⟩)
    (c_Borders_text : PySem.W.codeIn K cd_Borders_text "Borders.text" = true)
    (k_Borders_text : PySem.W.keepIn K (.ref f_Borders_text) = true)
    (e_Borders_text : PySem.W.findIn K (.ref C_Borders) "text" = some (some (.ref p_Borders_text)))
    (g_Borders_text : PySem.W.specialIn K (.ref p_Borders_text) "__get__" = some (some (.builtin "property.__get__")))
    (tk_Borders_text : PySem.W.takesIn K (.ref p_Borders_text) = some true)
    (r_Borders_text : PySem.W.recIn K p_Borders_text "property" = some (.ref f_Borders_text :: rest_Borders_text))
    (l_Borders_signs : K.lookup f_Borders_signs = some ⟨oc_Borders_signs, od_Borders_signs, .func (PySem.W.fnOf "signs" "Borders.signs" (defArgs st_Borders_signs) (defBody st_Borders_signs) (defScope st_Borders_signs) .none kV_Borders_signs dc_Borders_signs pm_Borders_signs an_Borders_signs cd_Borders_signs ct_Borders_signs), sl_Borders_signs⟩)
    (c_Borders_signs : PySem.W.codeIn K cd_Borders_signs "Borders.signs" = true)
    (k_Borders_signs : PySem.W.keepIn K (.ref f_Borders_signs) = true)
    (e_Borders_signs : PySem.W.findIn K (.ref C_Borders) "signs" = some (some (.ref p_Borders_signs)))
    (g_Borders_signs : PySem.W.specialIn K (.ref p_Borders_signs) "__get__" = some (some (.builtin "property.__get__")))
    (tk_Borders_signs : PySem.W.takesIn K (.ref p_Borders_signs) = some true)
    (r_Borders_signs : PySem.W.recIn K p_Borders_signs "property" = some (.ref f_Borders_signs :: rest_Borders_signs))
    (l_Borders_states : K.lookup f_Borders_states = some ⟨oc_Borders_states, od_Borders_states, .func (PySem.W.fnOf "states" "Borders.states" (defArgs st_Borders_states) (defBody st_Borders_states) (defScope st_Borders_states) .none kV_Borders_states dc_Borders_states pm_Borders_states an_Borders_states cd_Borders_states ct_Borders_states), sl_Borders_states⟩)
    (c_Borders_states : PySem.W.codeIn K cd_Borders_states "Borders.states" = true)
    (k_Borders_states : PySem.W.keepIn K (.ref f_Borders_states) = true)
    (e_Borders_states : PySem.W.findIn K (.ref C_Borders) "states" = some (some (.ref p_Borders_states)))
    (g_Borders_states : PySem.W.specialIn K (.ref p_Borders_states) "__get__" = some (some (.builtin "property.__get__")))
    (tk_Borders_states : PySem.W.takesIn K (.ref p_Borders_states) = some true)
    (r_Borders_states : PySem.W.recIn K p_Borders_states "property" = some (.ref f_Borders_states :: rest_Borders_states))
    (l_Borders_pieces : K.lookup f_Borders_pieces = some ⟨oc_Borders_pieces, od_Borders_pieces, .func (PySem.W.fnOf "pieces" "Borders.pieces" (defArgs st_Borders_pieces) (defBody st_Borders_pieces) (defScope st_Borders_pieces) .none kV_Borders_pieces dc_Borders_pieces pm_Borders_pieces an_Borders_pieces cd_Borders_pieces ct_Borders_pieces), sl_Borders_pieces⟩)
    (c_Borders_pieces : PySem.W.codeIn K cd_Borders_pieces "Borders.pieces" = true)
    (k_Borders_pieces : PySem.W.keepIn K (.ref f_Borders_pieces) = true)
    (e_Borders_pieces : PySem.W.findIn K (.ref C_Borders) "pieces" = some (some (.ref p_Borders_pieces)))
    (g_Borders_pieces : PySem.W.specialIn K (.ref p_Borders_pieces) "__get__" = some (some (.builtin "property.__get__")))
    (tk_Borders_pieces : PySem.W.takesIn K (.ref p_Borders_pieces) = some true)
    (r_Borders_pieces : PySem.W.recIn K p_Borders_pieces "property" = some (.ref f_Borders_pieces :: rest_Borders_pieces))
    (l_Borders_corners : K.lookup f_Borders_corners = some ⟨oc_Borders_corners, od_Borders_corners, .func (PySem.W.fnOf "corners" "Borders.corners" (defArgs st_Borders_corners) (defBody st_Borders_corners) (defScope st_Borders_corners) .none kV_Borders_corners dc_Borders_corners pm_Borders_corners an_Borders_corners cd_Borders_corners ct_Borders_corners), sl_Borders_corners⟩)
    (c_Borders_corners : PySem.W.codeIn K cd_Borders_corners "Borders.corners" = true)
    (k_Borders_corners : PySem.W.keepIn K (.ref f_Borders_corners) = true)
    (e_Borders_corners : PySem.W.findIn K (.ref C_Borders) "corners" = some (some (.ref p_Borders_corners)))
    (g_Borders_corners : PySem.W.specialIn K (.ref p_Borders_corners) "__get__" = some (some (.builtin "property.__get__")))
    (tk_Borders_corners : PySem.W.takesIn K (.ref p_Borders_corners) = some true)
    (r_Borders_corners : PySem.W.recIn K p_Borders_corners "property" = some (.ref f_Borders_corners :: rest_Borders_corners))
    (l_Borders_names : K.lookup f_Borders_names = some ⟨oc_Borders_names, od_Borders_names, .func (PySem.W.fnOf "names" "Borders.names" (defArgs st_Borders_names) (defBody st_Borders_names) (defScope st_Borders_names) .none kV_Borders_names dc_Borders_names pm_Borders_names an_Borders_names cd_Borders_names ct_Borders_names), sl_Borders_names⟩)
    (c_Borders_names : PySem.W.codeIn K cd_Borders_names "Borders.names" = true)
    (k_Borders_names : PySem.W.keepIn K (.ref f_Borders_names) = true)
    (e_Borders_names : PySem.W.findIn K (.ref C_Borders) "names" = some (some (.ref p_Borders_names)))
    (g_Borders_names : PySem.W.specialIn K (.ref p_Borders_names) "__get__" = some (some (.builtin "property.__get__")))
    (tk_Borders_names : PySem.W.takesIn K (.ref p_Borders_names) = some true)
    (r_Borders_names : PySem.W.recIn K p_Borders_names "property" = some (.ref f_Borders_names :: rest_Borders_names))
    (l_Borders___eq__ : K.lookup f_Borders___eq__ = some ⟨oc_Borders___eq__, od_Borders___eq__, .func (PySem.W.fnOf "__eq__" "Borders.__eq__" (defArgs st_Borders___eq__) (defBody st_Borders___eq__) (defScope st_Borders___eq__) .none kV_Borders___eq__ dc_Borders___eq__ pm_Borders___eq__ an_Borders___eq__ cd_Borders___eq__ ct_Borders___eq__), sl_Borders___eq__⟩)
    (c_Borders___eq__ : PySem.W.codeIn K cd_Borders___eq__ "Borders.__eq__" = true)
    (k_Borders___eq__ : PySem.W.keepIn K (.ref f_Borders___eq__) = true)
    (e_Borders___eq__ : PySem.W.findIn K (.ref C_Borders) "__eq__" = some (some (.ref f_Borders___eq__)))
    (i_Borders___eq__ : PySem.W.isFn K (.ref f_Borders___eq__) = true)
    (l_Borders___str__ : K.lookup f_Borders___str__ = some ⟨oc_Borders___str__, od_Borders___str__, .func (PySem.W.fnOf "__str__" "Borders.__str__" (defArgs st_Borders___str__) (defBody st_Borders___str__) (defScope st_Borders___str__) .none kV_Borders___str__ dc_Borders___str__ pm_Borders___str__ an_Borders___str__ cd_Borders___str__ ct_Borders___str__), sl_Borders___str__⟩)
    (c_Borders___str__ : PySem.W.codeIn K cd_Borders___str__ "Borders.__str__" = true)
    (k_Borders___str__ : PySem.W.keepIn K (.ref f_Borders___str__) = true)
    (e_Borders___str__ : PySem.W.findIn K (.ref C_Borders) "__str__" = some (some (.ref f_Borders___str__)))
    (i_Borders___str__ : PySem.W.isFn K (.ref f_Borders___str__) = true)
    (aC_Prices : PySem.W.nsIn K mainGlobals "Prices" = some (some (.ref C_Prices)))
    (pg_Prices : PySem.W.plainGet K C_Prices Str.empty = true)
    (hd_Prices : PySem.W.hasDictIn K C_Prices = true)
    (po_Prices : PySem.W.plainOver K C_Prices = true)
    (sa_Prices : PySem.W.findIn K (.ref C_Prices) "__setattr__" = some (some (.builtin "object.__setattr__")))
    (mk_Prices : PySem.W.makesIn K C_Prices = true)
    (kc_Prices : PySem.W.keepIn K (.ref C_Prices) = true)
    (ne_Prices : PySem.W.findIn K (.ref C_Prices) "__ne__" = some (some (.builtin "object.__ne__")))
    (mro_Prices : PySem.W.mroIn K C_Prices (.type "object") = some true)
    (bool_Prices : PySem.W.findIn K (.ref C_Prices) "__bool__" = some none)
    (hcl_Prices : PySem.W.findIn K (.ref C_Prices) "__class__" = some (some (.builtin "object.__class__")))
    (hsp_Prices : PySem.W.specialIn K (.builtin "object.__class__") "__get__" = some (some (.builtin "getset_descriptor.__get__")))
    (htk_Prices : PySem.W.takesIn K (.builtin "object.__class__") = some true)
    (na_period_Prices : PySem.W.findIn K (.ref C_Prices) "period" = some none)
    (na_steps_Prices : PySem.W.findIn K (.ref C_Prices) "steps" = some none)
    (na_since_Prices : PySem.W.findIn K (.ref C_Prices) "since" = some none)
    (na_costs_Prices : PySem.W.findIn K (.ref C_Prices) "costs" = some none)
    (nolen_Prices : PySem.W.findIn K (.ref C_Prices) "__len__" = some none)
    (l_Prices___init__ : K.lookup f_Prices___init__ = some ⟨oc_Prices___init__, od_Prices___init__, .func (PySem.W.fnOf "__init__" "Prices.__init__" (defArgs st_Prices___init__) (defBody st_Prices___init__) (defScope st_Prices___init__) .none kV_Prices___init__ dc_Prices___init__ pm_Prices___init__ an_Prices___init__ cd_Prices___init__ ct_Prices___init__), sl_Prices___init__⟩)
    (c_Prices___init__ : PySem.W.codeIn K cd_Prices___init__ "Prices.__init__" = true)
    (k_Prices___init__ : PySem.W.keepIn K (.ref f_Prices___init__) = true)
    (e_Prices___init__ : PySem.W.findIn K (.ref C_Prices) "__init__" = some (some (.ref f_Prices___init__)))
    (i_Prices___init__ : PySem.W.isFn K (.ref f_Prices___init__) = true)
    (l_Prices_kept_length : K.lookup f_Prices_kept_length = some ⟨oc_Prices_kept_length, od_Prices_kept_length, .func (PySem.W.fnOf "kept_length" "Prices.kept_length" (defArgs st_Prices_kept_length) (defBody st_Prices_kept_length) (defScope st_Prices_kept_length) .none kV_Prices_kept_length dc_Prices_kept_length pm_Prices_kept_length an_Prices_kept_length cd_Prices_kept_length ct_Prices_kept_length), sl_Prices_kept_length⟩)
    (c_Prices_kept_length : PySem.W.codeIn K cd_Prices_kept_length "Prices.kept_length" = true)
    (k_Prices_kept_length : PySem.W.keepIn K (.ref f_Prices_kept_length) = true)
    (e_Prices_kept_length : PySem.W.findIn K (.ref C_Prices) "kept_length" = some (some (.ref f_Prices_kept_length)))
    (i_Prices_kept_length : PySem.W.isFn K (.ref f_Prices_kept_length) = true)
    (l_Prices_cost : K.lookup f_Prices_cost = some ⟨oc_Prices_cost, od_Prices_cost, .func (PySem.W.fnOf "cost" "Prices.cost" (defArgs st_Prices_cost) (defBody st_Prices_cost) (defScope st_Prices_cost) .none kV_Prices_cost dc_Prices_cost pm_Prices_cost an_Prices_cost cd_Prices_cost ct_Prices_cost), sl_Prices_cost⟩)
    (c_Prices_cost : PySem.W.codeIn K cd_Prices_cost "Prices.cost" = true)
    (k_Prices_cost : PySem.W.keepIn K (.ref f_Prices_cost) = true)
    (e_Prices_cost : PySem.W.findIn K (.ref C_Prices) "cost" = some (some (.ref f_Prices_cost)))
    (i_Prices_cost : PySem.W.isFn K (.ref f_Prices_cost) = true)
    (l_Prices_last_step : K.lookup f_Prices_last_step = some ⟨oc_Prices_last_step, od_Prices_last_step, .func (PySem.W.fnOf "last_step" "Prices.last_step" (defArgs st_Prices_last_step) (defBody st_Prices_last_step) (defScope st_Prices_last_step) .none kV_Prices_last_step dc_Prices_last_step pm_Prices_last_step an_Prices_last_step cd_Prices_last_step ct_Prices_last_step), sl_Prices_last_step⟩)
    (c_Prices_last_step : PySem.W.codeIn K cd_Prices_last_step "Prices.last_step" = true)
    (k_Prices_last_step : PySem.W.keepIn K (.ref f_Prices_last_step) = true)
    (e_Prices_last_step : PySem.W.findIn K (.ref C_Prices) "last_step" = some (some (.ref f_Prices_last_step)))
    (i_Prices_last_step : PySem.W.isFn K (.ref f_Prices_last_step) = true)
    (l_Prices_filling : K.lookup f_Prices_filling = some ⟨oc_Prices_filling, od_Prices_filling, .func (PySem.W.fnOf "filling" "Prices.filling" (defArgs st_Prices_filling) (defBody st_Prices_filling) (defScope st_Prices_filling) .none kV_Prices_filling dc_Prices_filling pm_Prices_filling an_Prices_filling cd_Prices_filling ct_Prices_filling), sl_Prices_filling⟩)
    (c_Prices_filling : PySem.W.codeIn K cd_Prices_filling "Prices.filling" = true)
    (k_Prices_filling : PySem.W.keepIn K (.ref f_Prices_filling) = true)
    (e_Prices_filling : PySem.W.findIn K (.ref C_Prices) "filling" = some (some (.ref f_Prices_filling)))
    (i_Prices_filling : PySem.W.isFn K (.ref f_Prices_filling) = true) : Tx K mg where
  n_all := PySem.W.mg_none_of X G z_all
  n_len := PySem.W.mg_none_of X G z_len
  n_isinstance := PySem.W.mg_none_of X G z_isinstance
  n_str := PySem.W.mg_none_of X G z_str
  n_int := PySem.W.mg_none_of X G z_int
  n_tuple := PySem.W.mg_none_of X G z_tuple
  n_range := PySem.W.mg_none_of X G z_range
  n_sorted := PySem.W.mg_none_of X G z_sorted
  n_set := PySem.W.mg_none_of X G z_set
  n_min := PySem.W.mg_none_of X G z_min
  n_max := PySem.W.mg_none_of X G z_max
  n_abs := PySem.W.mg_none_of X G z_abs
  n_divmod := PySem.W.mg_none_of X G z_divmod
  n_dict := PySem.W.mg_none_of X G z_dict
  n_list := PySem.W.mg_none_of X G z_list
  n_repr := PySem.W.mg_none_of X G z_repr
  c_LETTERS := ⟨_, PySem.W.mg_of X G s_LETTERS⟩
  c_DIGITS := ⟨_, PySem.W.mg_of X G s_DIGITS⟩
  c_LONGEST_WORD := ⟨_, PySem.W.mg_of X G s_LONGEST_WORD⟩
  c_MOST_SIGNS := ⟨_, PySem.W.mg_of X G s_MOST_SIGNS⟩
  c_MOST_PIECES := ⟨_, PySem.W.mg_of X G s_MOST_PIECES⟩
  c_MOST_CORNERS := ⟨_, PySem.W.mg_of X G s_MOST_CORNERS⟩
  c_MOST_NAMES := ⟨_, PySem.W.mg_of X G s_MOST_NAMES⟩
  c_MOST_LONG := ⟨_, PySem.W.mg_of X G s_MOST_LONG⟩
  c_MOST_COST := ⟨_, PySem.W.mg_of X G s_MOST_COST⟩
  c_NO_COST := ⟨_, PySem.W.mg_of X G s_NO_COST⟩
  c_TURNS := ⟨_, PySem.W.mg_of X G s_TURNS, fun H => .inr ⟨_, _, _, l_TURNS, rfl, rfl, by show 2 ≤ sizeLine; decide, .cons ⟨_, rfl⟩ (.cons ⟨_, rfl⟩ (.nil))⟩⟩
  a_is_letters := f_is_letters
  d_is_letters := PySem.W.fnOf "is_letters" "is_letters" (defArgs st_is_letters) (defBody st_is_letters) (defScope st_is_letters) .none kV_is_letters dc_is_letters pm_is_letters an_is_letters cd_is_letters ct_is_letters
  F_is_letters := fun_mk (st := st_is_letters) l_is_letters c_is_letters k_is_letters
  b_is_letters := (fun_mk (st := st_is_letters) l_is_letters c_is_letters k_is_letters).binds (ps := ["text", "most"]) fun _ _ _ _ _ _ us hl => match us, hl with | [_, _], _ => rfl
  g_is_letters := PySem.W.mg_of X G ag_is_letters
  a_is_word := f_is_word
  d_is_word := PySem.W.fnOf "is_word" "is_word" (defArgs st_is_word) (defBody st_is_word) (defScope st_is_word) .none kV_is_word dc_is_word pm_is_word an_is_word cd_is_word ct_is_word
  F_is_word := fun_mk (st := st_is_word) l_is_word c_is_word k_is_word
  b_is_word := (fun_mk (st := st_is_word) l_is_word c_is_word k_is_word).binds (ps := ["value"]) fun _ _ _ _ _ _ us hl => match us, hl with | [_], _ => rfl
  g_is_word := PySem.W.mg_of X G ag_is_word
  a_number_of := f_number_of
  d_number_of := PySem.W.fnOf "number_of" "number_of" (defArgs st_number_of) (defBody st_number_of) (defScope st_number_of) .none kV_number_of dc_number_of pm_number_of an_number_of cd_number_of ct_number_of
  F_number_of := fun_mk (st := st_number_of) l_number_of c_number_of k_number_of
  b_number_of := (fun_mk (st := st_number_of) l_number_of c_number_of k_number_of).binds (ps := ["text", "least", "most"]) fun _ _ _ _ _ _ us hl => match us, hl with | [_, _, _], _ => rfl
  g_number_of := PySem.W.mg_of X G ag_number_of
  a_signs_of := f_signs_of
  d_signs_of := PySem.W.fnOf "signs_of" "signs_of" (defArgs st_signs_of) (defBody st_signs_of) (defScope st_signs_of) .none kV_signs_of dc_signs_of pm_signs_of an_signs_of cd_signs_of ct_signs_of
  F_signs_of := fun_mk (st := st_signs_of) l_signs_of c_signs_of k_signs_of
  b_signs_of := (fun_mk (st := st_signs_of) l_signs_of c_signs_of k_signs_of).binds (ps := ["line"]) fun _ _ _ _ _ _ us hl => match us, hl with | [_], _ => rfl
  g_signs_of := PySem.W.mg_of X G ag_signs_of
  a_states_of := f_states_of
  d_states_of := PySem.W.fnOf "states_of" "states_of" (defArgs st_states_of) (defBody st_states_of) (defScope st_states_of) .none kV_states_of dc_states_of pm_states_of an_states_of cd_states_of ct_states_of
  F_states_of := fun_mk (st := st_states_of) l_states_of c_states_of k_states_of
  b_states_of := (fun_mk (st := st_states_of) l_states_of c_states_of k_states_of).binds (ps := ["signs"]) fun _ _ _ _ _ _ us hl => match us, hl with | [_], _ => rfl
  g_states_of := PySem.W.mg_of X G ag_states_of
  a_piece_of := f_piece_of
  d_piece_of := PySem.W.fnOf "piece_of" "piece_of" (defArgs st_piece_of) (defBody st_piece_of) (defScope st_piece_of) .none kV_piece_of dc_piece_of pm_piece_of an_piece_of cd_piece_of ct_piece_of
  F_piece_of := fun_mk (st := st_piece_of) l_piece_of c_piece_of k_piece_of
  b_piece_of := (fun_mk (st := st_piece_of) l_piece_of c_piece_of k_piece_of).binds (ps := ["line", "states"]) fun _ _ _ _ _ _ us hl => match us, hl with | [_, _], _ => rfl
  g_piece_of := PySem.W.mg_of X G ag_piece_of
  a_corner_of := f_corner_of
  d_corner_of := PySem.W.fnOf "corner_of" "corner_of" (defArgs st_corner_of) (defBody st_corner_of) (defScope st_corner_of) .none kV_corner_of dc_corner_of pm_corner_of an_corner_of cd_corner_of ct_corner_of
  F_corner_of := fun_mk (st := st_corner_of) l_corner_of c_corner_of k_corner_of
  b_corner_of := (fun_mk (st := st_corner_of) l_corner_of c_corner_of k_corner_of).binds (ps := ["line", "states"]) fun _ _ _ _ _ _ us hl => match us, hl with | [_, _], _ => rfl
  g_corner_of := PySem.W.mg_of X G ag_corner_of
  a_names_of := f_names_of
  d_names_of := PySem.W.fnOf "names_of" "names_of" (defArgs st_names_of) (defBody st_names_of) (defScope st_names_of) .none kV_names_of dc_names_of pm_names_of an_names_of cd_names_of ct_names_of
  F_names_of := fun_mk (st := st_names_of) l_names_of c_names_of k_names_of
  b_names_of := (fun_mk (st := st_names_of) l_names_of c_names_of k_names_of).binds (ps := ["rows"]) fun _ _ _ _ _ _ us hl => match us, hl with | [_], _ => rfl
  g_names_of := PySem.W.mg_of X G ag_names_of
  a_pieces_fit := f_pieces_fit
  d_pieces_fit := PySem.W.fnOf "pieces_fit" "pieces_fit" (defArgs st_pieces_fit) (defBody st_pieces_fit) (defScope st_pieces_fit) .none kV_pieces_fit dc_pieces_fit pm_pieces_fit an_pieces_fit cd_pieces_fit ct_pieces_fit
  F_pieces_fit := fun_mk (st := st_pieces_fit) l_pieces_fit c_pieces_fit k_pieces_fit
  b_pieces_fit := (fun_mk (st := st_pieces_fit) l_pieces_fit c_pieces_fit k_pieces_fit).binds (ps := ["pieces"]) fun _ _ _ _ _ _ us hl => match us, hl with | [_], _ => rfl
  g_pieces_fit := PySem.W.mg_of X G ag_pieces_fit
  a_corners_fit := f_corners_fit
  d_corners_fit := PySem.W.fnOf "corners_fit" "corners_fit" (defArgs st_corners_fit) (defBody st_corners_fit) (defScope st_corners_fit) .none kV_corners_fit dc_corners_fit pm_corners_fit an_corners_fit cd_corners_fit ct_corners_fit
  F_corners_fit := fun_mk (st := st_corners_fit) l_corners_fit c_corners_fit k_corners_fit
  b_corners_fit := (fun_mk (st := st_corners_fit) l_corners_fit c_corners_fit k_corners_fit).binds (ps := ["corners"]) fun _ _ _ _ _ _ us hl => match us, hl with | [_], _ => rfl
  g_corners_fit := PySem.W.mg_of X G ag_corners_fit
  a_parts_of := f_parts_of
  d_parts_of := PySem.W.fnOf "parts_of" "parts_of" (defArgs st_parts_of) (defBody st_parts_of) (defScope st_parts_of) .none kV_parts_of dc_parts_of pm_parts_of an_parts_of cd_parts_of ct_parts_of
  F_parts_of := fun_mk (st := st_parts_of) l_parts_of c_parts_of k_parts_of
  b_parts_of := (fun_mk (st := st_parts_of) l_parts_of c_parts_of k_parts_of).binds (ps := ["text"]) fun _ _ _ _ _ _ us hl => match us, hl with | [_], _ => rfl
  g_parts_of := PySem.W.mg_of X G ag_parts_of
  a_check_borders := f_check_borders
  d_check_borders := PySem.W.fnOf "check_borders" "check_borders" (defArgs st_check_borders) (defBody st_check_borders) (defScope st_check_borders) .none kV_check_borders dc_check_borders pm_check_borders an_check_borders cd_check_borders ct_check_borders
  F_check_borders := fun_mk (st := st_check_borders) l_check_borders c_check_borders k_check_borders
  b_check_borders := (fun_mk (st := st_check_borders) l_check_borders c_check_borders k_check_borders).binds (ps := ["borders"]) fun _ _ _ _ _ _ us hl => match us, hl with | [_], _ => rfl
  g_check_borders := PySem.W.mg_of X G ag_check_borders
  a_state_behind := f_state_behind
  d_state_behind := PySem.W.fnOf "state_behind" "state_behind" (defArgs st_state_behind) (defBody st_state_behind) (defScope st_state_behind) .none kV_state_behind dc_state_behind pm_state_behind an_state_behind cd_state_behind ct_state_behind
  F_state_behind := fun_mk (st := st_state_behind) l_state_behind c_state_behind k_state_behind
  b_state_behind := (fun_mk (st := st_state_behind) l_state_behind c_state_behind k_state_behind).binds (ps := ["borders", "state", "many"]) fun _ _ _ _ _ _ us hl => match us, hl with | [_, _, _], _ => rfl
  g_state_behind := PySem.W.mg_of X G ag_state_behind
  a_steps_into := f_steps_into
  d_steps_into := PySem.W.fnOf "steps_into" "steps_into" (defArgs st_steps_into) (defBody st_steps_into) (defScope st_steps_into) .none kV_steps_into dc_steps_into pm_steps_into an_steps_into cd_steps_into ct_steps_into
  F_steps_into := fun_mk (st := st_steps_into) l_steps_into c_steps_into k_steps_into
  b_steps_into := (fun_mk (st := st_steps_into) l_steps_into c_steps_into k_steps_into).binds (ps := ["borders"]) fun _ _ _ _ _ _ us hl => match us, hl with | [_], _ => rfl
  g_steps_into := PySem.W.mg_of X G ag_steps_into
  a_next_row := f_next_row
  d_next_row := PySem.W.fnOf "next_row" "next_row" (defArgs st_next_row) (defBody st_next_row) (defScope st_next_row) .none kV_next_row dc_next_row pm_next_row an_next_row cd_next_row ct_next_row
  F_next_row := fun_mk (st := st_next_row) l_next_row c_next_row k_next_row
  b_next_row := (fun_mk (st := st_next_row) l_next_row c_next_row k_next_row).binds (ps := ["rows", "steps"]) fun _ _ _ _ _ _ us hl => match us, hl with | [_, _], _ => rfl
  g_next_row := PySem.W.mg_of X G ag_next_row
  a_joined := f_joined
  d_joined := PySem.W.fnOf "joined" "joined" (defArgs st_joined) (defBody st_joined) (defScope st_joined) .none kV_joined dc_joined pm_joined an_joined cd_joined ct_joined
  F_joined := fun_mk (st := st_joined) l_joined c_joined k_joined
  b_joined := (fun_mk (st := st_joined) l_joined c_joined k_joined).binds (ps := ["steps"]) fun _ _ _ _ _ _ us hl => match us, hl with | [_], _ => rfl
  g_joined := PySem.W.mg_of X G ag_joined
  a_calendar := f_calendar
  d_calendar := PySem.W.fnOf "calendar" "calendar" (defArgs st_calendar) (defBody st_calendar) (defScope st_calendar) .none kV_calendar dc_calendar pm_calendar an_calendar cd_calendar ct_calendar
  F_calendar := fun_mk (st := st_calendar) l_calendar c_calendar k_calendar
  b_calendar := (fun_mk (st := st_calendar) l_calendar c_calendar k_calendar).binds (ps := ["borders"]) fun _ _ _ _ _ _ us hl => match us, hl with | [_], _ => rfl
  g_calendar := PySem.W.mg_of X G ag_calendar
  kw_calendar_0 := ⟨fun s us ws X l1 l2 => match us, ws, l1, l2 with | [], [_], _, _ => .of_eq rfl, fun _ r2 => vals_perm r2 _⟩
  a__law_brook := f__law_brook
  d__law_brook := PySem.W.fnOf "_law_brook" "_law_brook" (defArgs st__law_brook) (defBody st__law_brook) (defScope st__law_brook) .none kV__law_brook dc__law_brook pm__law_brook an__law_brook cd__law_brook ct__law_brook
  F__law_brook := fun_mk (st := st__law_brook) l__law_brook c__law_brook k__law_brook
  b__law_brook := (fun_mk (st := st__law_brook) l__law_brook c__law_brook k__law_brook).binds (ps := ["_law_cells", "_law_turn"]) fun _ _ _ _ _ _ us hl => match us, hl with | [_, _], _ => rfl
  g__law_brook := PySem.W.mg_of X G ag__law_brook
  a__law_sip := f__law_sip
  d__law_sip := PySem.W.fnOf "_law_sip" "_law_sip" (defArgs st__law_sip) (defBody st__law_sip) (defScope st__law_sip) .none kV__law_sip dc__law_sip pm__law_sip an__law_sip cd__law_sip ct__law_sip
  F__law_sip := fun_mk (st := st__law_sip) l__law_sip c__law_sip k__law_sip
  b__law_sip := (fun_mk (st := st__law_sip) l__law_sip c__law_sip k__law_sip).binds (ps := ["_law_brook_here", "_law_amount"]) fun _ _ _ _ _ _ us hl => match us, hl with | [_, _], _ => rfl
  g__law_sip := PySem.W.mg_of X G ag__law_sip
  a__law_state := f__law_state
  d__law_state := PySem.W.fnOf "_law_state" "_law_state" (defArgs st__law_state) (defBody st__law_state) (defScope st__law_state) .none kV__law_state dc__law_state pm__law_state an__law_state cd__law_state ct__law_state
  F__law_state := fun_mk (st := st__law_state) l__law_state c__law_state k__law_state
  b__law_state := (fun_mk (st := st__law_state) l__law_state c__law_state k__law_state).binds (ps := ["_law_brook_here", "_law_period"]) fun _ _ _ _ _ _ us hl => match us, hl with | [_, _], _ => rfl
  g__law_state := PySem.W.mg_of X G ag__law_state
  a__law_spec := f__law_spec
  d__law_spec := PySem.W.fnOf "_law_spec" "_law_spec" (defArgs st__law_spec) (defBody st__law_spec) (defScope st__law_spec) .none kV__law_spec dc__law_spec pm__law_spec an__law_spec cd__law_spec ct__law_spec
  F__law_spec := fun_mk (st := st__law_spec) l__law_spec c__law_spec k__law_spec
  b__law_spec := (fun_mk (st := st__law_spec) l__law_spec c__law_spec k__law_spec).binds (ps := ["_law_brook_here", "_law_periods", "_law_lots", "_law_ends"]) fun _ _ _ _ _ _ us hl => match us, hl with | [_, _, _, _], _ => rfl
  g__law_spec := PySem.W.mg_of X G ag__law_spec
  a__law_lines := f__law_lines
  d__law_lines := PySem.W.fnOf "_law_lines" "_law_lines" (defArgs st__law_lines) (defBody st__law_lines) (defScope st__law_lines) .none kV__law_lines dc__law_lines pm__law_lines an__law_lines cd__law_lines ct__law_lines
  F__law_lines := fun_mk (st := st__law_lines) l__law_lines c__law_lines k__law_lines
  b__law_lines := (fun_mk (st := st__law_lines) l__law_lines c__law_lines k__law_lines).binds (ps := ["_law_spec_here"]) fun _ _ _ _ _ _ us hl => match us, hl with | [_], _ => rfl
  g__law_lines := PySem.W.mg_of X G ag__law_lines
  a__law_made := f__law_made
  d__law_made := PySem.W.fnOf "_law_made" "_law_made" (defArgs st__law_made) (defBody st__law_made) (defScope st__law_made) .none kV__law_made dc__law_made pm__law_made an__law_made cd__law_made ct__law_made
  F__law_made := fun_mk (st := st__law_made) l__law_made c__law_made k__law_made
  b__law_made := (fun_mk (st := st__law_made) l__law_made c__law_made k__law_made).binds (ps := ["_law_spec_here"]) fun _ _ _ _ _ _ us hl => match us, hl with | [_], _ => rfl
  g__law_made := PySem.W.mg_of X G ag__law_made
  a__law_states := f__law_states
  d__law_states := PySem.W.fnOf "_law_states" "_law_states" (defArgs st__law_states) (defBody st__law_states) (defScope st__law_states) .none kV__law_states dc__law_states pm__law_states an__law_states cd__law_states ct__law_states
  F__law_states := fun_mk (st := st__law_states) l__law_states c__law_states k__law_states
  b__law_states := (fun_mk (st := st__law_states) l__law_states c__law_states k__law_states).binds (ps := ["_law_spec_here"]) fun _ _ _ _ _ _ us hl => match us, hl with | [_], _ => rfl
  g__law_states := PySem.W.mg_of X G ag__law_states
  a__law_plain := f__law_plain
  d__law_plain := PySem.W.fnOf "_law_plain" "_law_plain" (defArgs st__law_plain) (defBody st__law_plain) (defScope st__law_plain) .none kV__law_plain dc__law_plain pm__law_plain an__law_plain cd__law_plain ct__law_plain
  F__law_plain := fun_mk (st := st__law_plain) l__law_plain c__law_plain k__law_plain
  b__law_plain := (fun_mk (st := st__law_plain) l__law_plain c__law_plain k__law_plain).binds (ps := ["_law_spec_here", "_law_here"]) fun _ _ _ _ _ _ us hl => match us, hl with | [_, _], _ => rfl
  g__law_plain := PySem.W.mg_of X G ag__law_plain
  a__law_rows := f__law_rows
  d__law_rows := PySem.W.fnOf "_law_rows" "_law_rows" (defArgs st__law_rows) (defBody st__law_rows) (defScope st__law_rows) .none kV__law_rows dc__law_rows pm__law_rows an__law_rows cd__law_rows ct__law_rows
  F__law_rows := fun_mk (st := st__law_rows) l__law_rows c__law_rows k__law_rows
  b__law_rows := (fun_mk (st := st__law_rows) l__law_rows c__law_rows k__law_rows).binds (ps := ["_law_spec_here", "_law_most_here"]) fun _ _ _ _ _ _ us hl => match us, hl with | [_, _], _ => rfl
  g__law_rows := PySem.W.mg_of X G ag__law_rows
  a__law_begin := f__law_begin
  d__law_begin := PySem.W.fnOf "_law_begin" "_law_begin" (defArgs st__law_begin) (defBody st__law_begin) (defScope st__law_begin) .none kV__law_begin dc__law_begin pm__law_begin an__law_begin cd__law_begin ct__law_begin
  F__law_begin := fun_mk (st := st__law_begin) l__law_begin c__law_begin k__law_begin
  b__law_begin := (fun_mk (st := st__law_begin) l__law_begin c__law_begin k__law_begin).binds (ps := ["_law_spec_here", "_law_rows_here"]) fun _ _ _ _ _ _ us hl => match us, hl with | [_, _], _ => rfl
  g__law_begin := PySem.W.mg_of X G ag__law_begin
  a__law_right := f__law_right
  d__law_right := PySem.W.fnOf "_law_right" "_law_right" (defArgs st__law_right) (defBody st__law_right) (defScope st__law_right) .none kV__law_right dc__law_right pm__law_right an__law_right cd__law_right ct__law_right
  F__law_right := fun_mk (st := st__law_right) l__law_right c__law_right k__law_right
  b__law_right := (fun_mk (st := st__law_right) l__law_right c__law_right k__law_right).binds (ps := ["_law_brook_here"]) fun _ _ _ _ _ _ us hl => match us, hl with | [_], _ => rfl
  g__law_right := PySem.W.mg_of X G ag__law_right
  a_law := f_law
  d_law := PySem.W.fnOf "law" "law" (defArgs st_law) (defBody st_law) (defScope st_law) .none kV_law dc_law pm_law an_law cd_law ct_law
  F_law := fun_mk (st := st_law) l_law c_law k_law
  b_law := (fun_mk (st := st_law) l_law c_law k_law).binds (ps := ["_law_cells"]) fun _ _ _ _ _ _ us hl => match us, hl with | [_], _ => rfl
  g_law := PySem.W.mg_of X G ag_law
  a_Borders___init__ := f_Borders___init__
  d_Borders___init__ := PySem.W.fnOf "__init__" "Borders.__init__" (defArgs st_Borders___init__) (defBody st_Borders___init__) (defScope st_Borders___init__) .none kV_Borders___init__ dc_Borders___init__ pm_Borders___init__ an_Borders___init__ cd_Borders___init__ ct_Borders___init__
  F_Borders___init__ := fun_mk (st := st_Borders___init__) l_Borders___init__ c_Borders___init__ k_Borders___init__
  b_Borders___init__ := (fun_mk (st := st_Borders___init__) l_Borders___init__ c_Borders___init__ k_Borders___init__).binds (ps := ["self", "text"]) fun _ _ _ _ _ _ us hl => match us, hl with | [_, _], _ => rfl
  mk_Borders := ⟨mk_Borders, e_Borders___init__, i_Borders___init__, kc_Borders⟩
  kb_Borders := ⟨fun s us ws X l1 l2 => match us, ws, l1, l2 with | [_], [_], _, _ => .of_eq rfl, fun r1 r2 => r1.append r2⟩
  a_Borders_text := f_Borders_text
  d_Borders_text := PySem.W.fnOf "text" "Borders.text" (defArgs st_Borders_text) (defBody st_Borders_text) (defScope st_Borders_text) .none kV_Borders_text dc_Borders_text pm_Borders_text an_Borders_text cd_Borders_text ct_Borders_text
  F_Borders_text := fun_mk (st := st_Borders_text) l_Borders_text c_Borders_text k_Borders_text
  b_Borders_text := (fun_mk (st := st_Borders_text) l_Borders_text c_Borders_text k_Borders_text).binds (ps := ["self"]) fun _ _ _ _ _ _ us hl => match us, hl with | [_], _ => rfl
  p_Borders_text := p_Borders_text
  P_Borders_text := ⟨e_Borders_text, g_Borders_text, tk_Borders_text, ⟨_, r_Borders_text⟩⟩
  a_Borders_signs := f_Borders_signs
  d_Borders_signs := PySem.W.fnOf "signs" "Borders.signs" (defArgs st_Borders_signs) (defBody st_Borders_signs) (defScope st_Borders_signs) .none kV_Borders_signs dc_Borders_signs pm_Borders_signs an_Borders_signs cd_Borders_signs ct_Borders_signs
  F_Borders_signs := fun_mk (st := st_Borders_signs) l_Borders_signs c_Borders_signs k_Borders_signs
  b_Borders_signs := (fun_mk (st := st_Borders_signs) l_Borders_signs c_Borders_signs k_Borders_signs).binds (ps := ["self"]) fun _ _ _ _ _ _ us hl => match us, hl with | [_], _ => rfl
  p_Borders_signs := p_Borders_signs
  P_Borders_signs := ⟨e_Borders_signs, g_Borders_signs, tk_Borders_signs, ⟨_, r_Borders_signs⟩⟩
  a_Borders_states := f_Borders_states
  d_Borders_states := PySem.W.fnOf "states" "Borders.states" (defArgs st_Borders_states) (defBody st_Borders_states) (defScope st_Borders_states) .none kV_Borders_states dc_Borders_states pm_Borders_states an_Borders_states cd_Borders_states ct_Borders_states
  F_Borders_states := fun_mk (st := st_Borders_states) l_Borders_states c_Borders_states k_Borders_states
  b_Borders_states := (fun_mk (st := st_Borders_states) l_Borders_states c_Borders_states k_Borders_states).binds (ps := ["self"]) fun _ _ _ _ _ _ us hl => match us, hl with | [_], _ => rfl
  p_Borders_states := p_Borders_states
  P_Borders_states := ⟨e_Borders_states, g_Borders_states, tk_Borders_states, ⟨_, r_Borders_states⟩⟩
  a_Borders_pieces := f_Borders_pieces
  d_Borders_pieces := PySem.W.fnOf "pieces" "Borders.pieces" (defArgs st_Borders_pieces) (defBody st_Borders_pieces) (defScope st_Borders_pieces) .none kV_Borders_pieces dc_Borders_pieces pm_Borders_pieces an_Borders_pieces cd_Borders_pieces ct_Borders_pieces
  F_Borders_pieces := fun_mk (st := st_Borders_pieces) l_Borders_pieces c_Borders_pieces k_Borders_pieces
  b_Borders_pieces := (fun_mk (st := st_Borders_pieces) l_Borders_pieces c_Borders_pieces k_Borders_pieces).binds (ps := ["self"]) fun _ _ _ _ _ _ us hl => match us, hl with | [_], _ => rfl
  p_Borders_pieces := p_Borders_pieces
  P_Borders_pieces := ⟨e_Borders_pieces, g_Borders_pieces, tk_Borders_pieces, ⟨_, r_Borders_pieces⟩⟩
  a_Borders_corners := f_Borders_corners
  d_Borders_corners := PySem.W.fnOf "corners" "Borders.corners" (defArgs st_Borders_corners) (defBody st_Borders_corners) (defScope st_Borders_corners) .none kV_Borders_corners dc_Borders_corners pm_Borders_corners an_Borders_corners cd_Borders_corners ct_Borders_corners
  F_Borders_corners := fun_mk (st := st_Borders_corners) l_Borders_corners c_Borders_corners k_Borders_corners
  b_Borders_corners := (fun_mk (st := st_Borders_corners) l_Borders_corners c_Borders_corners k_Borders_corners).binds (ps := ["self"]) fun _ _ _ _ _ _ us hl => match us, hl with | [_], _ => rfl
  p_Borders_corners := p_Borders_corners
  P_Borders_corners := ⟨e_Borders_corners, g_Borders_corners, tk_Borders_corners, ⟨_, r_Borders_corners⟩⟩
  a_Borders_names := f_Borders_names
  d_Borders_names := PySem.W.fnOf "names" "Borders.names" (defArgs st_Borders_names) (defBody st_Borders_names) (defScope st_Borders_names) .none kV_Borders_names dc_Borders_names pm_Borders_names an_Borders_names cd_Borders_names ct_Borders_names
  F_Borders_names := fun_mk (st := st_Borders_names) l_Borders_names c_Borders_names k_Borders_names
  b_Borders_names := (fun_mk (st := st_Borders_names) l_Borders_names c_Borders_names k_Borders_names).binds (ps := ["self"]) fun _ _ _ _ _ _ us hl => match us, hl with | [_], _ => rfl
  p_Borders_names := p_Borders_names
  P_Borders_names := ⟨e_Borders_names, g_Borders_names, tk_Borders_names, ⟨_, r_Borders_names⟩⟩
  a_Borders___eq__ := f_Borders___eq__
  d_Borders___eq__ := PySem.W.fnOf "__eq__" "Borders.__eq__" (defArgs st_Borders___eq__) (defBody st_Borders___eq__) (defScope st_Borders___eq__) .none kV_Borders___eq__ dc_Borders___eq__ pm_Borders___eq__ an_Borders___eq__ cd_Borders___eq__ ct_Borders___eq__
  F_Borders___eq__ := fun_mk (st := st_Borders___eq__) l_Borders___eq__ c_Borders___eq__ k_Borders___eq__
  b_Borders___eq__ := (fun_mk (st := st_Borders___eq__) l_Borders___eq__ c_Borders___eq__ k_Borders___eq__).binds (ps := ["self", "other"]) fun _ _ _ _ _ _ us hl => match us, hl with | [_, _], _ => rfl
  f_Borders___eq__ := e_Borders___eq__
  k_Borders___eq__ := i_Borders___eq__
  a_Borders___str__ := f_Borders___str__
  d_Borders___str__ := PySem.W.fnOf "__str__" "Borders.__str__" (defArgs st_Borders___str__) (defBody st_Borders___str__) (defScope st_Borders___str__) .none kV_Borders___str__ dc_Borders___str__ pm_Borders___str__ an_Borders___str__ cd_Borders___str__ ct_Borders___str__
  F_Borders___str__ := fun_mk (st := st_Borders___str__) l_Borders___str__ c_Borders___str__ k_Borders___str__
  b_Borders___str__ := (fun_mk (st := st_Borders___str__) l_Borders___str__ c_Borders___str__ k_Borders___str__).binds (ps := ["self"]) fun _ _ _ _ _ _ us hl => match us, hl with | [_], _ => rfl
  f_Borders___str__ := e_Borders___str__
  k_Borders___str__ := i_Borders___str__
  C_Borders := C_Borders
  g_Borders := PySem.W.mg_of X G aC_Borders
  cl_Borders := ⟨pg_Borders, hd_Borders, po_Borders, sa_Borders⟩
  ne_Borders := ne_Borders
  mro_Borders := mro_Borders
  bool_Borders := bool_Borders
  i_Borders := ⟨fun t b h => own_kit t b h, fun D b h => by rw [own_is h]; exact ⟨⟨pg_Borders, hd_Borders, po_Borders, sa_Borders⟩, hcl_Borders, hsp_Borders, htk_Borders, mro_Borders⟩⟩
  na_whole := na_whole_Borders
  na_all_states := na_all_states_Borders
  na_corner_names := na_corner_names_Borders
  na_motif := na_motif_Borders
  na_piece_rows := na_piece_rows_Borders
  na_corner_rows := na_corner_rows_Borders
  nolen_Borders := nolen_Borders
  a_Prices___init__ := f_Prices___init__
  d_Prices___init__ := PySem.W.fnOf "__init__" "Prices.__init__" (defArgs st_Prices___init__) (defBody st_Prices___init__) (defScope st_Prices___init__) .none kV_Prices___init__ dc_Prices___init__ pm_Prices___init__ an_Prices___init__ cd_Prices___init__ ct_Prices___init__
  F_Prices___init__ := fun_mk (st := st_Prices___init__) l_Prices___init__ c_Prices___init__ k_Prices___init__
  b_Prices___init__ := (fun_mk (st := st_Prices___init__) l_Prices___init__ c_Prices___init__ k_Prices___init__).binds (ps := ["self", "borders", "begin"]) fun _ _ _ _ _ _ us hl => match us, hl with | [_, _, _], _ => rfl
  mk_Prices := ⟨mk_Prices, e_Prices___init__, i_Prices___init__, kc_Prices⟩
  kb_Prices := ⟨fun s us ws X l1 l2 => match us, ws, l1, l2 with | [_], [_, _], _, _ => .of_eq rfl, fun r1 r2 => r1.append r2⟩
  a_Prices_kept_length := f_Prices_kept_length
  d_Prices_kept_length := PySem.W.fnOf "kept_length" "Prices.kept_length" (defArgs st_Prices_kept_length) (defBody st_Prices_kept_length) (defScope st_Prices_kept_length) .none kV_Prices_kept_length dc_Prices_kept_length pm_Prices_kept_length an_Prices_kept_length cd_Prices_kept_length ct_Prices_kept_length
  F_Prices_kept_length := fun_mk (st := st_Prices_kept_length) l_Prices_kept_length c_Prices_kept_length k_Prices_kept_length
  b_Prices_kept_length := (fun_mk (st := st_Prices_kept_length) l_Prices_kept_length c_Prices_kept_length k_Prices_kept_length).binds (ps := ["self", "length"]) fun _ _ _ _ _ _ us hl => match us, hl with | [_, _], _ => rfl
  f_Prices_kept_length := e_Prices_kept_length
  k_Prices_kept_length := i_Prices_kept_length
  a_Prices_cost := f_Prices_cost
  d_Prices_cost := PySem.W.fnOf "cost" "Prices.cost" (defArgs st_Prices_cost) (defBody st_Prices_cost) (defScope st_Prices_cost) .none kV_Prices_cost dc_Prices_cost pm_Prices_cost an_Prices_cost cd_Prices_cost ct_Prices_cost
  F_Prices_cost := fun_mk (st := st_Prices_cost) l_Prices_cost c_Prices_cost k_Prices_cost
  b_Prices_cost := (fun_mk (st := st_Prices_cost) l_Prices_cost c_Prices_cost k_Prices_cost).binds (ps := ["self", "length", "end"]) fun _ _ _ _ _ _ us hl => match us, hl with | [_, _, _], _ => rfl
  f_Prices_cost := e_Prices_cost
  k_Prices_cost := i_Prices_cost
  a_Prices_last_step := f_Prices_last_step
  d_Prices_last_step := PySem.W.fnOf "last_step" "Prices.last_step" (defArgs st_Prices_last_step) (defBody st_Prices_last_step) (defScope st_Prices_last_step) .none kV_Prices_last_step dc_Prices_last_step pm_Prices_last_step an_Prices_last_step cd_Prices_last_step ct_Prices_last_step
  F_Prices_last_step := fun_mk (st := st_Prices_last_step) l_Prices_last_step c_Prices_last_step k_Prices_last_step
  b_Prices_last_step := (fun_mk (st := st_Prices_last_step) l_Prices_last_step c_Prices_last_step k_Prices_last_step).binds (ps := ["self", "length", "end"]) fun _ _ _ _ _ _ us hl => match us, hl with | [_, _, _], _ => rfl
  f_Prices_last_step := e_Prices_last_step
  k_Prices_last_step := i_Prices_last_step
  a_Prices_filling := f_Prices_filling
  d_Prices_filling := PySem.W.fnOf "filling" "Prices.filling" (defArgs st_Prices_filling) (defBody st_Prices_filling) (defScope st_Prices_filling) .none kV_Prices_filling dc_Prices_filling pm_Prices_filling an_Prices_filling cd_Prices_filling ct_Prices_filling
  F_Prices_filling := fun_mk (st := st_Prices_filling) l_Prices_filling c_Prices_filling k_Prices_filling
  b_Prices_filling := (fun_mk (st := st_Prices_filling) l_Prices_filling c_Prices_filling k_Prices_filling).binds (ps := ["self", "length", "end"]) fun _ _ _ _ _ _ us hl => match us, hl with | [_, _, _], _ => rfl
  f_Prices_filling := e_Prices_filling
  k_Prices_filling := i_Prices_filling
  C_Prices := C_Prices
  g_Prices := PySem.W.mg_of X G aC_Prices
  cl_Prices := ⟨pg_Prices, hd_Prices, po_Prices, sa_Prices⟩
  ne_Prices := ne_Prices
  mro_Prices := mro_Prices
  bool_Prices := bool_Prices
  i_Prices := ⟨fun t b h => own_kit t b h, fun D b h => by rw [own_is h]; exact ⟨⟨pg_Prices, hd_Prices, po_Prices, sa_Prices⟩, hcl_Prices, hsp_Prices, htk_Prices, mro_Prices⟩⟩
  na_period := na_period_Prices
  na_steps := na_steps_Prices
  na_since := na_since_Prices
  na_costs := na_costs_Prices
  nolen_Prices := nolen_Prices
end K20

namespace K20
open PySem PySem.Spec PyProof.Rows L2 Cw

def optI : Option Int → D
  | none => .non
  | some i => .int i
abbrev one (k : Nat) : Str := ⟨#[k]⟩
def lower (k : Nat) : Bool := decide (97 ≤ k ∧ k ≤ 122)
def isLet (t : Str) (n : Int) : Bool := decide (1 ≤ (t.length : Int) ∧ (t.length : Int) ≤ n) && t.cps.toList.all lower
theorem lets : (("abcdefghijklmnopqrstuvwxyz" : Str).cps.toList) = (List.range 26).map (· + 97) := by decide +kernel
theorem let_in (k : Nat) : decide (k ∈ (("abcdefghijklmnopqrstuvwxyz" : Str).cps.toList)) = lower k := by
  rw [lets]; unfold lower; simp only [List.mem_map, List.mem_range]
  refine decide_eq_decide.mpr ⟨fun ⟨a, h, e⟩ => by omega, fun h => ⟨k - 97, by omega, by omega⟩⟩
def S_is_letters : Pm := fun c ds Φ => ∃ t n, ds = [.str t, .int n] ∧ t.length ≤ 5000 ∧ Φ (.bl (isLet t n)) c
section
variable {P : Program} {w : World} {K : PySem.W.Frag} {mg : Str → Option Value} {base : Heap}
set_option maxHeartbeats 8000000 in
theorem ok_is_letters (T : Tx K mg) : FnOk P w K mg base CX0 1 T.a_is_letters T.d_is_letters ["text", "most"] (spD K 0 2 S_is_letters) := by
  refine fnD T.F_is_letters sc_is_letters fun cdv A outer s H E hr => ⟨_, (psd_one (psd_ret (pd_and (pd_lele pd_int (pd_len (pd_v 0) T.n_len) (pd_v 1)) (pd_one (pd_all rfl (pd_lc (i := 2) rfl sc_is_letters.nd (pid_str (pd_v 0)) (by kernel_rfl) (fun _ _ _ _ _ => pg_name (i := 2) sc_is_letters.nd rfl (Or.inl rfl)) (fun _ _ _ _ _ => ptd_nil) (fun _ _ _ _ _ => (pd_in hr (pd_v 2) (pd_gs T.c_LETTERS)))) T.n_all))))), ?_⟩
  rintro c ds Φ hc - ⟨t, n, rfl, ht, hΦ⟩
  cases c with
  | cons _ _ => cases hc
  | nil =>
  conv => whnf
  refine ⟨Nat.le_trans ht (by decide), ?_⟩
  conv => whnf
  have big : t.length ≤ sizeLine := Nat.le_trans ht (by decide)
  split
  · rename_i h1
    have h1 : (1 : Int) ≤ t.length := by simpa using h1
    conv => whnf
    split
    · rename_i h2
      have h2 : (t.length : Int) ≤ n := by simpa using h2
      conv => whnf
      refine lc_map (c := []) (fun d => match d with | .str x => .bl (inS x "abcdefghijklmnopqrstuvwxyz") | _ => .non) rfl _ (fun d hd => ?_) (by show (t.cps.toList.map _).length ≤ _; rw [List.length_map]; exact big) ?_
      · obtain ⟨k, _, rfl⟩ := List.mem_map.mp hd
        exact ⟨rfl, fun acc Ψ _ h => h⟩
      · have e : bls ((chars t).map fun d => match d with | .str x => D.bl (inS x "abcdefghijklmnopqrstuvwxyz") | _ => .non) = some (t.cps.toList.map lower) := by
          show bls ((t.cps.toList.map _).map _) = _
          generalize t.cps.toList = l
          induction l with
          | nil => rfl
          | cons k l ih =>
            show (bls _).map _ = _
            rw [ih]
            show some (inS (one k) _ :: _) = _
            rw [show inS (one k) "abcdefghijklmnopqrstuvwxyz" = lower k from let_in k]; rfl
        refine ⟨_, e, ?_⟩
        conv => whnf
        have : isLet t n = ((t.cps.toList.map lower).all id) := by
          unfold isLet; rw [decide_eq_true ⟨h1, h2⟩]; simp [List.all_map]
        rw [this] at hΦ
        exact hΦ
    · rename_i h2
      have h2 : ¬ (t.length : Int) ≤ n := by simpa using h2
      conv => whnf
      have : isLet t n = false := by unfold isLet; rw [decide_eq_false (fun z => h2 z.2)]; rfl
      rw [this] at hΦ
      exact hΦ
    · rename_i h2 h3
      cases e : decide ((t.length : Int) ≤ n) with
      | true => exact (h2 (by simp [e])).elim
      | false => exact (h3 (by simp [e])).elim
  · rename_i h1
    have h1 : ¬ (1 : Int) ≤ t.length := by simpa using h1
    conv => whnf
    have : isLet t n = false := by unfold isLet; rw [decide_eq_false (fun z => h1 z.1)]; rfl
    rw [this] at hΦ
    exact hΦ
  · rename_i h1 h2
    cases e : decide ((1 : Int) ≤ t.length) with
    | true => exact (h1 (by simp [e])).elim
    | false => exact (h2 (by simp [e])).elim

end
end K20

namespace K20
open PySem PySem.Spec PyProof.Rows L2 Cw

theorem short {n : Nat} (h : n ≤ 60000) : n ≤ sizeLine := Nat.le_trans h (by decide)
theorem all_small {n k : Nat} (hk : k < n) {P : Nat → Prop} (h : ∀ i : Fin n, P i.val) : P k := h ⟨k, hk⟩
/-- a state -/
def stS (i : Nat) (d : Bool) : Str := toString (i : Int) ++ (if d then ">" else "<")
def stL (n : Nat) : List Str := (List.range n).flatMap fun i => [stS i false, stS i true]
def bendS (o : Bool) : Str := if o then "out" else "in"
structure Part where
  t : Str
  i : Nat
  d : Bool
  j : Nat
  e : Bool
  l : Nat
  c : Nat
structure Joint where
  t : Str
  o : Bool
  i : Nat
  d : Bool
  j : Nat
  e : Bool
  c : Nat
def Part.ok (n : Nat) (p : Part) : Prop := isLet p.t 8 = true ∧ (p.i < n ∧ p.j < n) ∧ (1 ≤ p.l ∧ p.l ≤ 6) ∧ p.c ≤ 9
def Joint.ok (n : Nat) (p : Joint) : Prop := isLet p.t 8 = true ∧ (p.i < n ∧ p.j < n) ∧ p.c ≤ 9
def Part.d' (p : Part) : D := .tup [.str p.t, .str (stS p.i p.d), .str (stS p.j p.e), .int p.l, .int p.c]
def Joint.k (p : Joint) : List Key := [.inr p.t, .inr (bendS p.o), .inr (stS p.i p.d), .inr (stS p.j p.e), .inl p.c]
def Joint.d' (p : Joint) : D := keyD p.k
def Part.ws (p : Part) : List Str := ["piece", p.t, stS p.i p.d, stS p.j p.e, "long", toString (p.l : Int), "cost", toString (p.c : Int)]
def Joint.ws (p : Joint) : List Str := ["corner", p.t, bendS p.o, stS p.i p.d, stS p.j p.e, "cost", toString (p.c : Int)]
def Part.row (p : Part) : Str := Txt.join " " p.ws
def Joint.row (p : Joint) : Str := Txt.join " " p.ws
/-- signs from 33 to 127, few of them -/
def tame (n : Nat) (t : Str) : Bool := t.cps.toList.all (fun k => decide (33 ≤ k ∧ k < 128)) && decide (t.length ≤ n)
theorem tame_no {n k : Nat} {t : Str} (h : tame n t = true) (hk : k < 33) : k ∉ TL.tl t := fun z => by
  have h1 := (Bool.and_eq_true_iff.mp h).1
  have := of_decide_eq_true (List.all_eq_true.mp h1 k z)
  omega
theorem tame_ok {n : Nat} {t : Str} (h : tame n t = true) : PyData.strOk t = true := by
  have h1 := (Bool.and_eq_true_iff.mp h).1
  unfold PyData.strOk
  rw [Array.all_eq_true_iff_forall_mem]
  intro k hk
  have := of_decide_eq_true (List.all_eq_true.mp h1 k (by simpa using hk))
  exact decide_eq_true (by omega)
theorem tame_len {n : Nat} {t : Str} (h : tame n t = true) : t.length ≤ n := of_decide_eq_true (Bool.and_eq_true_iff.mp h).2
theorem let_tame {t : Str} {n : Nat} (h : isLet t n = true) : tame n t = true := by
  unfold isLet at h
  obtain ⟨h1, h2⟩ := Bool.and_eq_true_iff.mp h
  have h1 := of_decide_eq_true h1
  refine Bool.and_eq_true_iff.mpr ⟨List.all_eq_true.mpr fun k hk => ?_, decide_eq_true (by omega)⟩
  have := of_decide_eq_true (List.all_eq_true.mp h2 k hk)
  exact decide_eq_true (by omega)
theorem st_tame {i : Nat} (d : Bool) (h : i < 5) : tame 2 (stS i d) = true := all_small h (P := fun i => tame 2 (stS i d) = true) (by cases d <;> decide +kernel)
theorem dig_tame {c : Nat} (h : c < 10) : tame 1 (toString (c : Int)) = true := all_small h (P := fun c : Nat => tame 1 (toString (c : Int)) = true) (by decide +kernel)
theorem bend_tame (o : Bool) : tame 3 (bendS o) = true := by cases o <;> decide +kernel
theorem join_len (y : Str) : ∀ xs : List Str, (Txt.join y xs).length ≤ (xs.map (·.length)).sum + y.length * xs.length := fun xs => by
  have key : ∀ xs : List Str, (TL.joinL (TL.tl y) (xs.map TL.tl)).length ≤ (xs.map (·.length)).sum + y.length * xs.length := by
    intro xs
    induction xs with
    | nil => exact Nat.zero_le _
    | cons x xs ih =>
      cases xs with
      | nil =>
        show (TL.tl x).length ≤ (x.length + 0) + y.length * 1
        rw [show (TL.tl x).length = x.length from Array.length_toList]
        omega
      | cons z r =>
        show (TL.tl x ++ (TL.tl y ++ TL.joinL (TL.tl y) ((z :: r).map TL.tl))).length ≤ (x.length + ((z :: r).map (·.length)).sum) + y.length * ((z :: r).length + 1)
        rw [List.length_append, List.length_append, show (TL.tl x).length = x.length from Array.length_toList, show (TL.tl y).length = y.length from Array.length_toList, Nat.mul_add]
        omega
  have e : (Txt.join y xs).length = (TL.joinL (TL.tl y) (xs.map TL.tl)).length := by
    rw [← TL.tl_join, ← TL.join_eq]; exact Array.length_toList.symm
  rw [e]; exact key xs
theorem Part.tames {n : Nat} {p : Part} (h : p.ok n) (hn : n ≤ 5) : ∀ w ∈ p.ws, tame 8 w = true := by
  have up : ∀ {k : Nat} {t : Str}, k ≤ 8 → tame k t = true → tame 8 t = true := fun hk h => by
    obtain ⟨h1, h2⟩ := Bool.and_eq_true_iff.mp h
    exact Bool.and_eq_true_iff.mpr ⟨h1, decide_eq_true (Nat.le_trans (of_decide_eq_true h2) hk)⟩
  obtain ⟨h1, ⟨h2, h3⟩, ⟨h4, h5⟩, h6⟩ := h
  simp only [Part.ws, List.forall_mem_cons, List.not_mem_nil, false_implies, implies_true, and_true]
  exact ⟨by decide +kernel, let_tame h1, up (by decide) (st_tame _ (by omega)), up (by decide) (st_tame _ (by omega)), by decide +kernel, up (by decide) (dig_tame (by omega)), by decide +kernel, up (by decide) (dig_tame (by omega))⟩
theorem Joint.tames {n : Nat} {p : Joint} (h : p.ok n) (hn : n ≤ 5) : ∀ w ∈ p.ws, tame 8 w = true := by
  have up : ∀ {k : Nat} {t : Str}, k ≤ 8 → tame k t = true → tame 8 t = true := fun hk h => by
    obtain ⟨h1, h2⟩ := Bool.and_eq_true_iff.mp h
    exact Bool.and_eq_true_iff.mpr ⟨h1, decide_eq_true (Nat.le_trans (of_decide_eq_true h2) hk)⟩
  obtain ⟨h1, ⟨h2, h3⟩, h6⟩ := h
  simp only [Joint.ws, List.forall_mem_cons, List.not_mem_nil, false_implies, implies_true, and_true]
  exact ⟨by decide +kernel, let_tame h1, up (by decide) (bend_tame _), up (by decide) (st_tame _ (by omega)), up (by decide) (st_tame _ (by omega)), by decide +kernel, up (by decide) (dig_tame (by omega))⟩
theorem ws_split {ws : List Str} (h : ∀ w ∈ ws, tame 8 w = true) (hn : ws ≠ []) : Txt.split (Txt.join " " ws) " " = ws :=
  TL.split_join (s := 32) (S := []) (by decide +kernel) (by decide +kernel) hn fun w hw => tame_no (h w hw) (by decide)
theorem ws_len {ws : List Str} (h : ∀ w ∈ ws, tame 8 w = true) : (Txt.join " " ws).length ≤ 9 * ws.length := by
  have h2 : (ws.map (·.length)).sum ≤ 8 * ws.length := by
    induction ws with
    | nil => exact Nat.le_refl _
    | cons w ws ih =>
      have a := tame_len (h w List.mem_cons_self)
      have b := ih (fun x hx => h x (List.mem_cons_of_mem _ hx))
      rw [List.map_cons, List.sum_cons, List.length_cons]
      omega
  have h1 := join_len (" " : Str) ws
  have h3 : (" " : Str).length = 1 := by decide
  rw [h3] at h1
  omega
theorem joinL_no {S : List Nat} {k : Nat} (hs : k ∉ S) : ∀ {ps : List (List Nat)}, (∀ p ∈ ps, k ∉ p) → k ∉ TL.joinL S ps
  | [], _ => by simp [TL.joinL]
  | [p], h => h p (by simp)
  | p :: q :: r, h => fun z => by
    rcases List.mem_append.mp z with z | z
    · exact h p (by simp) z
    · rcases List.mem_append.mp z with z | z
      · exact hs z
      · exact joinL_no hs (fun x hx => h x (List.mem_cons_of_mem _ hx)) z
theorem ws_line {ws : List Str} (h : ∀ w ∈ ws, tame 8 w = true) : 10 ∉ TL.tl (Txt.join " " ws) := by
  rw [TL.join_eq, TL.tl_join]
  refine joinL_no (by decide +kernel) fun p hp => ?_
  obtain ⟨w, hw, rfl⟩ := List.mem_map.mp hp
  exact tame_no (h w hw) (by decide)
theorem st_mem {n i : Nat} {d : Bool} (h : i < n) : stS i d ∈ stL n := List.mem_flatMap.mpr ⟨i, List.mem_range.mpr h, by cases d <;> simp⟩
def Part.py (p : Part) : PyData := .tuple [.str p.t, .str (stS p.i p.d), .str (stS p.j p.e), .int p.l, .int p.c]
def Joint.py (p : Joint) : PyData := .tuple [.str p.t, .str (bendS p.o), .str (stS p.i p.d), .str (stS p.j p.e), .int p.c]
section
variable {α : Type} {d : α → D} {py : α → PyData}
theorem pys_of (h : ∀ x, D.py (d x) = some (py x)) : ∀ xs : List α, D.pys (xs.map d) = some (xs.map py)
  | [] => rfl
  | x :: xs => by
    show (match D.py (d x), D.pys (xs.map d) with | some p, some ps => some (p :: ps) | _, _ => none) = _
    rw [h x, pys_of h xs]; rfl
theorem lay_of : ∀ {xs : List α}, (∀ x ∈ xs, (py x).canLay0 = true) → PyData.canLayAll0 (xs.map py) = true
  | [], _ => rfl
  | x :: xs, h => by
    show ((py x).canLay0 && PyData.canLayAll0 (xs.map py)) = true
    rw [h x List.mem_cons_self, lay_of fun y hy => h y (List.mem_cons_of_mem _ hy)]; rfl
theorem dep_of {n : Nat} : ∀ {xs : List α}, (∀ x ∈ xs, (py x).depth ≤ n) → PyData.depthAll (xs.map py) ≤ n
  | [], _ => Nat.zero_le _
  | x :: xs, h => by
    show max (py x).depth (PyData.depthAll (xs.map py)) ≤ n
    have h1 := h x List.mem_cons_self
    have h2 := dep_of fun y hy => h y (List.mem_cons_of_mem _ hy)
    omega
theorem shaped_of {xs : List α} (h1 : ∀ x ∈ xs, (py x).canLay0 = true) (h2 : ∀ x ∈ xs, (py x).depth ≤ 1) : SeqAt.shaped (.list (xs.map py)) = true := by
  show (PyData.canLayAll0 (xs.map py) && decide (PyData.depthAll (xs.map py) + 1 ≤ 64)) = true
  have := dep_of h2
  rw [lay_of h1, decide_eq_true (by omega)]; rfl
theorem any_none {xs : List α} (h : ∀ x, (py x).eqv .none = false) : ((xs.map py).any fun z => PyData.eqv z .none) = false := by
  rw [List.any_eq_false]
  intro z hz
  obtain ⟨x, _, rfl⟩ := List.mem_map.mp hz
  rw [h x]; decide
end
theorem Part.lay {n : Nat} {p : Part} (h : p.ok n) (hn : n ≤ 5) : p.py.canLay0 = true := by
  show (PyData.strOk p.t && (PyData.strOk (stS p.i p.d) && (PyData.strOk (stS p.j p.e) && true))) = true
  rw [tame_ok (let_tame (n := 8) h.1), tame_ok (st_tame _ (by have := h.2.1.1; omega)), tame_ok (st_tame _ (by have := h.2.1.2; omega))]; rfl
theorem Joint.lay {n : Nat} {p : Joint} (h : p.ok n) (hn : n ≤ 5) : p.py.canLay0 = true := by
  show (PyData.strOk p.t && (PyData.strOk (bendS p.o) && (PyData.strOk (stS p.i p.d) && (PyData.strOk (stS p.j p.e) && true)))) = true
  rw [tame_ok (let_tame (n := 8) h.1), tame_ok (bend_tame p.o), tame_ok (st_tame _ (by have := h.2.1.1; omega)), tame_ok (st_tame _ (by have := h.2.1.2; omega))]; rfl
theorem nodup_sub : ∀ {l ks : List Str}, l.Nodup → (∀ x ∈ l, x ∈ ks) → l.length ≤ ks.length
  | [], _, _, _ => Nat.zero_le _
  | x :: l, ks, nd, sub => by
    obtain ⟨hx, nd'⟩ := List.nodup_cons.mp nd
    have hm := sub x List.mem_cons_self
    have h1 := nodup_sub (ks := ks.erase x) nd' fun y hy => (List.mem_erase_of_ne (fun z => by subst z; exact hx hy)).mpr (sub y (List.mem_cons_of_mem _ hy))
    have h2 := List.length_erase_of_mem hm
    have h3 := List.length_pos_of_mem hm
    show l.length + 1 ≤ _
    omega
theorem same_len {a b : List Str} (h1 : a.Nodup) (h2 : b.Nodup) (h : ∀ x, x ∈ a ↔ x ∈ b) : a.length = b.length :=
  Nat.le_antisymm (nodup_sub h1 fun x hx => (h x).mp hx) (nodup_sub h2 fun x hx => (h x).mpr hx)
end K20

namespace K20
open PySem PySem.Spec PyProof.Rows L2 Cw
def numberOf (t : Str) (lo hi : Int) : Option Int := match t.cps.toList with
  | [k] => if (48 ≤ k ∧ k ≤ 57) ∧ lo ≤ (k : Int) - 48 ∧ (k : Int) - 48 ≤ hi then some ((k : Int) - 48) else none
  | _ => none
theorem str_one {t : Str} (h : (t.length : Int) = 1) : ∃ k, t = one k := by
  cases t with | mk a => cases a with | mk l =>
    have h : ((l.length : Nat) : Int) = 1 := h
    match l, h with
    | [k], _ => exact ⟨k, rfl⟩
    | [], h => simp at h
    | _ :: _ :: _, h => simp at h; omega
theorem digs : (("0123456789" : Str).cps.toList) = [48, 49, 50, 51, 52, 53, 54, 55, 56, 57] := by decide +kernel
theorem dig_in (k : Nat) : k ∈ (("0123456789" : Str).cps.toList) ↔ (48 ≤ k ∧ k ≤ 57) := by
  rw [digs]; simp; omega
theorem dig_val {k : Nat} (h : 48 ≤ k ∧ k ≤ 57) : PySem.intText? (one k) = some ((k : Int) - 48) := by
  have : k = 48 ∨ k = 49 ∨ k = 50 ∨ k = 51 ∨ k = 52 ∨ k = 53 ∨ k = 54 ∨ k = 55 ∨ k = 56 ∨ k = 57 := by omega
  rcases this with h | h | h | h | h | h | h | h | h | h <;> subst h <;> decide +kernel
def S_number_of : Pm := fun c ds Φ => ∃ t lo hi, ds = [.str t, .int lo, .int hi] ∧ t.length ≤ 5000 ∧ Φ (optI (numberOf t lo hi)) c

def S_is_word : Pm := fun c ds Φ => ∃ t, ds = [.str t] ∧ t.length ≤ 5000 ∧ Φ (.bl (isLet t 8)) c
def signL (m : Str) : Str := Txt.join " " ["signs", m]
def S_signs_of : Pm := fun c ds Φ => ∃ m, ds = [.str (signL m)] ∧ isLet m 5 = true ∧ Φ (.str m) c
def stD (n : Nat) : D := .tup ((stL n).map .str)
def S_states_of : Pm := fun c ds Φ => ∃ m : Str, ds = [.str m] ∧ m.length ≤ 5 ∧ Φ (stD m.length) c
section
variable {P : Program} {w : World} {K : PySem.W.Frag} {mg : Str → Option Value} {base : Heap}
set_option maxHeartbeats 8000000 in
theorem ok_number_of (T : Tx K mg) : FnOk P w K mg base CX0 1 T.a_number_of T.d_number_of ["text", "least", "most"] (spD K 0 3 S_number_of) := by
  refine fnD T.F_number_of sc_number_of fun cdv A outer s H E hr => ⟨_, (psd_cons (psd_if (PDw.pt (pdw_or (pdt_ne hr (pd_len (pd_v 0) T.n_len) pd_int) (pdw_or (pdt_nin hr (pd_v 0) (pd_gs T.c_DIGITS)) (pdw_or1 (pdt_not (pdt_lele (pd_v 1) (pd_intc (pd_v 0) T.n_int) (pd_v 2))))))) (psd_one (psd_ret pd_non)) psd_nil) (psd_one (psd_ret (pd_intc (pd_v 0) T.n_int)))), ?_⟩
  rintro c ds Φ hc - ⟨t, lo, hi, rfl, ht, hΦ⟩
  cases c with
  | cons _ _ => cases hc
  | nil =>
  conv => whnf
  refine ⟨Nat.le_trans ht (by decide), ?_⟩
  conv => whnf
  split
  · rename_i he
    conv => whnf
    have he : ¬ (t.length : Int) = 1 := by simpa using he
    have : numberOf t lo hi = none := by
      unfold numberOf
      split
      · rename_i k e
        refine absurd ?_ he
        show ((t.cps.size : Nat) : Int) = 1
        rw [← Array.length_toList, e]; rfl
      · rfl
    rw [this] at hΦ
    exact hΦ
  · rename_i he
    have he : (t.length : Int) = 1 := by simpa using he
    obtain ⟨k, rfl⟩ := str_one he
    conv => whnf
    split
    · rename_i hd
      conv => whnf
      have hd : ¬ (48 ≤ k ∧ k ≤ 57) := by
        rw [← dig_in]
        simpa [inS] using hd
      have : numberOf (one k) lo hi = none := by
        show (if _ then _ else _) = _
        rw [if_neg (fun z => hd z.1)]
      rw [this] at hΦ
      exact hΦ
    · rename_i hd
      have hd : 48 ≤ k ∧ k ≤ 57 := by
        rw [← dig_in]
        simpa [inS] using hd
      conv => whnf
      refine ⟨by show 1 ≤ 640; decide, _, dig_val hd, ?_⟩
      conv => whnf
      have fin : ∀ b : Bool, (b = true → lo ≤ (k : Int) - 48 ∧ (k : Int) - 48 ≤ hi) → (b = false → ¬ (lo ≤ (k : Int) - 48 ∧ (k : Int) - 48 ≤ hi)) → (match (!b) with
        | true => retD 0 Φ .non []
        | false => dRet (dCB (un1 fInt) (dCons (dVar 0) dNil)) ⟨fun _ c' => retD 0 Φ .non c', retD 0 Φ, fun _ _ => False, fun _ _ => False⟩ (startD ["text", "least", "most"] [.str (one k), .int lo, .int hi]) []) := fun b h1 h2 => by
        cases b with
        | true =>
          conv => whnf
          refine ⟨by show 1 ≤ 640; decide, _, dig_val hd, ?_⟩
          conv => whnf
          have : numberOf (one k) lo hi = some ((k : Int) - 48) := by
            show (if _ then _ else _) = _
            rw [if_pos ⟨hd, h1 rfl⟩]
          rw [this] at hΦ
          exact hΦ
        | false =>
          conv => whnf
          have : numberOf (one k) lo hi = none := by
            show (if _ then _ else _) = _
            rw [if_neg (fun z => h2 rfl z.2)]
          rw [this] at hΦ
          exact hΦ
      split
      · rename_i he
        have hl : lo ≤ (k : Int) - 48 := by simpa using he
        conv => whnf
        exact fin (decide ((k : Int) - 48 ≤ hi)) (fun h => ⟨hl, of_decide_eq_true h⟩) (fun h z => of_decide_eq_false h z.2)
      · rename_i he
        have hl : ¬ lo ≤ (k : Int) - 48 := by simpa using he
        exact fin false (fun h => by cases h) (fun _ z => hl z.1)
      · rename_i h1 h2
        cases e : decide (lo ≤ (k : Int) - 48) with
        | true => exact (h1 (by simp [e])).elim
        | false => exact (h2 (by simp [e])).elim
set_option maxHeartbeats 8000000 in
theorem ok_is_word (T : Tx K mg) : FnOk P w K mg base CX0 2 T.a_is_word T.d_is_word ["value"] (spD K 0 1 S_is_word) := by
  refine fnD T.F_is_word sc_is_word fun cdv A outer s H E hr => ⟨_, (psd_one (psd_ret (pd_and (pd_isi isi_str (.ty "str") (pd_v 0) (pe_bltn rfl T.n_str (by decide +kernel) rfl) T.n_isinstance) (pd_one (pd_callP (ok_is_letters T) (hr.mono (by decide)) T.g_is_letters T.F_is_letters.kp T.b_is_letters pass0 (pds_cons (pd_v 0) (pds_cons (pd_gi T.c_LONGEST_WORD) pds_nil))))))), ?_⟩
  rintro c ds Φ hc - ⟨t, rfl, ht, hΦ⟩
  cases c with
  | cons _ _ => cases hc
  | nil =>
  conv => whnf
  refine ⟨_, true, rfl, rfl, ?_⟩
  conv => whnf
  exact ⟨rfl, rfl, t, 8, rfl, ht, hΦ⟩
set_option maxHeartbeats 8000000 in
theorem ok_signs_of (T : Tx K mg) : FnOk P w K mg base CX0 2 T.a_signs_of T.d_signs_of ["line"] (spD K 0 1 S_signs_of) := by
  refine fnD T.F_signs_of sc_signs_of fun cdv A outer s H E hr => ⟨_, (psd_cons (psd_set (i := 1) sc_signs_of.nd (pd_split (pd_v 0) pd_str)) (psd_cons (psd_if (PDw.pt (pdw_or (pdt_ne hr (pd_len (pd_v 1) T.n_len) pd_int) (pdw_or (pdt_ne hr (pd_ix (pd_v 1) pd_int) pd_str) (pdw_or1 (pdt_not (pdt_val (pd_callP (ok_is_letters T) (hr.mono (by decide)) T.g_is_letters T.F_is_letters.kp T.b_is_letters pass0 (pds_cons (pd_ix (pd_v 1) pd_int) (pds_cons (pd_gi T.c_MOST_SIGNS) pds_nil))))))))) (psd_one (psd_ret pd_non)) psd_nil) (psd_one (psd_ret (pd_ix (pd_v 1) pd_int))))), ?_⟩
  rintro c ds Φ hc - ⟨m, rfl, hm, hΦ⟩
  cases c with
  | cons _ _ => cases hc
  | nil =>
  have hs : Txt.split (signL m) " " = [("signs" : Str), m] := by
    refine TL.split_join (s := 32) (S := []) (by decide +kernel) (by decide +kernel) (by simp) fun p hp => ?_
    rcases List.mem_cons.mp hp with rfl | hp
    · decide +kernel
    · rw [List.mem_singleton.mp hp]; exact tame_no (let_tame hm) (by decide)
  have hml : m.length ≤ 5 := tame_len (let_tame hm)
  have hl : (signL m).length ≤ 20 := by
    have h1 := join_len (" " : Str) [("signs" : Str), m]
    have h3 : (" " : Str).length = 1 := by decide
    have h4 : ("signs" : Str).length = 5 := by decide
    rw [h3] at h1
    simp only [List.map_cons, List.map_nil, List.sum_cons, List.sum_nil, List.length_cons, List.length_nil, h4] at h1
    refine Nat.le_trans h1 ?_
    omega
  conv => whnf
  refine ⟨_, rfl, ?_⟩
  conv => whnf
  refine ⟨rfl, by exact short (by omega), ?_⟩
  rw [hs]
  conv => whnf
  refine ⟨rfl, rfl, m, 5, rfl, by omega, ?_⟩
  rw [hm]
  exact hΦ
set_option maxHeartbeats 8000000 in
theorem ok_states_of (T : Tx K mg) : FnOk P w K mg base CX0 1 T.a_states_of T.d_states_of ["signs"] (spD K 0 1 S_states_of) := by
  refine fnD T.F_states_of sc_states_of fun cdv A outer s H E hr => ⟨_, (psd_one (psd_ret (pd_tuplec (pd_lc2 (i := 1) (j := 2) rfl sc_states_of.nd (pid_range1 (pd_len (pd_v 0) T.n_len) T.n_range) (by kernel_rfl) (fun _ _ _ _ _ => pg_name (i := 1) sc_states_of.nd rfl (Or.inl rfl)) (fun _ _ _ _ _ => (pid_str pd_str)) (fun _ _ _ _ _ => pg_name (i := 2) sc_states_of.nd rfl (Or.inl rfl)) (fun _ _ _ _ _ => (pd_fs2 (pd_v 1) (pd_v 2)))) T.n_tuple))), ?_⟩
  rintro c ds Φ hc - ⟨m, rfl, hm, hΦ⟩
  cases c with
  | cons _ _ => cases hc
  | nil =>
  conv => whnf
  refine ⟨short (by omega), ?_⟩
  conv => whnf
  have mi : ∀ d ∈ rng 0 ((m.length : Int).toNat), ∃ i : Nat, i < 5 ∧ d = .int i := fun d hd => by
    obtain ⟨i, hi, rfl⟩ := List.mem_map.mp hd
    exact ⟨i, by have := List.mem_range.mp hi; simp at this; omega, by simp⟩
  have tl : ∀ i : Nat, i < 5 → (toString (i : Int) : Str).length ≤ 1 ∧ (i : Int).natAbs.log2 < 1920 := fun i hi =>
    ⟨tame_len (dig_tame (by omega)), by
      have : (i : Int).natAbs < 16 := by omega
      have : (i : Int).natAbs.log2 < 4 := by
        by_cases h0 : (i : Int).natAbs = 0
        · rw [h0]; decide
        · exact (Nat.log2_lt h0).mpr (by omega)
      omega⟩
  refine ⟨⟨by omega, by omega⟩, fun _ => [.str "<", .str ">"], fun a b => match a, b with | .int i, .str x => .str ((toString i : Str) ++ x) | _, _ => .non, rfl, ?_, ?_, ?_, ?_⟩
  · intro d hd acc Ψ h
    conv => whnf
    exact h
  · intro d hd e he
    obtain ⟨i, hi, rfl⟩ := mi d hd
    obtain ⟨h1, h2⟩ := tl i hi
    have fin : ∀ x : Str, x.length = 1 → okD 0 (.str ((toString (i : Int) : Str) ++ x)) = true ∧ ∀ acc (Ψ : D → List Cell → Prop), Ψ (.str ((toString (i : Int) : Str) ++ x)) [.lst acc] → dFs2 (dVar 1) (dVar 2) ((((List.set (startD ["signs", "phase", "way"] [.str m]) 2 none).set 1 none).set 1 (some (.int i))).set 2 (some (.str x))) [.lst acc] Ψ := fun x hx => by
      refine ⟨rfl, fun acc Ψ h => ?_⟩
      conv => whnf
      refine ⟨_, by show (if _ then _ else _) = _; exact if_pos h2, short (by omega), ?_⟩
      conv => whnf
      exact ⟨_, by show (if _ then _ else _) = _; exact if_pos (short (by omega)), short (by omega), h⟩
    rcases List.mem_cons.mp he with rfl | he
    · exact fin "<" (by decide)
    · rw [List.mem_singleton.mp he]; exact fin ">" (by decide)
  · have : ∀ l : List D, (l.flatMap fun d => ([.str "<", .str ">"] : List D).map fun b => match d, b with | .int i, .str x => D.str ((toString i : Str) ++ x) | _, _ => .non).length = 2 * l.length := fun l => by
      induction l with
      | nil => rfl
      | cons d l ih => rw [List.flatMap_cons, List.length_append, ih, List.length_cons, List.length_map]; show 2 + _ = _; omega
    refine Nat.le_trans (Nat.le_of_eq (this _)) ?_
    rw [rng_len]
    exact short (by simp; omega)
  · conv => whnf
    have e : ((rng 0 ((m.length : Int).toNat)).flatMap fun d => ([.str "<", .str ">"] : List D).map fun b => match d, b with | .int i, .str x => D.str ((toString i : Str) ++ x) | _, _ => .non) = (stL m.length).map .str := by
      unfold rng stL
      rw [List.flatMap_map, List.map_flatMap]
      simp [stS]
    rw [e]
    exact hΦ

end
end K20

namespace K20
open PySem PySem.Spec PyProof.Rows L2 Cw

def S_piece_of : Pm := fun c ds Φ => ∃ p n, ds = [.str (Part.row p), stD n] ∧ n ≤ 5 ∧ p.ok n ∧ Φ p.d' c
def S_corner_of : Pm := fun c ds Φ => ∃ p n, ds = [.str (Joint.row p), stD n] ∧ n ≤ 5 ∧ p.ok n ∧ Φ p.d' c
theorem dig_num {l : Nat} (h : l < 10) (lo hi : Int) (h1 : lo ≤ l) (h2 : (l : Int) ≤ hi) : numberOf (toString (l : Int)) lo hi = some (l : Int) := by
  have e : (toString (l : Int) : Str).cps.toList = [l + 48] := all_small h (P := fun l : Nat => (toString (l : Int) : Str).cps.toList = [l + 48]) (by decide +kernel)
  unfold numberOf
  rw [e]
  show (if _ then _ else _) = _
  have e2 : ((l + 48 : Nat) : Int) - 48 = l := by omega
  rw [e2, if_pos ⟨⟨by omega, by omega⟩, h1, h2⟩]
theorem txt_in {x : Str} {ys : List Str} (h : x ∈ ys) : inF (.str x) (ys.map .str) = true := by
  unfold inF inV
  rw [List.map_map, List.any_map]
  refine List.any_eq_true.mpr ⟨x, h, ?_⟩
  show eqV (.str x) (.str x) = true
  simp [eqV]
theorem txt_flat (ys : List Str) : (ys.map D.str).all flatD = true := by
  rw [List.all_map]; exact List.all_eq_true.mpr fun x _ => rfl
section
variable {P : Program} {w : World} {K : PySem.W.Frag} {mg : Str → Option Value} {base : Heap}
set_option maxHeartbeats 8000000 in
theorem ok_piece_of (T : Tx K mg) : FnOk P w K mg base CX0 3 T.a_piece_of T.d_piece_of ["line", "states"] (spD K 0 2 S_piece_of) := by
  refine fnD T.F_piece_of sc_piece_of fun cdv A outer s H E hr => ⟨_, (psd_cons (psd_set (i := 2) sc_piece_of.nd (pd_split (pd_v 0) pd_str)) (psd_cons (psd_if (PDw.pt (pdw_or (pdt_ne hr (pd_len (pd_v 2) T.n_len) pd_int) (pdw_or1 (pdt_ne hr (pd_lst (pds_cons (pd_ix (pd_v 2) pd_int) (pds_cons (pd_ix (pd_v 2) pd_int) (pds_cons (pd_ix (pd_v 2) pd_int) pds_nil)))) (pd_lst (pds_cons pd_str (pds_cons pd_str (pds_cons pd_str pds_nil)))))))) (psd_one (psd_ret pd_non)) psd_nil) (psd_cons (psd_asg (pd_sl (pd_v 2) (po_so pd_int) (po_so pd_int)) (pgd_lst rfl (pgds_cons (pgd_name (i := 3) sc_piece_of.nd) (pgds_cons (pgd_name (i := 4) sc_piece_of.nd) (pgds_cons (pgd_name (i := 5) sc_piece_of.nd) pgds_nil))))) (psd_cons (psd_set (i := 6) sc_piece_of.nd (pd_callP (ok_number_of T) (hr.mono (by decide)) T.g_number_of T.F_number_of.kp T.b_number_of pass0 (pds_cons (pd_ix (pd_v 2) pd_int) (pds_cons pd_int (pds_cons (pd_gi T.c_MOST_LONG) pds_nil))))) (psd_cons (psd_set (i := 7) sc_piece_of.nd (pd_callP (ok_number_of T) (hr.mono (by decide)) T.g_number_of T.F_number_of.kp T.b_number_of pass0 (pds_cons (pd_ix (pd_v 2) pd_int) (pds_cons pd_int (pds_cons (pd_gi T.c_MOST_COST) pds_nil))))) (psd_cons (psd_if (PDw.pt (pdw_or (pdt_not (pdt_val (pd_callP (ok_is_word T) (hr.mono (by decide)) T.g_is_word T.F_is_word.kp T.b_is_word pass0 (pds_cons (pd_v 3) pds_nil)))) (pdw_or (pdt_nin hr (pd_v 4) (pd_v 1)) (pdw_or (pdt_nin hr (pd_v 5) (pd_v 1)) (pdw_or (pdt_isn (pd_v 6) pd_non) (pdw_or1 (pdt_isn (pd_v 7) pd_non))))))) (psd_one (psd_ret pd_non)) psd_nil) (psd_one (psd_ret (pd_tup (pds_cons (pd_v 3) (pds_cons (pd_v 4) (pds_cons (pd_v 5) (pds_cons (pd_v 6) (pds_cons (pd_v 7) pds_nil)))))))))))))), ?_⟩
  rintro c ds Φ hc - ⟨p, n, rfl, hn, hp, hΦ⟩
  cases c with
  | cons _ _ => cases hc
  | nil =>
  have tm := Part.tames hp hn
  have hs := ws_split tm (by simp [Part.ws])
  have hl := ws_len tm
  have hl : (Part.row p).length ≤ 100 := Nat.le_trans hl (by simp [Part.ws])
  conv => whnf
  refine ⟨_, rfl, ?_⟩
  conv => whnf
  refine ⟨rfl, short (by omega), ?_⟩
  rw [show Txt.split (Part.row p) " " = p.ws from hs]
  conv => whnf
  refine ⟨short (by decide), ?_⟩
  conv => whnf
  refine ⟨short (by decide), ?_⟩
  conv => whnf
  refine ⟨_, _, rfl, rfl, by decide +kernel, by decide +kernel, ?_⟩
  rw [show PyData.eqv (.list [.str "piece", .str "long", .str "cost"]) (.list [.str "piece", .str "long", .str "cost"]) = true from by decide +kernel]
  conv => whnf
  refine ⟨rfl, ?_⟩
  conv => whnf
  have d1 : tame 1 (toString (p.l : Int)) = true := dig_tame (by have := hp.2.2.1.2; omega)
  have d2 : tame 1 (toString (p.c : Int)) = true := dig_tame (by have := hp.2.2.2; omega)
  refine ⟨rfl, rfl, rfl, toString (p.l : Int), 1, 6, rfl, by have := tame_len d1; omega, ?_⟩
  rw [dig_num (by have := hp.2.2.1.2; omega) 1 6 (by have := hp.2.2.1.1; omega) (by have := hp.2.2.1.2; omega)]
  conv => whnf
  refine ⟨rfl, rfl, toString (p.c : Int), 0, 9, rfl, by have := tame_len d2; omega, ?_⟩
  rw [dig_num (by have := hp.2.2.2; omega) 0 9 (by omega) (by have := hp.2.2.2; omega)]
  conv => whnf
  refine ⟨rfl, rfl, p.t, rfl, by have := tame_len (let_tame (n := 8) hp.1); omega, ?_⟩
  rw [hp.1]
  conv => whnf
  refine .inl ⟨_, rfl, rfl, txt_flat _, ?_⟩
  rw [txt_in (st_mem hp.2.1.1)]
  conv => whnf
  refine .inl ⟨_, rfl, rfl, txt_flat _, ?_⟩
  rw [txt_in (st_mem hp.2.1.2)]
  conv => whnf
  exact ⟨by show (5 : Nat) ≤ sizeLine; decide, hΦ⟩
set_option maxHeartbeats 8000000 in
theorem ok_corner_of (T : Tx K mg) : FnOk P w K mg base CX0 3 T.a_corner_of T.d_corner_of ["line", "states"] (spD K 0 2 S_corner_of) := by
  refine fnD T.F_corner_of sc_corner_of fun cdv A outer s H E hr => ⟨_, (psd_cons (psd_set (i := 2) sc_corner_of.nd (pd_split (pd_v 0) pd_str)) (psd_cons (psd_if (PDw.pt (pdw_or (pdt_ne hr (pd_len (pd_v 2) T.n_len) pd_int) (pdw_or1 (pdt_ne hr (pd_lst (pds_cons (pd_ix (pd_v 2) pd_int) (pds_cons (pd_ix (pd_v 2) pd_int) pds_nil))) (pd_lst (pds_cons pd_str (pds_cons pd_str pds_nil))))))) (psd_one (psd_ret pd_non)) psd_nil) (psd_cons (psd_asg (pd_sl (pd_v 2) (po_so pd_int) (po_so pd_int)) (pgd_lst rfl (pgds_cons (pgd_name (i := 3) sc_corner_of.nd) (pgds_cons (pgd_name (i := 4) sc_corner_of.nd) (pgds_cons (pgd_name (i := 5) sc_corner_of.nd) (pgds_cons (pgd_name (i := 6) sc_corner_of.nd) pgds_nil)))))) (psd_cons (psd_set (i := 7) sc_corner_of.nd (pd_callP (ok_number_of T) (hr.mono (by decide)) T.g_number_of T.F_number_of.kp T.b_number_of pass0 (pds_cons (pd_ix (pd_v 2) pd_int) (pds_cons pd_int (pds_cons (pd_gi T.c_MOST_COST) pds_nil))))) (psd_cons (psd_if (PDw.pt (pdw_or (pdt_not (pdt_val (pd_callP (ok_is_word T) (hr.mono (by decide)) T.g_is_word T.F_is_word.kp T.b_is_word pass0 (pds_cons (pd_v 3) pds_nil)))) (pdw_or (pdt_nin hr (pd_v 4) (pd_gtt T.c_TURNS)) (pdw_or (pdt_nin hr (pd_v 5) (pd_v 1)) (pdw_or (pdt_nin hr (pd_v 6) (pd_v 1)) (pdw_or1 (pdt_isn (pd_v 7) pd_non))))))) (psd_one (psd_ret pd_non)) psd_nil) (psd_one (psd_ret (pd_tup (pds_cons (pd_v 3) (pds_cons (pd_v 4) (pds_cons (pd_v 5) (pds_cons (pd_v 6) (pds_cons (pd_v 7) pds_nil))))))))))))), ?_⟩
  rintro c ds Φ hc - ⟨p, n, rfl, hn, hp, hΦ⟩
  cases c with
  | cons _ _ => cases hc
  | nil =>
  have tm := Joint.tames hp hn
  have hs := ws_split tm (by simp [Joint.ws])
  have hl := ws_len tm
  have hl : (Joint.row p).length ≤ 100 := Nat.le_trans hl (by simp [Joint.ws])
  conv => whnf
  refine ⟨_, rfl, ?_⟩
  conv => whnf
  refine ⟨rfl, short (by omega), ?_⟩
  rw [show Txt.split (Joint.row p) " " = p.ws from hs]
  conv => whnf
  refine ⟨short (by decide), ?_⟩
  conv => whnf
  refine ⟨short (by decide), ?_⟩
  conv => whnf
  refine ⟨_, _, rfl, rfl, by decide +kernel, by decide +kernel, ?_⟩
  rw [show PyData.eqv (.list [.str "corner", .str "cost"]) (.list [.str "corner", .str "cost"]) = true from by decide +kernel]
  conv => whnf
  refine ⟨rfl, ?_⟩
  conv => whnf
  have d2 : tame 1 (toString (p.c : Int)) = true := dig_tame (by have := hp.2.2; omega)
  refine ⟨rfl, rfl, rfl, toString (p.c : Int), 0, 9, rfl, by have := tame_len d2; omega, ?_⟩
  rw [dig_num (by have := hp.2.2; omega) 0 9 (by omega) (by have := hp.2.2; omega)]
  conv => whnf
  refine ⟨rfl, rfl, p.t, rfl, by have := tame_len (let_tame (n := 8) hp.1); omega, ?_⟩
  rw [hp.1]
  conv => whnf
  refine .inl ⟨_, rfl, rfl, txt_flat _, ?_⟩
  rw [txt_in (x := bendS p.o) (ys := ["out", "in"]) (by cases p.o <;> simp [bendS])]
  conv => whnf
  refine .inl ⟨_, rfl, rfl, txt_flat _, ?_⟩
  rw [txt_in (st_mem hp.2.1.1)]
  conv => whnf
  refine .inl ⟨_, rfl, rfl, txt_flat _, ?_⟩
  rw [txt_in (st_mem hp.2.1.2)]
  conv => whnf
  exact ⟨by show (5 : Nat) ≤ sizeLine; decide, hΦ⟩

end
end K20

namespace K20
open PySem PySem.Spec PyProof.Rows L2 Cw

def S_names_of : Pm := fun c ds Φ => ∃ rs : List (Str × List D), ds = [.tup (rs.map fun r => .tup (.str r.1 :: r.2))] ∧ rs.length < 64 ∧ ∀ zs : List Str, zs.Nodup → sortedS zs = true → (∀ x, x ∈ zs ↔ x ∈ rs.map (·.1)) → Φ (.tup (zs.map .str)) c
def S_pieces_fit : Pm := fun c ds Φ => ∃ (n : Nat) (ps : List Part), ds = [.tup (ps.map Part.d')] ∧ n ≤ 5 ∧ (∀ p ∈ ps, p.ok n) ∧ ps.length ≤ 8 ∧ (ps.map (·.t)).Nodup ∧ Φ (.bl true) c
def S_corners_fit : Pm := fun c ds Φ => ∃ (n : Nat) (js : List Joint) (pool : List Str), ds = [.tup (js.map Joint.d')] ∧ n ≤ 5 ∧ (∀ p ∈ js, p.ok n) ∧ js.length ≤ 12 ∧ (js.map Joint.k).Nodup ∧ pool.length ≤ 4 ∧ (∀ p ∈ js, p.t ∈ pool) ∧ Φ (.bl true) c
theorem at_zero {α : Type} (x : α) (l : List α) : L2.atI (x :: l) 0 = some x := by
  unfold L2.atI L2.ixN
  rw [if_pos (by decide), if_pos (by simp)]; rfl
theorem ok_parts (ps : List Part) : okDs 0 [.tup (ps.map Part.d')] = true := by
  show (okDs 0 (ps.map Part.d') && true) = true
  rw [okDs_map (fun _ => rfl)]; rfl
theorem ok_joints (ps : List Joint) : okDs 0 [.tup (ps.map Joint.d')] = true := by
  show (okDs 0 (ps.map Joint.d') && true) = true
  rw [okDs_map (fun _ => rfl)]; rfl
theorem d_part (p : Part) : D.py p.d' = some p.py := rfl
theorem d_joint (p : Joint) : D.py p.d' = some p.py := rfl
section
variable {P : Program} {w : World} {K : PySem.W.Frag} {mg : Str → Option Value} {base : Heap}
set_option maxHeartbeats 8000000 in
theorem ok_names_of (T : Tx K mg) : FnOk P w K mg base CX0 1 T.a_names_of T.d_names_of ["rows"] (spD K 0 1 S_names_of) := by
  refine fnD T.F_names_of sc_names_of fun cdv A outer s H E hr => ⟨_, (psd_one (psd_ret (pd_tuplec (pd_sortSet T.n_sorted rfl sc_names_of.nd (pid_tup (pd_v 0)) (by kernel_rfl) (fun _ _ _ _ _ => pg_name (i := 1) sc_names_of.nd rfl (Or.inl rfl)) (fun _ _ _ _ _ => (pd_ix (pd_v 1) pd_int))) T.n_tuple))), ?_⟩
  rintro c ds Φ hc - ⟨rs, rfl, few, hΦ⟩
  cases c with
  | cons _ _ => cases hc
  | nil =>
  conv => whnf
  refine ⟨rs.map (·.1), by rw [List.length_map, List.length_map], by rw [List.length_map]; exact few, ?_, fun zs nd so mem => ?_⟩
  · intro j d y hd hy Ψ h
    rw [List.getElem?_map] at hd hy
    cases e : rs[j]? with
    | none => rw [e] at hd; cases hd
    | some r =>
      rw [e] at hd hy
      cases hd; cases hy
      conv => whnf
      rw [at_zero]
      exact h
  · conv => whnf
    exact hΦ zs nd so mem
set_option maxHeartbeats 8000000 in
theorem ok_pieces_fit (T : Tx K mg) : FnOk P w K mg base CX0 2 T.a_pieces_fit T.d_pieces_fit ["pieces"] (spD K 0 1 S_pieces_fit) := by
  refine fnD T.F_pieces_fit sc_pieces_fit fun cdv A outer s H E hr => ⟨_, (psd_cons (psd_if (PDw.pt (pdw_or (pdt_gt (pd_len (pd_v 0) T.n_len) (pd_gi T.c_MOST_PIECES)) (pdw_or1 (pdt_in hr pd_non (pd_v 0))))) (psd_one (psd_ret pd_bl)) psd_nil) (psd_one (psd_ret (pd_eq hr (pd_len (pd_callP (ok_names_of T) (hr.mono (by decide)) T.g_names_of T.F_names_of.kp T.b_names_of pass0 (pds_cons (pd_v 0) pds_nil)) T.n_len) (pd_len (pd_v 0) T.n_len))))), ?_⟩
  rintro c ds Φ hc - ⟨n, ps, rfl, hn, hp, h8, nd, hΦ⟩
  cases c with
  | cons _ _ => cases hc
  | nil =>
  have tail : dRet (dBin (fEq false) (dCB (un1 fLen) (dCons (dCallP S_names_of 1 (dCons (dVar 0) dNil)) dNil)) (dCB (un1 fLen) (dCons (dVar 0) dNil))) ⟨fun x c' => retD 0 Φ .non c', retD 0 Φ, fun _ _ => False, fun _ _ => False⟩ (startD ["pieces"] [.tup (ps.map Part.d')]) [] := by
    conv => whnf
    refine ⟨rfl, ok_parts ps, ps.map fun p => (p.t, [.str (stS p.i p.d), .str (stS p.j p.e), .int p.l, .int p.c]), by rw [List.map_map]; rfl, by rw [List.length_map]; omega, fun zs nd2 so mem => ?_⟩
    conv => whnf
    have len : zs.length = ps.length := by
      have := same_len nd2 nd (fun x => by rw [mem x, List.map_map]; rfl)
      rw [List.length_map] at this; exact this
    rw [List.length_map, List.length_map, len]
    rw [show decide ((ps.length : Int) = ps.length) = true from decide_eq_true rfl]
    exact hΦ
  conv => whnf
  rw [show (fun i j => decide (j < i)) (((ps.map Part.d').length : Nat) : Int) 8 = false from decide_eq_false (by rw [List.length_map]; omega)]
  conv => whnf
  refine .inr ⟨.none, _, _, rfl, rfl, pys_of d_part ps, rfl, shaped_of (fun x hx => Part.lay (hp x hx) hn) (fun x _ => Nat.le_refl _), ?_⟩
  rw [any_none (fun _ => rfl)]
  exact tail
set_option maxHeartbeats 8000000 in
theorem ok_corners_fit (T : Tx K mg) : FnOk P w K mg base CX0 2 T.a_corners_fit T.d_corners_fit ["corners"] (spD K 0 1 S_corners_fit) := by
  refine fnD T.F_corners_fit sc_corners_fit fun cdv A outer s H E hr => ⟨_, (psd_cons (psd_if (PDw.pt (pdw_or (pdt_gt (pd_len (pd_v 0) T.n_len) (pd_gi T.c_MOST_CORNERS)) (pdw_or1 (pdt_in hr pd_non (pd_v 0))))) (psd_one (psd_ret pd_bl)) psd_nil) (psd_one (psd_ret (pd_and (pd_eq hr (pd_lenSet hr.units rfl (pd_v 0) T.n_len T.n_set) (pd_len (pd_v 0) T.n_len)) (pd_one (pd_le (pd_len (pd_callP (ok_names_of T) (hr.mono (by decide)) T.g_names_of T.F_names_of.kp T.b_names_of pass0 (pds_cons (pd_v 0) pds_nil)) T.n_len) (pd_gi T.c_MOST_NAMES))))))), ?_⟩
  rintro c ds Φ hc - ⟨n, js, pool, rfl, hn, hp, h12, nd, h4, hpool, hΦ⟩
  cases c with
  | cons _ _ => cases hc
  | nil =>
  have kk : js.map Joint.d' = (js.map Joint.k).map keyD := by rw [List.map_map]; rfl
  have tail : dRet (dAndV (dBin (fEq false) (dLenSet (dVar 0)) (dCB (un1 fLen) (dCons (dVar 0) dNil))) (dBin fLe (dCB (un1 fLen) (dCons (dCallP S_names_of 1 (dCons (dVar 0) dNil)) dNil)) (dC (.int 4)))) ⟨fun x c' => retD 0 Φ .non c', retD 0 Φ, fun _ _ => False, fun _ _ => False⟩ (startD ["corners"] [.tup (js.map Joint.d')]) [] := by
    conv => whnf
    refine ⟨js.map Joint.k, by rw [kk], nd, by rw [List.length_map]; omega, ?_⟩
    conv => whnf
    rw [List.length_map, List.length_map, show decide ((js.length : Int) = js.length) = true from decide_eq_true rfl]
    conv => whnf
    refine ⟨rfl, ok_joints js, js.map fun p => (p.t, [.str (bendS p.o), .str (stS p.i p.d), .str (stS p.j p.e), .int p.c]), by rw [List.map_map]; rfl, by rw [List.length_map]; omega, fun zs nd2 so mem => ?_⟩
    conv => whnf
    have len : zs.length ≤ 4 := Nat.le_trans (nodup_sub nd2 fun x hx => by
      obtain ⟨r, hr, e⟩ := List.mem_map.mp ((mem x).mp hx)
      obtain ⟨p, hpp, rfl⟩ := List.mem_map.mp hr
      subst e
      exact hpool p hpp) h4
    rw [List.length_map]
    rw [show (fun i j => decide (i ≤ j)) ((zs.length : Nat) : Int) 4 = true from decide_eq_true (by omega)]
    exact hΦ
  conv => whnf
  rw [show (fun i j => decide (j < i)) (((js.map Joint.d').length : Nat) : Int) 12 = false from decide_eq_false (by rw [List.length_map]; omega)]
  conv => whnf
  refine .inr ⟨.none, _, _, rfl, rfl, pys_of d_joint js, rfl, shaped_of (fun x hx => Joint.lay (hp x hx) hn) (fun x _ => Nat.le_refl _), ?_⟩
  rw [any_none (fun _ => rfl)]
  exact tail

end
end K20

namespace K20
open PySem PySem.Spec PyProof.Rows L2 Cw

structure Sp where
  m : Str
  ps : List Part
  js : List Joint
def Sp.lines (s : Sp) : List Str := signL s.m :: (s.ps.map Part.row ++ s.js.map Joint.row)
def Sp.text (s : Sp) : Str := Txt.join "\n" s.lines
structure Sp.ok (s : Sp) : Prop where
  m : isLet s.m 5 = true
  ps : ∀ p ∈ s.ps, p.ok s.m.length
  np : s.ps.length ≤ 8
  dp : (s.ps.map (·.t)).Nodup
  js : ∀ p ∈ s.js, p.ok s.m.length
  nj : s.js.length ≤ 12
  dj : (s.js.map Joint.k).Nodup
  pool : ∃ pool : List Str, pool.length ≤ 4 ∧ ∀ p ∈ s.js, p.t ∈ pool
def Sp.d (s : Sp) : D := .tup [.str s.m, .tup (s.ps.map Part.d'), .tup (s.js.map Joint.d')]
theorem starts_t {x y : Str} {r : List Nat} (h : TL.tl x = TL.tl y ++ r) : Txt.startswith x y = true := by
  have lx : x.length = (TL.tl x).length := Array.length_toList.symm
  have ly : y.length = (TL.tl y).length := Array.length_toList.symm
  show (decide (0 + y.length ≤ x.length) && Builtin.Str.subAt x y 0) = true
  rw [PySem.StrLaws.subAt_eq, decide_eq_true (by rw [lx, ly, h, List.length_append]; omega), show x.cps.toList = TL.tl y ++ r from h, ly, List.drop_zero, List.take_left]
  simp [TL.tl]
theorem starts_f {x y : Str} {a b : Nat} {r q : List Nat} (h : TL.tl x = a :: r) (h2 : TL.tl y = b :: q) (ne : a ≠ b) : Txt.startswith x y = false := by
  have ly : y.length = (TL.tl y).length := Array.length_toList.symm
  show (decide (0 + y.length ≤ x.length) && Builtin.Str.subAt x y 0) = false
  rw [PySem.StrLaws.subAt_eq, show x.cps.toList = a :: r from h, show y.cps.toList = b :: q from h2, ly, h2]
  simp [ne]
theorem part_starts (p : Part) : Txt.startswith p.row "piece " = true := by
  refine starts_t (r := TL.joinL (TL.tl " ") ([p.t, stS p.i p.d, stS p.j p.e, "long", toString (p.l : Int), "cost", toString (p.c : Int)].map TL.tl)) ?_
  unfold Part.row Part.ws
  rw [TL.join_eq, TL.tl_join, show TL.tl ("piece " : Str) = TL.tl ("piece" : Str) ++ TL.tl (" " : Str) by decide +kernel, List.append_assoc]
  rfl
theorem joint_starts (p : Joint) : Txt.startswith p.row "piece " = false := by
  refine starts_f (a := 99) (b := 112) (r := [111, 114, 110, 101, 114] ++ (TL.tl (" " : Str) ++ TL.joinL (TL.tl " ") ([p.t, bendS p.o, stS p.i p.d, stS p.j p.e, "cost", toString (p.c : Int)].map TL.tl))) (q := [105, 101, 99, 101, 32]) ?_ (by decide +kernel) (by decide)
  unfold Joint.row Joint.ws
  rw [TL.join_eq, TL.tl_join]
  show TL.tl ("corner" : Str) ++ (TL.tl (" " : Str) ++ _) = _
  rw [show TL.tl ("corner" : Str) = [99, 111, 114, 110, 101, 114] by decide +kernel]
  rfl
theorem cut_from {α : Type} (xs : List α) (k : Nat) : Cw.cutD xs (some (k : Int)) none = xs.drop k := by
  unfold Cw.cutD
  rw [HT.sIx_nat, HT.sIx_none]
  by_cases h : k ≤ xs.length
  · rw [Nat.min_eq_left h, List.take_of_length_le (by rw [List.length_drop]; omega)]
  · rw [Nat.min_eq_right (by omega), List.drop_length, List.drop_of_length_le (by omega)]; simp
theorem cut_both {α : Type} (xs : List α) (k n : Nat) : Cw.cutD xs (some (k : Int)) (some (n : Int)) = (xs.take n).drop k := by
  unfold Cw.cutD
  rw [HT.sIx_nat, HT.sIx_nat, List.drop_take]
  by_cases h : k ≤ xs.length
  · rw [Nat.min_eq_left h]
    by_cases h2 : n ≤ xs.length
    · rw [Nat.min_eq_left h2]
    · rw [Nat.min_eq_right (by omega), List.take_of_length_le (by rw [List.length_drop]; omega), List.take_of_length_le (by rw [List.length_drop]; omega)]
  · rw [Nat.min_eq_right (show xs.length ≤ k by omega), List.drop_length, List.drop_of_length_le (show xs.length ≤ k by omega)]; simp
theorem Sp.split {s : Sp} (h : s.ok) : Txt.split s.text "
" = s.lines := by
  have hn : s.m.length ≤ 5 := tame_len (let_tame (n := 5) h.m)
  refine TL.split_join (s := 10) (S := []) (by decide +kernel) (by decide +kernel) (by simp [Sp.lines]) fun p hp => ?_
  rcases List.mem_cons.mp hp with rfl | hp
  · refine ws_line (ws := ["signs", s.m]) fun w hw => ?_
    rcases List.mem_cons.mp hw with rfl | hw
    · decide +kernel
    · rw [List.mem_singleton.mp hw]
      obtain ⟨h1, h2⟩ := Bool.and_eq_true_iff.mp (let_tame (n := 5) h.m)
      exact Bool.and_eq_true_iff.mpr ⟨h1, decide_eq_true (by omega)⟩
  · rcases List.mem_append.mp hp with hp | hp
    · obtain ⟨q, hq, rfl⟩ := List.mem_map.mp hp
      exact ws_line (Part.tames (h.ps q hq) hn)
    · obtain ⟨q, hq, rfl⟩ := List.mem_map.mp hp
      exact ws_line (Joint.tames (h.js q hq) hn)
theorem sum_le {xs : List Str} {k : Nat} (h : ∀ x ∈ xs, x.length ≤ k) : (xs.map (·.length)).sum ≤ k * xs.length := by
  induction xs with
  | nil => exact Nat.zero_le _
  | cons x xs ih =>
    have h1 := h x List.mem_cons_self
    have h2 := ih fun y hy => h y (List.mem_cons_of_mem _ hy)
    rw [List.map_cons, List.sum_cons, List.length_cons, Nat.mul_add]
    omega
theorem Sp.sums {s : Sp} (h : s.ok) : (s.lines.map (·.length)).sum ≤ 2100 ∧ s.lines.length ≤ 21 := by
  have hn : s.m.length ≤ 5 := tame_len (let_tame (n := 5) h.m)
  have h2 : (s.lines.map (·.length)).sum ≤ 100 * s.lines.length := sum_le fun x hx => by
    rcases List.mem_cons.mp hx with rfl | hx
    · have h1 := join_len (" " : Str) [("signs" : Str), s.m]
      have h3 : (" " : Str).length = 1 := by decide
      have h4 : ("signs" : Str).length = 5 := by decide
      rw [h3] at h1
      simp only [List.map_cons, List.map_nil, List.sum_cons, List.sum_nil, List.length_cons, List.length_nil, h4] at h1
      exact Nat.le_trans h1 (by omega)
    · rcases List.mem_append.mp hx with hx | hx
      · obtain ⟨q, hq, rfl⟩ := List.mem_map.mp hx
        exact Nat.le_trans (ws_len (Part.tames (h.ps q hq) hn)) (by simp [Part.ws])
      · obtain ⟨q, hq, rfl⟩ := List.mem_map.mp hx
        exact Nat.le_trans (ws_len (Joint.tames (h.js q hq) hn)) (by simp [Joint.ws])
  have h3 : s.lines.length ≤ 21 := by
    have a := h.np
    have b := h.nj
    simp [Sp.lines]; omega
  exact ⟨by omega, h3⟩
theorem Sp.len {s : Sp} (h : s.ok) : s.text.length ≤ 2200 := by
  have h1 := join_len ("
" : Str) s.lines
  obtain ⟨h2, h3⟩ := Sp.sums h
  have h4 : ("
" : Str).length = 1 := by decide
  rw [h4] at h1
  show (Txt.join "
" s.lines).length ≤ 2200
  omega
theorem lc_pair {α : Type} {i : Nat} {te : TD} {ρ : Cw.Env} {c : List Cell} {Φ : List D → List Cell → Prop} (d r : α → D) (hc : okCs c.length c = true) : ∀ (xs : List α) (acc : List D),
    (∀ x ∈ xs, okD c.length (r x) = true ∧ ∀ acc (Ψ : D → List Cell → Prop), okDs c.length acc = true → Ψ (r x) (c ++ [.lst acc]) → te (ρ.set i (some (d x))) (c ++ [.lst acc]) Ψ) →
    okDs c.length acc = true → acc.length + xs.length ≤ sizeLine → Φ (acc ++ xs.map r) c → lcD i dYes te (xs.map d) acc ρ c Φ
  | [], acc, _, h, _, q => ⟨hc, h, by simpa using q⟩
  | x :: xs, acc, he, h, hl, q => by
    have hl' : acc.length + (xs.length + 1) ≤ sizeLine := hl
    obtain ⟨hk, ht⟩ := he x List.mem_cons_self
    show te _ _ _
    refine ht acc _ h ⟨by omega, inner_same ?_⟩
    refine lc_pair d r hc xs _ (fun y hy => he y (List.mem_cons_of_mem _ hy)) (okDs_app h (okDs_one hk)) (by rw [List.length_append]; show acc.length + 1 + xs.length ≤ _; omega) ?_
    simpa using q
theorem counted (ps : List Part) (js : List Joint) : (((ps.map Part.row ++ js.map Joint.row).map D.str).filter fun d => match d with | .str x => Txt.startswith x "piece " | _ => false).length = ps.length := by
  rw [List.map_append, List.filter_append, List.map_map, List.map_map, List.filter_eq_self.mpr, List.filter_eq_nil_iff.mpr]
  · simp
  · intro d hd
    obtain ⟨p, _, rfl⟩ := List.mem_map.mp hd
    show ¬ Txt.startswith p.row "piece " = true
    rw [joint_starts]; decide
  · intro d hd
    obtain ⟨p, _, rfl⟩ := List.mem_map.mp hd
    exact part_starts p
def S_parts_of : Pm := fun c ds Φ => ∃ s : Sp, ds = [.str s.text] ∧ s.ok ∧ Φ s.d c
section
variable {P : Program} {w : World} {K : PySem.W.Frag} {mg : Str → Option Value} {base : Heap}
set_option maxHeartbeats 8000000 in
theorem ok_parts_of (T : Tx K mg) : FnOk P w K mg base CX0 4 T.a_parts_of T.d_parts_of ["text"] (spD K 0 1 S_parts_of) := by
  refine fnD T.F_parts_of sc_parts_of fun cdv A outer s H E hr => ⟨_, (psd_cons (psd_if (pdt_not (pdt_val (pd_isi isi_str (.ty "str") (pd_v 0) (pe_bltn rfl T.n_str (by decide +kernel) rfl) T.n_isinstance))) (psd_one (psd_ret pd_non)) psd_nil) (psd_cons (psd_set (i := 1) sc_parts_of.nd (pd_split (pd_v 0) pd_str)) (psd_cons (psd_set (i := 2) sc_parts_of.nd (pd_callP (ok_signs_of T) (hr.mono (by decide)) T.g_signs_of T.F_signs_of.kp T.b_signs_of pass0 (pds_cons (pd_ix (pd_v 1) pd_int) pds_nil))) (psd_cons (psd_if (pdt_isn (pd_v 2) pd_non) (psd_one (psd_ret pd_non)) psd_nil) (psd_cons (psd_set (i := 3) sc_parts_of.nd (pd_callP (ok_states_of T) (hr.mono (by decide)) T.g_states_of T.F_states_of.kp T.b_states_of pass0 (pds_cons (pd_v 2) pds_nil))) (psd_cons (psd_set (i := 4) sc_parts_of.nd (pd_add pd_int (pd_len (pd_lc (i := 7) rfl sc_parts_of.nd (pid_list (pd_sl (pd_v 1) (po_so pd_int) po_no)) (by kernel_rfl) (fun _ _ _ _ _ => pg_name (i := 7) sc_parts_of.nd rfl (Or.inl rfl)) (fun _ _ _ _ _ => (ptd_one (pdt_val (pd_starts (pd_v 7) pd_str)))) (fun _ _ _ _ _ => (pd_v 7))) T.n_len))) (psd_cons (psd_set (i := 5) sc_parts_of.nd (pd_tuplec (pd_lc (i := 7) rfl sc_parts_of.nd (pid_list (pd_sl (pd_v 1) (po_so pd_int) (po_so (pd_v 4)))) (by kernel_rfl) (fun _ _ _ _ _ => pg_name (i := 7) sc_parts_of.nd rfl (Or.inl rfl)) (fun _ _ _ _ _ => ptd_nil) (fun _ _ _ _ _ => (pd_callP (ok_piece_of T) (hr.mono (by decide)) T.g_piece_of T.F_piece_of.kp T.b_piece_of pass0 (pds_cons (pd_v 7) (pds_cons (pd_v 3) pds_nil))))) T.n_tuple)) (psd_cons (psd_set (i := 6) sc_parts_of.nd (pd_tuplec (pd_lc (i := 7) rfl sc_parts_of.nd (pid_list (pd_sl (pd_v 1) (po_so (pd_v 4)) po_no)) (by kernel_rfl) (fun _ _ _ _ _ => pg_name (i := 7) sc_parts_of.nd rfl (Or.inl rfl)) (fun _ _ _ _ _ => ptd_nil) (fun _ _ _ _ _ => (pd_callP (ok_corner_of T) (hr.mono (by decide)) T.g_corner_of T.F_corner_of.kp T.b_corner_of pass0 (pds_cons (pd_v 7) (pds_cons (pd_v 3) pds_nil))))) T.n_tuple)) (psd_cons (psd_if (PDw.pt (pdw_or (pdt_not (pdt_val (pd_callP (ok_pieces_fit T) (hr.mono (by decide)) T.g_pieces_fit T.F_pieces_fit.kp T.b_pieces_fit pass0 (pds_cons (pd_v 5) pds_nil)))) (pdw_or1 (pdt_not (pdt_val (pd_callP (ok_corners_fit T) (hr.mono (by decide)) T.g_corners_fit T.F_corners_fit.kp T.b_corners_fit pass0 (pds_cons (pd_v 6) pds_nil))))))) (psd_one (psd_ret pd_non)) psd_nil) (psd_one (psd_ret (pd_tup (pds_cons (pd_v 2) (pds_cons (pd_v 5) (pds_cons (pd_v 6) pds_nil))))))))))))))), ?_⟩
  rintro c ds Φ hc - ⟨s, rfl, hs, hΦ⟩
  cases c with
  | cons _ _ => cases hc
  | nil =>
  have hn : s.m.length ≤ 5 := tame_len (let_tame (n := 5) hs.m)
  conv => whnf
  refine ⟨_, true, rfl, rfl, ?_⟩
  conv => whnf
  refine ⟨_, rfl, ?_⟩
  conv => whnf
  refine ⟨rfl, short (by have := Sp.len hs; omega), ?_⟩
  rw [Sp.split hs]
  conv => whnf
  rw [show L2.atI (s.lines.map D.str) 0 = some (.str (signL s.m)) from at_zero _ _]
  conv => whnf
  refine ⟨rfl, rfl, s.m, rfl, hs.m, ?_⟩
  conv => whnf
  refine ⟨rfl, rfl, s.m, rfl, hn, ?_⟩
  have R1 : Cw.cutD (s.lines.map D.str) (some 1) none = (s.ps.map Part.row ++ s.js.map Joint.row).map D.str := by
    have e := cut_from (s.lines.map D.str) 1
    exact e
  have R2 : Cw.cutD (s.lines.map D.str) (some 1) (some (1 + (s.ps.length : Int))) = (s.ps.map Part.row).map D.str := by
    have e := cut_both (s.lines.map D.str) 1 (1 + s.ps.length)
    rw [show ((1 + s.ps.length : Nat) : Int) = 1 + (s.ps.length : Int) by omega] at e
    refine Eq.trans e ?_
    rw [← List.map_take, ← List.map_drop]
    congr 1
    show ((signL s.m :: (s.ps.map Part.row ++ s.js.map Joint.row)).take (1 + s.ps.length)).drop 1 = _
    rw [Nat.add_comm, List.take_succ_cons, List.drop_succ_cons, List.drop_zero, List.take_append_of_le_length (by simp), List.take_of_length_le (by simp)]
  have R3 : Cw.cutD (s.lines.map D.str) (some (1 + (s.ps.length : Int))) none = (s.js.map Joint.row).map D.str := by
    have e := cut_from (s.lines.map D.str) (1 + s.ps.length)
    rw [show ((1 + s.ps.length : Nat) : Int) = 1 + (s.ps.length : Int) by omega] at e
    refine Eq.trans e ?_
    rw [← List.map_drop]
    congr 1
    show (signL s.m :: (s.ps.map Part.row ++ s.js.map Joint.row)).drop (1 + s.ps.length) = _
    rw [Nat.add_comm, List.drop_succ_cons, List.drop_append_of_le_length (by simp), List.drop_of_length_le (by simp), List.nil_append]
  have lp := hs.np
  have lj := hs.nj
  conv => whnf
  rw [R1]
  refine lc_filter (c := []) (fun d => match d with | .str x => Txt.startswith x "piece " | _ => false) (fun d => d) rfl _ [] (fun d hd acc Ψ _ h => ?_) (fun d hd _ => ?_) rfl (by simp; exact short (by omega)) ?_
  · obtain ⟨x, _, rfl⟩ := List.mem_map.mp hd
    conv => whnf
    exact ⟨_, rfl, h⟩
  · obtain ⟨x, _, rfl⟩ := List.mem_map.mp hd
    exact ⟨rfl, fun acc Ψ _ h => h⟩
  · conv => whnf
    rw [List.map_id', List.nil_append, counted]
    conv => whnf
    have okst : ∀ x : Str, okDs 0 [.str x, stD s.m.length] = true := fun x => by
      show (true && (okDs 0 ((stL s.m.length).map D.str) && true)) = true
      rw [okDs_map (fun _ => rfl)]; rfl
    rw [R2, List.map_map]
    refine lc_pair (c := []) (fun p : Part => .str p.row) Part.d' rfl s.ps [] (fun p hp => ⟨by show okDs 0 _ = true; rfl, fun acc Ψ _ h => ?_⟩) rfl (by show 0 + s.ps.length ≤ _; exact short (by omega)) ?_
    · conv => whnf
      exact ⟨rfl, okst _, p, s.m.length, rfl, hn, hs.ps p hp, h⟩
    · conv => whnf
      rw [R3, List.map_map]
      refine lc_pair (c := []) (fun p : Joint => .str p.row) Joint.d' rfl s.js [] (fun p hp => ⟨by show okDs 0 _ = true; rfl, fun acc Ψ _ h => ?_⟩) rfl (by show 0 + s.js.length ≤ _; exact short (by omega)) ?_
      · conv => whnf
        exact ⟨rfl, okst _, p, s.m.length, rfl, hn, hs.js p hp, h⟩
      · conv => whnf
        obtain ⟨pool, h4, hpool⟩ := hs.pool
        refine ⟨rfl, ok_parts s.ps, s.m.length, s.ps, rfl, hn, hs.ps, hs.np, hs.dp, ?_⟩
        conv => whnf
        refine ⟨rfl, ok_joints s.js, s.m.length, s.js, pool, rfl, hn, hs.js, hs.nj, hs.dj, h4, hpool, ?_⟩
        conv => whnf
        exact ⟨short (by show (3 : Nat) ≤ _; decide), hΦ⟩

end
end K20

namespace K20
open PySem PySem.Spec PyProof.Rows L2 Cw

def fldB : List Str := ["whole", "motif", "piece_rows", "corner_rows", "all_states", "corner_names"]
def bordD (C : Addr) (t m ps js st nm : D) : D := .ins C fldB [t, m, ps, js, st, nm]
def S_Borders_text (C : Addr) : Pm := fun c ds Φ => ∃ t m ps js st nm, ds = [bordD C t m ps js st nm] ∧ okD 0 t = true ∧ Φ t c
def S_Borders_signs (C : Addr) : Pm := fun c ds Φ => ∃ t m ps js st nm, ds = [bordD C t m ps js st nm] ∧ okD 0 m = true ∧ Φ m c
def S_Borders_states (C : Addr) : Pm := fun c ds Φ => ∃ t m ps js st nm, ds = [bordD C t m ps js st nm] ∧ okD 0 st = true ∧ Φ st c
def S_Borders_pieces (C : Addr) : Pm := fun c ds Φ => ∃ t m ps js st nm, ds = [bordD C t m ps js st nm] ∧ okD 0 ps = true ∧ Φ ps c
def S_Borders_corners (C : Addr) : Pm := fun c ds Φ => ∃ t m ps js st nm, ds = [bordD C t m ps js st nm] ∧ okD 0 js = true ∧ Φ js c
def S_Borders_names (C : Addr) : Pm := fun c ds Φ => ∃ t m ps js st nm, ds = [bordD C t m ps js st nm] ∧ okD 0 nm = true ∧ Φ nm c
def S_Borders___str__ (C : Addr) : Pm := fun c ds Φ => ∃ t m ps js st nm, ds = [bordD C (.str t) m ps js st nm] ∧ Φ (.str t) c
def S_Borders___eq__ (C : Addr) : Pm := fun c ds Φ => ∃ t m ps js st nm t' m' ps' js' st' nm', ds = [bordD C (.str t) m ps js st nm, bordD C (.str t') m' ps' js' st' nm'] ∧ Φ (.bl (decide (t = t'))) c
def S_Borders___init__ (C : Addr) : Pm := fun c ds Φ => ∃ s : Sp, c = [.obj C [] []] ∧ ds = [.cell 0, .str s.text] ∧ s.ok ∧ ∀ zs : List Str, zs.Nodup → sortedS zs = true → (∀ x, x ∈ zs ↔ x ∈ s.js.map (·.t)) →
  Φ .non [.obj C fldB [.str s.text, .str s.m, .tup (s.ps.map Part.d'), .tup (s.js.map Joint.d'), stD s.m.length, .tup (zs.map .str)]]
section
variable {P : Program} {w : World} {K : PySem.W.Frag} {mg : Str → Option Value} {base : Heap}
set_option maxHeartbeats 8000000 in
theorem ok_Borders_text (T : Tx K mg) : FnOk P w K mg base CX0 1 T.a_Borders_text T.d_Borders_text ["self"] (spD K 0 1 (S_Borders_text T.C_Borders)) := by
  refine fnD T.F_Borders_text sc_Borders_text fun cdv A outer s H E hr => ⟨_, (psd_one (psd_ret (pd_fld T.cl_Borders T.na_whole (pd_v 0)))), ?_⟩
  rintro c ds Φ hc - ⟨t, m, ps, js, st, nm, rfl, hok, hΦ⟩
  cases c with
  | cons _ _ => cases hc
  | nil =>
  conv => whnf
  refine ⟨rfl, _, rfl, ?_⟩
  conv => whnf
  exact hΦ
set_option maxHeartbeats 8000000 in
theorem ok_Borders_signs (T : Tx K mg) : FnOk P w K mg base CX0 1 T.a_Borders_signs T.d_Borders_signs ["self"] (spD K 0 1 (S_Borders_signs T.C_Borders)) := by
  refine fnD T.F_Borders_signs sc_Borders_signs fun cdv A outer s H E hr => ⟨_, (psd_one (psd_ret (pd_fld T.cl_Borders T.na_motif (pd_v 0)))), ?_⟩
  rintro c ds Φ hc - ⟨t, m, ps, js, st, nm, rfl, hok, hΦ⟩
  cases c with
  | cons _ _ => cases hc
  | nil =>
  conv => whnf
  refine ⟨rfl, _, rfl, ?_⟩
  conv => whnf
  exact hΦ
set_option maxHeartbeats 8000000 in
theorem ok_Borders_states (T : Tx K mg) : FnOk P w K mg base CX0 1 T.a_Borders_states T.d_Borders_states ["self"] (spD K 0 1 (S_Borders_states T.C_Borders)) := by
  refine fnD T.F_Borders_states sc_Borders_states fun cdv A outer s H E hr => ⟨_, (psd_one (psd_ret (pd_fld T.cl_Borders T.na_all_states (pd_v 0)))), ?_⟩
  rintro c ds Φ hc - ⟨t, m, ps, js, st, nm, rfl, hok, hΦ⟩
  cases c with
  | cons _ _ => cases hc
  | nil =>
  conv => whnf
  refine ⟨rfl, _, rfl, ?_⟩
  conv => whnf
  exact hΦ
set_option maxHeartbeats 8000000 in
theorem ok_Borders_pieces (T : Tx K mg) : FnOk P w K mg base CX0 1 T.a_Borders_pieces T.d_Borders_pieces ["self"] (spD K 0 1 (S_Borders_pieces T.C_Borders)) := by
  refine fnD T.F_Borders_pieces sc_Borders_pieces fun cdv A outer s H E hr => ⟨_, (psd_one (psd_ret (pd_fld T.cl_Borders T.na_piece_rows (pd_v 0)))), ?_⟩
  rintro c ds Φ hc - ⟨t, m, ps, js, st, nm, rfl, hok, hΦ⟩
  cases c with
  | cons _ _ => cases hc
  | nil =>
  conv => whnf
  refine ⟨rfl, _, rfl, ?_⟩
  conv => whnf
  exact hΦ
set_option maxHeartbeats 8000000 in
theorem ok_Borders_corners (T : Tx K mg) : FnOk P w K mg base CX0 1 T.a_Borders_corners T.d_Borders_corners ["self"] (spD K 0 1 (S_Borders_corners T.C_Borders)) := by
  refine fnD T.F_Borders_corners sc_Borders_corners fun cdv A outer s H E hr => ⟨_, (psd_one (psd_ret (pd_fld T.cl_Borders T.na_corner_rows (pd_v 0)))), ?_⟩
  rintro c ds Φ hc - ⟨t, m, ps, js, st, nm, rfl, hok, hΦ⟩
  cases c with
  | cons _ _ => cases hc
  | nil =>
  conv => whnf
  refine ⟨rfl, _, rfl, ?_⟩
  conv => whnf
  exact hΦ
set_option maxHeartbeats 8000000 in
theorem ok_Borders_names (T : Tx K mg) : FnOk P w K mg base CX0 1 T.a_Borders_names T.d_Borders_names ["self"] (spD K 0 1 (S_Borders_names T.C_Borders)) := by
  refine fnD T.F_Borders_names sc_Borders_names fun cdv A outer s H E hr => ⟨_, (psd_one (psd_ret (pd_fld T.cl_Borders T.na_corner_names (pd_v 0)))), ?_⟩
  rintro c ds Φ hc - ⟨t, m, ps, js, st, nm, rfl, hok, hΦ⟩
  cases c with
  | cons _ _ => cases hc
  | nil =>
  conv => whnf
  refine ⟨rfl, _, rfl, ?_⟩
  conv => whnf
  exact hΦ
set_option maxHeartbeats 8000000 in
theorem ok_Borders___str__ (T : Tx K mg) : FnOk P w K mg base CX0 1 T.a_Borders___str__ T.d_Borders___str__ ["self"] (spD K 0 1 (S_Borders___str__ T.C_Borders)) := by
  refine fnD T.F_Borders___str__ sc_Borders___str__ fun cdv A outer s H E hr => ⟨_, (psd_one (psd_ret (pd_strc (pd_fld T.cl_Borders T.na_whole (pd_v 0)) T.n_str))), ?_⟩
  rintro c ds Φ hc - ⟨t, m, ps, js, st, nm, rfl, hΦ⟩
  cases c with
  | cons _ _ => cases hc
  | nil =>
  conv => whnf
  refine ⟨rfl, _, rfl, ?_⟩
  conv => whnf
  exact hΦ
set_option maxHeartbeats 8000000 in
theorem ok_Borders___eq__ (T : Tx K mg) : FnOk P w K mg base CX0 1 T.a_Borders___eq__ T.d_Borders___eq__ ["self", "other"] (spD K 0 2 (S_Borders___eq__ T.C_Borders)) := by
  refine fnD T.F_Borders___eq__ sc_Borders___eq__ fun cdv A outer s H E hr => ⟨_, (psd_one (psd_ret (pd_and (pd_isi T.i_Borders (.own _) (pd_v 1) (pe_glob rfl T.g_Borders rfl) T.n_isinstance) (pd_one (pd_eq hr (pd_fld T.cl_Borders T.na_whole (pd_v 0)) (pd_fld T.cl_Borders T.na_whole (pd_v 1))))))), ?_⟩
  rintro c ds Φ hc - ⟨t, m, ps, js, st, nm, t', m', ps', js', st', nm', rfl, hΦ⟩
  cases c with
  | cons _ _ => cases hc
  | nil =>
  conv => whnf
  refine ⟨.ins T.C_Borders, true, rfl, if_pos rfl, ?_⟩
  conv => whnf
  refine ⟨rfl, _, rfl, ?_⟩
  conv => whnf
  refine ⟨rfl, _, rfl, ?_⟩
  conv => whnf
  exact hΦ
set_option maxHeartbeats 8000000 in
theorem ok_Borders___init__ (T : Tx K mg) : FnOk P w K mg base CX0 6 T.a_Borders___init__ T.d_Borders___init__ ["self", "text"] (spD K 1 2 (S_Borders___init__ T.C_Borders)) := by
  refine fnD T.F_Borders___init__ sc_Borders___init__ fun cdv A outer s H E hr => ⟨_, (psd_cons (psd_set (i := 2) sc_Borders___init__.nd (pd_callP (ok_parts_of T) (hr.mono (by decide)) T.g_parts_of T.F_parts_of.kp T.b_parts_of pass0 (pds_cons (pd_v 1) pds_nil))) (psd_cons (psd_if (pdt_isn (pd_v 2) pd_non) (psd_one psd_never) psd_nil) (psd_cons (psd_stf T.cl_Borders T.na_whole (pd_v 0) (pd_v 1)) (psd_cons (psd_asg (pd_v 2) (pgd_tup rfl (pgds_cons (pgd_fld T.cl_Borders T.na_motif (pd_v 0)) (pgds_cons (pgd_fld T.cl_Borders T.na_piece_rows (pd_v 0)) (pgds_cons (pgd_fld T.cl_Borders T.na_corner_rows (pd_v 0)) pgds_nil))))) (psd_cons (psd_stf T.cl_Borders T.na_all_states (pd_v 0) (pd_callP (ok_states_of T) (hr.mono (by decide)) T.g_states_of T.F_states_of.kp T.b_states_of pass0 (pds_cons (pd_fld T.cl_Borders T.na_motif (pd_v 0)) pds_nil))) (psd_one (psd_stf T.cl_Borders T.na_corner_names (pd_v 0) (pd_callP (ok_names_of T) (hr.mono (by decide)) T.g_names_of T.F_names_of.kp T.b_names_of pass0 (pds_cons (pd_fld T.cl_Borders T.na_corner_rows (pd_v 0)) pds_nil))))))))), ?_⟩
  rintro c ds Φ hc - ⟨s, rfl, rfl, hs, hΦ⟩
  conv => whnf
  refine ⟨rfl, rfl, s, rfl, hs, ?_⟩
  conv => whnf
  refine ⟨0, [], [], rfl, rfl, by decide, ?_⟩
  have hn : s.m.length ≤ 5 := tame_len (let_tame (n := 5) hs.m)
  conv => whnf
  refine ⟨rfl, ?_⟩
  conv => whnf
  refine ⟨0, _, _, rfl, rfl, by show (1 : Nat) < 1000; decide, ?_⟩
  conv => whnf
  refine ⟨0, _, _, rfl, rfl, by show (2 : Nat) < 1000; decide, ?_⟩
  conv => whnf
  refine ⟨0, _, _, rfl, rfl, by show (3 : Nat) < 1000; decide, ?_⟩
  conv => whnf
  refine ⟨rfl, rfl, _, rfl, ?_⟩
  conv => whnf
  refine ⟨rfl, rfl, s.m, rfl, hn, ?_⟩
  conv => whnf
  refine ⟨0, _, _, rfl, rfl, by show (4 : Nat) < 1000; decide, ?_⟩
  conv => whnf
  refine ⟨rfl, _, rfl, ?_⟩
  conv => whnf
  refine ⟨rfl, ok_joints s.js, s.js.map fun p => (p.t, [.str (bendS p.o), .str (stS p.i p.d), .str (stS p.j p.e), .int p.c]), by rw [List.map_map]; rfl, by have := hs.nj; rw [List.length_map]; omega, fun zs nd so mem => ?_⟩
  conv => whnf
  refine ⟨0, _, _, rfl, rfl, by show (5 : Nat) < 1000; decide, ?_⟩
  conv => whnf
  exact hΦ zs nd so fun x => by rw [mem x, List.map_map]; rfl

end
end K20

namespace K20
open PySem PySem.Spec PyProof.Rows L2 Cw
def spr (a b k : Int) : Cell := .lst [.int a, .int b, .int k]
def S__law_take : Pm := fun c ds Φ => ∃ a b k m, c = [spr a b k] ∧ ds = [.cell 0, .int m] ∧ (0 ≤ a ∧ a < 2147483587) ∧ 0 ≤ b ∧ (0 ≤ k ∧ k < 100000) ∧ (0 < m ∧ m < 1000000000000000000000000000000000000) ∧ ∀ v a' b', 0 ≤ v → v < m → 0 ≤ a' → a' < 2147483587 → 0 ≤ b' → Φ (.int v) [spr a' b' (k + 1)]
def intsD (ns : List Int) : D := .fl (ns.map .int)
def S__law_spring : Pn := fun ds Φ => ∃ ns at_, ds = [intsD ns, .int at_] ∧ (0 ≤ at_ ∧ at_ ≤ 100) ∧ ns.length ≤ 63 ∧ ∀ a b : Int, (0 ≤ a ∧ a < 2147483587) → 0 ≤ b → Φ [.int a, .int b, .int 0]
theorem spring_tail {Φ : List D → Prop} {ns : List Int} {at_ own mix : Int} {x4 : Option D} (ha : 0 ≤ at_ ∧ at_ ≤ 100) (hm : 0 ≤ mix ∧ mix < 2147483587) (hΦ : ∀ (a b : Int), 0 ≤ a ∧ a < 2147483587 → 0 ≤ b → Φ [D.int a, D.int b, D.int 0]) :
    dRet (dLstM (dCons (dBin fMod (dCB (un1 fInt) (dCons (dBin fAdd (dBin fAdd (dBin fMul (dVar 3) (dC (.int 48271))) (dBin fMul (dC (.int 977)) (dVar 1))) (dC (.int 13))) dNil)) (dC (.int 2147483587)))
      (dCons (dIf (dOr (dT (dBin fLt (dVar 2) (dC (.int 0)))) (dT (dBin fGe (dVar 2) (dBin fPow (dC (.int 10)) (dC (.int 18)))))) (dCB (un1 fAbs) (dCons (dVar 2) dNil)) (dC (.int 0))) (dCons (dC (.int 0)) dNil))))
      ⟨fun _ _ => False, retN Φ, fun _ _ => False, fun _ _ => False⟩ [some (intsD ns), some (.int at_), some (.int own), some (.int mix), x4] [] := by
  conv => whnf
  ((refine ⟨?num, ?_⟩); (case num => first | omega | (left; omega) | (right; omega)); (conv => whnf))
  ((refine ⟨?num, ?_⟩); (case num => first | omega | (left; omega) | (right; omega)); (conv => whnf))
  ((refine ⟨?num, ?_⟩); (case num => first | omega | (left; omega) | (right; omega)); (conv => whnf))
  have fin : ∀ b : Int, 0 ≤ b → [D.int ((mix * 48271 + 977 * at_ + 13) % 2147483587), D.int b, D.int 0].length ≤ sizeLine ∧ retN Φ (.cell 0) [.lst [D.int ((mix * 48271 + 977 * at_ + 13) % 2147483587), D.int b, D.int 0]] := fun b hb =>
    ⟨by show 3 ≤ sizeLine; decide, _, rfl, rfl, hΦ _ b ⟨Int.emod_nonneg _ (by decide), Int.emod_lt_of_pos _ (by decide)⟩ hb⟩
  split
  · conv => whnf
    refine fin _ ?_
    split <;> omega
  · rename_i he
    have he : ¬ own < 0 := of_decide_eq_false he
    conv => whnf
    refine ⟨by decide, ?_⟩
    conv => whnf
    split
    · conv => whnf
      refine fin _ ?_
      split <;> omega
    · conv => whnf
      exact fin 0 (by decide)
def B3 (a b k : Int) (lim : Int) : Prop := (0 ≤ a ∧ a < 2147483587) ∧ 0 ≤ b ∧ (0 ≤ k ∧ k ≤ lim)
theorem B3.up {a b k l l' : Int} (h : B3 a b k l) (hl : l ≤ l') : B3 a b k l' := ⟨h.1, h.2.1, h.2.2.1, Int.le_trans h.2.2.2 hl⟩
theorem take_call {a b k m lim : Int} {rest : List Cell} {Φ : D → List Cell → Prop} (hB : B3 a b k lim) (hl : lim < 99999) (hm : 0 < m ∧ m < 1000000000000000000000000000000000000)
    (h : ∀ v a' b' k', 0 ≤ v → v < m → B3 a' b' k' (lim + 1) → Φ (.int v) (spr a' b' k' :: rest)) : callM S__law_take [.cell 0, .int m] (spr a b k :: rest) Φ :=
  ⟨spr a b k, rfl, rfl, rfl, a, b, k, m, rfl, rfl, hB.1, hB.2.1, ⟨hB.2.2.1, by have := hB.2.2.2; omega⟩, hm, fun v a' b' h1 h2 h3 h4 h5 => ⟨rfl, rfl, h v a' b' _ h1 h2 ⟨⟨h3, h4⟩, h5, by have := hB.2.2.1; omega, by have := hB.2.2.2; omega⟩⟩⟩
theorem lc_inv {i : Nat} {te : TD} {ρ : Cw.Env} {Φ : List D → List Cell → Prop} (I : List D → List D → List Cell → Prop) (fin : ∀ acc c, I [] acc c → okCs c.length c = true ∧ okDs c.length acc = true ∧ Φ acc c)
    (step : ∀ d ds acc c (F : List D → List Cell → Prop), (∀ acc c, I ds acc c → F acc c) → I (d :: ds) acc c → te (ρ.set i (some d)) (c ++ [.lst acc]) fun y c3 => acc.length < sizeLine ∧ inner c.length acc y c3 fun c4 => F (acc ++ [y]) c4) : ∀ ds acc c, I ds acc c → lcD i dYes te ds acc ρ c Φ
  | [], acc, c, h => fin acc c h
  | d :: ds, acc, c, h => step d ds acc c _ (fun acc c h => lc_inv I fin step ds acc c h) h
section
variable {P : Program} {w : World} {K : PySem.W.Frag} {mg : Str → Option Value} {base : Heap}

end
end K20

namespace K20
open PySem PySem.Spec PyProof.Rows L2 Cw

theorem txts_of_ones : ∀ ks : List Nat, Cw.txts (ks.map fun q => D.str (one q)) = some (ks.map one)
  | [] => rfl
  | k :: ks => by
    show (Cw.txts (ks.map fun q => D.str (one q))).map (one k :: ·) = _
    rw [txts_of_ones ks]; rfl
theorem sum_ones (ks : List Nat) : ((ks.map one).map (·.length)).sum = ks.length := by
  induction ks with
  | nil => rfl
  | cons k ks ih => rw [List.map_cons, List.map_cons, List.sum_cons, ih, List.length_cons]; show 1 + _ = _; omega
def S__law_word : Pm := fun c ds Φ => ∃ a b k lim, c = [spr a b k] ∧ ds = [.cell 0] ∧ B3 a b k lim ∧ lim ≤ 4000 ∧ ∀ t a' b' k', isLet t 8 = true → B3 a' b' k' (lim + 10) → Φ (.str t) [spr a' b' k']
theorem at_small {v : Int} (h : 0 ≤ v ∧ v < 26) : ∃ k, L2.atI ("abcdefghijklmnopqrstuvwxyz" : Str).cps.toList v = some k ∧ lower k = true := by
  obtain ⟨n, rfl⟩ : ∃ n : Nat, v = n := ⟨v.toNat, by omega⟩
  refine ⟨97 + n, ?_, decide_eq_true (by omega)⟩
  exact all_small (show n < 26 by omega) (P := fun n : Nat => L2.atI ("abcdefghijklmnopqrstuvwxyz" : Str).cps.toList (n : Int) = some (97 + n)) (by decide +kernel)
theorem join_ones : ∀ ks : List Nat, Txt.join "" (ks.map one) = (⟨ks.toArray⟩ : Str) := fun ks => by
  refine TL.ext_tl ?_
  rw [TL.join_eq, TL.tl_join, show TL.tl ("" : Str) = [] by decide +kernel]
  show _ = ks
  have key : ∀ ks : List Nat, TL.joinL [] ((ks.map one).map TL.tl) = ks := by
    intro ks
    induction ks with
    | nil => rfl
    | cons k ks ih =>
      cases ks with
      | nil => rfl
      | cons q r =>
        show [k] ++ ([] ++ TL.joinL [] (((q :: r).map one).map TL.tl)) = k :: q :: r
        rw [ih]; rfl
  exact key ks
theorem let_mk {ks : List Nat} {n : Int} (h : ks.all lower = true) (h1 : 1 ≤ ks.length) (h2 : (ks.length : Int) ≤ n) : isLet ⟨ks.toArray⟩ n = true := by
  unfold isLet
  have e : (⟨ks.toArray⟩ : Str).length = ks.length := by show ks.toArray.size = _; simp
  rw [e, decide_eq_true ⟨by omega, h2⟩]
  exact h
/-- letters drawn one by one -/
theorem drawn {i : Nat} {te : TD} {ρ : Cw.Env} {Φ : List D → List Cell → Prop} {n : Nat} {lim : Int} (hl : lim + n < 90000) {a b k : Int} (hB : B3 a b k lim)
    (ht : ∀ (d : D) (acc : List D) (a b k lim : Int) (Ψ : D → List Cell → Prop), B3 a b k lim → lim < 90000 → (∀ q a' b' k', lower q = true → B3 a' b' k' (lim + 1) → Ψ (.str (one q)) [spr a' b' k', .lst acc]) → te (ρ.set i (some d)) [spr a b k, .lst acc] Ψ)
    (hn : n ≤ 60) (q : ∀ (ks : List Nat) a' b' k', ks.all lower = true → ks.length = n → B3 a' b' k' (lim + n) → Φ (ks.map fun q => .str (one q)) [spr a' b' k']) : lcD i dYes te (rng 0 n) [] ρ [spr a b k] Φ := by
  refine lc_inv (fun ds acc c => ∃ (ks : List Nat) (a b k : Int), acc = ks.map (fun q => .str (one q)) ∧ c = [spr a b k] ∧ ks.all lower = true ∧ ks.length + ds.length = n ∧ B3 a b k (lim + ks.length)) ?_ ?_ _ _ _ ⟨[], a, b, k, rfl, rfl, rfl, by rw [rng_len]; simp, by simpa using hB⟩
  · rintro acc c ⟨ks, a, b, k, rfl, rfl, h1, h2, h3⟩
    have e : ks.length = n := by simpa using h2
    exact ⟨rfl, okDs_map (fun _ => rfl) ks, q ks a b k h1 e (by rw [← e]; exact h3)⟩
  · rintro d ds acc c F hF ⟨ks, a, b, k, rfl, rfl, h1, h2, h3⟩
    have h2 : ks.length + (ds.length + 1) = n := h2
    refine ht d _ a b k _ _ h3 (by omega) fun q a' b' k' hq hB' => ⟨by rw [List.length_map]; exact Nat.lt_of_lt_of_le (show ks.length < 100 by omega) (by decide), rfl, ?_⟩
    refine hF _ _ ⟨ks ++ [q], a', b', k', by simp, rfl, by simp [h1, hq], by simp; omega, hB'.up (by simp; omega)⟩
section
variable {P : Program} {w : World} {K : PySem.W.Frag} {mg : Str → Option Value} {base : Heap}

end
end K20

namespace K20
open PySem PySem.Spec PyProof.Rows L2 Cw

theorem word_call {a b k lim : Int} {rest : List Cell} {Φ : D → List Cell → Prop} (hB : B3 a b k lim) (hl : lim ≤ 4000)
    (h : ∀ t a' b' k', isLet t 8 = true → B3 a' b' k' (lim + 10) → Φ (.str t) (spr a' b' k' :: rest)) : callM S__law_word [.cell 0] (spr a b k :: rest) Φ :=
  ⟨spr a b k, rfl, rfl, rfl, a, b, k, lim, rfl, rfl, hB, hl, fun t a' b' k' h1 h2 => ⟨rfl, rfl, h t a' b' k' h1 h2⟩⟩
def S__law_words : Pm := fun c ds Φ => ∃ a b k lim m, c = [spr a b k] ∧ ds = [.cell 0, .int m] ∧ (1 ≤ m ∧ m ≤ 8) ∧ B3 a b k lim ∧ lim ≤ 3000 ∧
  ∀ (ws : List Str) a' b' k', (∀ w ∈ ws, isLet w 8 = true) → ws.Nodup → (ws.length : Int) ≤ m → ws ≠ [] → B3 a' b' k' (lim + 100) → Φ (.lst (ws.map .str)) [spr a' b' k']
theorem pys_txts : ∀ ws : List Str, D.pys (ws.map .str) = some (ws.map .str)
  | [] => rfl
  | w :: ws => by
    show (match D.py (.str w), D.pys (ws.map D.str) with | some p, some ps => some (p :: ps) | _, _ => none) = _
    rw [pys_txts ws]; rfl
theorem inF_strs (x : Str) (ys : List Str) : inF (.str x) (ys.map .str) = decide (x ∈ ys) := by
  unfold inF inV
  rw [List.map_map, List.any_map]
  show (ys.any fun y => y == x) = _
  rw [Bool.eq_iff_iff]
  simp [List.any_eq_true]
theorem let_cut {w : Str} {v : Int} (h : isLet w 8 = true) (h1 : 0 ≤ v) (h2 : v < w.length) : isLet (cutS w none (some (1 + v))) 8 = true := by
  unfold isLet at h
  obtain ⟨g1, g2⟩ := Bool.and_eq_true_iff.mp h
  have g1 := of_decide_eq_true g1
  obtain ⟨n, rfl⟩ : ∃ n : Nat, v = n := ⟨v.toNat, by omega⟩
  have e : cutS w none (some (1 + (n : Int))) = (⟨(w.cps.toList.take (n + 1)).toArray⟩ : Str) := by
    refine TL.ext_tl ?_
    show (w.cps.toList.drop (HT.sIx w.length 0 none)).take (HT.sIx w.length w.length (some (1 + (n : Int))) - HT.sIx w.length 0 none) = w.cps.toList.take (n + 1)
    rw [show (1 : Int) + (n : Int) = ((n + 1 : Nat) : Int) by omega, HT.sIx_nat, HT.sIx_none, List.drop_zero, Nat.min_eq_left (by omega)]; rfl
  rw [e]
  have hl : w.cps.toList.length = w.length := Array.length_toList
  refine let_mk (List.all_eq_true.mpr fun k hk => List.all_eq_true.mp g2 k (List.mem_of_mem_take hk)) ?_ ?_
  · rw [List.length_take, hl]; omega
  · rw [List.length_take, hl]; omega
section
variable {P : Program} {w : World} {K : PySem.W.Frag} {mg : Str → Option Value} {base : Heap}

end
end K20

namespace K20
open PySem PySem.Spec PyProof.Rows L2 Cw

def S__law_state : Pm := fun c ds Φ => ∃ a b k lim n, c = [spr a b k] ∧ ds = [.cell 0, .int n] ∧ (1 ≤ n ∧ n ≤ 5) ∧ B3 a b k lim ∧ lim ≤ 90000 ∧ ∀ (i : Nat) (d : Bool) a' b' k', (i : Int) < n → B3 a' b' k' (lim + 2) → Φ (.str (stS i d)) [spr a' b' k']
def S__law_piece : Pm := fun c ds Φ => ∃ a b k lim n t, c = [spr a b k] ∧ ds = [.cell 0, .str t, .int n] ∧ (1 ≤ n ∧ n ≤ 5) ∧ isLet t 8 = true ∧ B3 a b k lim ∧ lim ≤ 3900 ∧ ∀ (p : Part) a' b' k', p.ok n.toNat → p.t = t → B3 a' b' k' (lim + 6) → Φ p.d' [spr a' b' k']
def S__law_joint : Pm := fun c ds Φ => ∃ a b k lim n t, c = [spr a b k] ∧ ds = [.cell 0, .str t, .int n] ∧ (1 ≤ n ∧ n ≤ 5) ∧ isLet t 8 = true ∧ B3 a b k lim ∧ lim ≤ 3900 ∧ ∀ (p : Joint) a' b' k', p.ok n.toNat → p.t = t → B3 a' b' k' (lim + 6) → Φ p.d' [spr a' b' k']
theorem state_call {a b k lim n : Int} {rest : List Cell} {Φ : D → List Cell → Prop} (hB : B3 a b k lim) (hl : lim ≤ 90000) (hn : 1 ≤ n ∧ n ≤ 5)
    (h : ∀ (i : Nat) (d : Bool) a' b' k', (i : Int) < n → B3 a' b' k' (lim + 2) → Φ (.str (stS i d)) (spr a' b' k' :: rest)) : callM S__law_state [.cell 0, .int n] (spr a b k :: rest) Φ :=
  ⟨spr a b k, rfl, rfl, rfl, a, b, k, lim, n, rfl, rfl, hn, hB, hl, fun i d a' b' k' h1 h2 => ⟨rfl, rfl, h i d a' b' k' h1 h2⟩⟩
section
variable {P : Program} {w : World} {K : PySem.W.Frag} {mg : Str → Option Value} {base : Heap}

end
end K20

namespace K20
open PySem PySem.Spec PyProof.Rows L2 Cw

theorem cut_to {α : Type} (xs : List α) (n : Nat) : Cw.cutD xs none (some (n : Int)) = xs.take n := by
  have e := cut_both xs 0 n
  rw [List.drop_zero] at e
  exact e
theorem at_mem {ys : List Str} {w : Int} (h : 0 ≤ w) (h2 : w < ys.length) : ∃ t, t ∈ ys ∧ L2.atI (ys.map D.str) w = some (.str t) := by
  obtain ⟨n, rfl⟩ : ∃ n : Nat, w = n := ⟨w.toNat, by omega⟩
  have hn : n < ys.length := by omega
  refine ⟨ys[n], List.getElem_mem hn, ?_⟩
  unfold L2.atI L2.ixN
  rw [if_pos (by omega), if_pos (by rw [List.length_map]; omega)]
  show (ys.map D.str)[(n : Int).toNat]? = _
  rw [Int.toNat_natCast, List.getElem?_map, List.getElem?_eq_getElem hn]; rfl
theorem eqvAll_self : ∀ ps : List PyData, (∀ p ∈ ps, PyData.eqv p p = true) → PyData.eqvAll ps ps = true
  | [], _ => rfl
  | p :: ps, h => by
    show (PyData.eqv p p && PyData.eqvAll ps ps) = true
    rw [h p List.mem_cons_self, eqvAll_self ps fun q hq => h q (List.mem_cons_of_mem _ hq)]; rfl
theorem joint_eqv {p q : Joint} (h : p.k = q.k) : PyData.eqv p.py q.py = true := by
  unfold Joint.k at h
  injection h with e1 h
  injection h with e2 h
  injection h with e3 h
  injection h with e4 h
  injection h with e5 _
  injection e1 with e1
  injection e2 with e2
  injection e3 with e3
  injection e4 with e4
  injection e5 with e5
  have : p.py = q.py := by unfold Joint.py; rw [e1, e2, e3, e4, e5]
  rw [this]
  refine eqvAll_self _ fun x hx => ?_
  simp only [List.mem_cons, List.not_mem_nil, or_false] at hx
  rcases hx with rfl | rfl | rfl | rfl | rfl
  · show (_ == _) = true; simp
  · show (_ == _) = true; simp
  · show (_ == _) = true; simp
  · show (_ == _) = true; simp
  · show (_ == _) = true; simp
def S__law_spec : Pm := fun c ds Φ => ∃ a b k lim, c = [spr a b k] ∧ ds = [.cell 0] ∧ B3 a b k lim ∧ lim ≤ 2500 ∧ ∀ (s : Sp) a' b' k', s.ok → B3 a' b' k' (lim + 400) → Φ s.d [spr a' b' k']
theorem words_call {a b k lim m : Int} {rest : List Cell} {Φ : D → List Cell → Prop} (hB : B3 a b k lim) (hl : lim ≤ 3000) (hm : 1 ≤ m ∧ m ≤ 8)
    (h : ∀ (ws : List Str) a' b' k', (∀ w ∈ ws, isLet w 8 = true) → ws.Nodup → (ws.length : Int) ≤ m → ws ≠ [] → B3 a' b' k' (lim + 100) → Φ (.lst (ws.map .str)) (spr a' b' k' :: rest)) : callM S__law_words [.cell 0, .int m] (spr a b k :: rest) Φ :=
  ⟨spr a b k, rfl, rfl, rfl, a, b, k, lim, m, rfl, rfl, hm, hB, hl, fun ws a' b' k' h1 h2 h3 h4 h5 => ⟨rfl, by show okDs 0 (ws.map D.str) = true; exact okDs_map (fun _ => rfl) ws, h ws a' b' k' h1 h2 h3 h4 h5⟩⟩
theorem piece_call {a b k lim n : Int} {t : Str} {rest : List Cell} {Φ : D → List Cell → Prop} (hB : B3 a b k lim) (hl : lim ≤ 3900) (hn : 1 ≤ n ∧ n ≤ 5) (ht : isLet t 8 = true)
    (h : ∀ (p : Part) a' b' k', p.ok n.toNat → p.t = t → B3 a' b' k' (lim + 6) → Φ p.d' (spr a' b' k' :: rest)) : callM S__law_piece [.cell 0, .str t, .int n] (spr a b k :: rest) Φ :=
  ⟨spr a b k, rfl, rfl, rfl, a, b, k, lim, n, t, rfl, rfl, hn, ht, hB, hl, fun p a' b' k' h1 h2 h3 => ⟨rfl, rfl, h p a' b' k' h1 h2 h3⟩⟩
theorem joint_call {a b k lim n : Int} {t : Str} {rest : List Cell} {Φ : D → List Cell → Prop} (hB : B3 a b k lim) (hl : lim ≤ 3900) (hn : 1 ≤ n ∧ n ≤ 5) (ht : isLet t 8 = true)
    (h : ∀ (p : Joint) a' b' k', p.ok n.toNat → p.t = t → B3 a' b' k' (lim + 6) → Φ p.d' (spr a' b' k' :: rest)) : callM S__law_joint [.cell 0, .str t, .int n] (spr a b k :: rest) Φ :=
  ⟨spr a b k, rfl, rfl, rfl, a, b, k, lim, n, t, rfl, rfl, hn, ht, hB, hl, fun p a' b' k' h1 h2 h3 => ⟨rfl, rfl, h p a' b' k' h1 h2 h3⟩⟩
section
variable {P : Program} {w : World} {K : PySem.W.Frag} {mg : Str → Option Value} {base : Heap}

end
end K20

namespace K20
open PySem PySem.Spec PyProof.Rows L2 Cw

def S__law_piece_row : Pm := fun c ds Φ => ∃ p n, ds = [Part.d' p] ∧ n ≤ 5 ∧ p.ok n ∧ Φ (.str p.row) c
def S__law_joint_row : Pm := fun c ds Φ => ∃ p n, ds = [Joint.d' p] ∧ n ≤ 5 ∧ p.ok n ∧ Φ (.str p.row) c
def S__law_rows : Pm := fun c ds Φ => ∃ s : Sp, ds = [s.d] ∧ s.ok ∧ Φ (.lst (s.lines.map .str)) c
def S__law_joined : Pm := fun c ds Φ => ∃ s : Sp, ds = [s.d] ∧ s.ok ∧ Φ (.str s.text) c
def S__law_states : Pm := fun c ds Φ => ∃ s : Sp, ds = [s.d] ∧ s.ok ∧ Φ (.lst ((stL s.m.length).map .str)) c
def tits (s : Sp) (zs : List Str) : Prop := zs.Nodup ∧ sortedS zs = true ∧ ∀ x, x ∈ zs ↔ x ∈ s.js.map (·.t)
def dueD (s : Sp) (zs : List Str) : D := .lst [.str s.text, .str s.m, stD s.m.length, .tup (s.ps.map Part.d'), .tup (s.js.map Joint.d'), .tup (zs.map .str), .str s.text]
def S__law_due : Pm := fun c ds Φ => ∃ s : Sp, ds = [s.d] ∧ s.ok ∧ ∀ zs, tits s zs → Φ (dueD s zs) c
def bD (C : Addr) (s : Sp) (zs : List Str) : D := bordD C (.str s.text) (.str s.m) (.tup (s.ps.map Part.d')) (.tup (s.js.map Joint.d')) (stD s.m.length) (.tup (zs.map .str))
def S__law_seen (C : Addr) : Pm := fun c ds Φ => ∃ (s : Sp) (zs : List Str), ds = [bD C s zs] ∧ Φ (dueD s zs) c
theorem txts_of' : ∀ ws : List Str, Cw.txts (ws.map D.str) = some ws
  | [] => rfl
  | w :: ws => by
    show (Cw.txts (ws.map D.str)).map (w :: ·) = _
    rw [txts_of' ws]; rfl
theorem dig_small {n : Nat} (h : n < 10) : ((n : Int)).natAbs.log2 < 1920 := by
  have : (n : Int).natAbs < 16 := by omega
  have : (n : Int).natAbs.log2 < 4 := by
    by_cases h0 : (n : Int).natAbs = 0
    · rw [h0]; decide
    · exact (Nat.log2_lt h0).mpr (by omega)
  omega
theorem signs_row (m : Str) : signL m = "signs " ++ m := by
  refine TL.ext_tl ?_
  unfold signL
  rw [TL.join_eq, TL.tl_join, TL.tl_append, show TL.tl ("signs " : Str) = TL.tl ("signs" : Str) ++ TL.tl (" " : Str) by decide +kernel, List.append_assoc]
  rfl
theorem b_ok (C : Addr) (s : Sp) (zs : List Str) : okDs 0 [bD C s zs] = true := by
  show ((true && (true && (okDs 0 (s.ps.map Part.d') && (okDs 0 (s.js.map Joint.d') && (okDs 0 ((stL s.m.length).map D.str) && (okDs 0 (zs.map D.str) && true)))))) && true) = true
  rw [okDs_map (fun _ => rfl), okDs_map (fun _ => rfl), okDs_map (fun _ => rfl), okDs_map (fun _ => rfl)]; rfl
theorem sp_ok (s : Sp) : okDs 0 [s.d] = true := by
  show (true && (okDs 0 (s.ps.map Part.d') && (okDs 0 (s.js.map Joint.d') && true)) && true) = true
  rw [okDs_map (fun _ => rfl), okDs_map (fun _ => rfl)]; rfl
section
variable {P : Program} {w : World} {K : PySem.W.Frag} {mg : Str → Option Value} {base : Heap}
set_option maxHeartbeats 8000000 in
theorem ok__law_states (T : Tx K mg) : FnOk P w K mg base CX0 1 T.a__law_states T.d__law_states ["_law_spec_here"] (spD K 0 1 S__law_states) := by
  refine fnD T.F__law_states sc__law_states fun cdv A outer s H E hr => ⟨_, (psd_cons (psd_set (i := 1) sc__law_states.nd (pd_lst pds_nil)) (psd_cons (psd_for PassesOwn.never rfl (pid_range1 (pd_len (pd_ix (pd_v 0) pd_int) T.n_len) T.n_range) (pgd_name (i := 2) sc__law_states.nd) (psd_one (psd_set (i := 1) sc__law_states.nd (pd_add (pd_v 1) (pd_lst (pds_cons (pd_add (pd_strc (pd_v 2) T.n_str) pd_str) (pds_cons (pd_add (pd_strc (pd_v 2) T.n_str) pd_str) pds_nil))))))) (psd_one (psd_ret (pd_v 1))))), ?_⟩
  rintro c ds Φ hc - ⟨s, rfl, hs, hΦ⟩
  cases c with
  | cons _ _ => cases hc
  | nil =>
  have hn : s.m.length ≤ 5 := tame_len (let_tame (n := 5) hs.m)
  conv => whnf
  refine ⟨Nat.zero_le _, ?_⟩
  conv => whnf
  refine ⟨short (by omega), ?_⟩
  conv => whnf
  refine ⟨⟨by omega, by omega⟩, ?_⟩
  refine forD_inv (fun ds ρ c => ∃ (n r : Nat) (x : Option D), ρ = [some s.d, some (.lst ((stL n).map .str)), x] ∧ c = [] ∧ ds = ((List.range' n r).map fun (i : Nat) => D.int (0 + (i : Int))) ∧ n + r = s.m.length) ?_ ?_ _ _ _ ⟨0, s.m.length, none, rfl, rfl, by unfold rng; rw [Int.toNat_natCast, List.range_eq_range'], by omega⟩
  · rintro ρ c ⟨n, r, x, rfl, rfl, e, h⟩
    have e0 : r = 0 := by
      have := congrArg List.length e
      simpa using this.symm
    subst e0
    have : n = s.m.length := by omega
    subst this
    conv => whnf
    exact hΦ
  · rintro d ds ρ c F hF ⟨n, r, x, rfl, rfl, e, h⟩
    cases r with
    | zero => cases e
    | succ r =>
      rw [List.range'_succ, List.map_cons] at e
      cases e
      have e2 : (0 : Int) + (n : Int) = n := by omega
      have tl : (toString (n : Int) : Str).length ≤ 1 := tame_len (dig_tame (by omega))
      have sl : (stL n).length = 2 * n := by
        unfold stL
        have : ∀ l : List Nat, (l.flatMap fun i => [stS i false, stS i true]).length = 2 * l.length := fun l => by
          induction l with
          | nil => rfl
          | cons a l ih => rw [List.flatMap_cons, List.length_append, ih]; show 2 + _ = 2 * (l.length + 1); omega
        rw [this, List.length_range]
      rw [e2]
      conv => whnf
      refine ⟨dig_small (by omega), ?_⟩
      conv => whnf
      refine ⟨short (by rw [show ("<" : Str).length = 1 by decide]; omega), ?_⟩
      conv => whnf
      refine ⟨dig_small (by omega), ?_⟩
      conv => whnf
      refine ⟨short (by rw [show (">" : Str).length = 1 by decide]; omega), ?_⟩
      conv => whnf
      refine ⟨by show (2 : Nat) ≤ sizeLine; decide, ?_⟩
      conv => whnf
      refine ⟨short (by rw [List.length_map, sl]; show _ + 2 ≤ _; omega), ?_⟩
      exact hF _ _ ⟨n + 1, r, _, by
        have : stL (n + 1) = stL n ++ [stS n false, stS n true] := by unfold stL; rw [List.range_succ, List.flatMap_append]; rfl
        rw [this, List.map_append]; rfl, rfl, rfl, by omega⟩

end
end K20

namespace K20
open PySem PySem.Spec PyProof.Rows L2 Cw
theorem lt_tri : ∀ a b : List Nat, ltCps a b = false → ltCps b a = false → a = b
  | [], [], _, _ => rfl
  | [], _ :: _, h, _ => by cases h
  | _ :: _, [], _, h => by cases h
  | a :: r, b :: t, h1, h2 => by
    have h1 : (decide (a < b) || (a == b && ltCps r t)) = false := h1
    have h2 : (decide (b < a) || (b == a && ltCps t r)) = false := h2
    obtain ⟨x1, x2⟩ := Bool.or_eq_false_iff.mp h1
    obtain ⟨y1, y2⟩ := Bool.or_eq_false_iff.mp h2
    have x1 := of_decide_eq_false x1
    have y1 := of_decide_eq_false y1
    have e : a = b := by omega
    subst e
    rw [beq_self_eq_true, Bool.true_and] at x2 y2
    rw [lt_tri r t x2 y2]
theorem lt_tra : ∀ a b c : List Nat, ltCps b a = false → ltCps c b = false → ltCps c a = false
  | [], _, [], _, _ => rfl
  | [], _, _ :: _, _, _ => rfl
  | _ :: _, [], _, h, _ => by cases h
  | _ :: _, _ :: _, [], _, h => by cases h
  | a :: r, b :: t, c :: u, h1, h2 => by
    have h1 : (decide (b < a) || (b == a && ltCps t r)) = false := h1
    have h2 : (decide (c < b) || (c == b && ltCps u t)) = false := h2
    show (decide (c < a) || (c == a && ltCps u r)) = false
    obtain ⟨x1, x2⟩ := Bool.or_eq_false_iff.mp h1
    obtain ⟨y1, y2⟩ := Bool.or_eq_false_iff.mp h2
    have x1 := of_decide_eq_false x1
    have y1 := of_decide_eq_false y1
    rw [Bool.or_eq_false_iff]
    refine ⟨decide_eq_false (by omega), ?_⟩
    by_cases e : c = a
    · subst e
      have e : b = c := by omega
      subst e
      rw [beq_self_eq_true, Bool.true_and] at x2 y2 ⊢
      exact lt_tra r t u x2 y2
    · rw [beq_eq_false_iff_ne.mpr e, Bool.false_and]
theorem rise_all : ∀ {p : Str} {xs : List Str}, risingS p xs = true → ∀ x ∈ xs, ltCps x.cps.toList p.cps.toList = false
  | _, [], _, _, h => by cases h
  | p, y :: ys, h, x, hx => by
    have h : (!ltCps y.cps.toList p.cps.toList && risingS y ys) = true := h
    obtain ⟨h1, h2⟩ := Bool.and_eq_true_iff.mp h
    have h1 : ltCps y.cps.toList p.cps.toList = false := by simpa using h1
    rcases List.mem_cons.mp hx with rfl | hx
    · exact h1
    · exact lt_tra _ _ _ h1 (rise_all h2 x hx)
theorem rise_tail {p : Str} {xs : List Str} (h : risingS p xs = true) : sortedS xs = true := by
  cases xs with
  | nil => rfl
  | cons y ys =>
    have h : (!ltCps y.cps.toList p.cps.toList && risingS y ys) = true := h
    exact (Bool.and_eq_true_iff.mp h).2
theorem str_tri {x y : Str} (h1 : ltCps x.cps.toList y.cps.toList = false) (h2 : ltCps y.cps.toList x.cps.toList = false) : x = y := Str.ext' (Array.toList_inj.mp (lt_tri _ _ h1 h2))
theorem sorted_one : ∀ {xs ys : List Str}, xs.Nodup → sortedS xs = true → ys.Nodup → sortedS ys = true → (∀ x, x ∈ xs ↔ x ∈ ys) → xs = ys
  | [], [], _, _, _, _, _ => rfl
  | [], y :: _, _, _, _, _, h => absurd ((h y).mpr List.mem_cons_self) (by simp)
  | x :: _, [], _, _, _, _, h => absurd ((h x).mp List.mem_cons_self) (by simp)
  | x :: xs, y :: ys, n1, s1, n2, s2, h => by
    have s1 : risingS x xs = true := s1
    have s2 : risingS y ys = true := s2
    obtain ⟨m1, k1⟩ := List.nodup_cons.mp n1
    obtain ⟨m2, k2⟩ := List.nodup_cons.mp n2
    clear n1 n2
    have e : x = y := by
      by_cases e : x = y
      · exact e
      · have hx : x ∈ ys := (List.mem_cons.mp ((h x).mp List.mem_cons_self)).resolve_left e
        have hy : y ∈ xs := (List.mem_cons.mp ((h y).mpr List.mem_cons_self)).resolve_left (fun z => e z.symm)
        exact str_tri (rise_all s2 x hx) (rise_all s1 y hy)
    subst e
    have t1 : sortedS xs = true := rise_tail (p := x) s1
    have t2 : sortedS ys = true := rise_tail (p := x) s2
    have := sorted_one (xs := xs) (ys := ys) k1 t1 k2 t2 fun z => ⟨fun hz => (List.mem_cons.mp ((h z).mp (List.mem_cons_of_mem _ hz))).resolve_left (fun e => by subst e; exact m1 hz), fun hz => (List.mem_cons.mp ((h z).mpr (List.mem_cons_of_mem _ hz))).resolve_left (fun e => by subst e; exact m2 hz)⟩
    rw [this]
theorem tits_one {s : Sp} {xs ys : List Str} (h1 : tits s xs) (h2 : tits s ys) : xs = ys := sorted_one h1.1 h1.2.1 h2.1 h2.2.1 fun x => (h1.2.2 x).trans (h2.2.2 x).symm
end K20

namespace K20
open PySem PySem.Spec PyProof.Rows L2 Cw
theorem mem_joinL {S : List Nat} {x : Nat} : ∀ {ps : List (List Nat)}, x ∈ TL.joinL S ps → x ∈ S ∨ ∃ p ∈ ps, x ∈ p
  | [], h => by cases h
  | [p], h => .inr ⟨p, List.mem_cons_self, h⟩
  | p :: q :: r, h => by
    have h : x ∈ p ++ (S ++ TL.joinL S (q :: r)) := h
    rcases List.mem_append.mp h with h | h
    · exact .inr ⟨p, List.mem_cons_self, h⟩
    · rcases List.mem_append.mp h with h | h
      · exact .inl h
      · exact (mem_joinL h).imp id fun ⟨z, hz, hx⟩ => ⟨z, List.mem_cons_of_mem _ hz, hx⟩
theorem strOk_of {x : Str} (h : ∀ k ∈ TL.tl x, k < 0x110000) : PyData.strOk x = true := by
  unfold PyData.strOk
  rw [← Array.all_toList, List.all_eq_true]
  intro k hk
  exact decide_eq_true (h k hk)
theorem strOk_to {x : Str} (h : PyData.strOk x = true) : ∀ k ∈ TL.tl x, k < 0x110000 := by
  unfold PyData.strOk at h
  rw [← Array.all_toList, List.all_eq_true] at h
  exact fun k hk => of_decide_eq_true (h k hk)
theorem strOk_join {y : Str} {xs : List Str} (hy : PyData.strOk y = true) (hx : ∀ x ∈ xs, PyData.strOk x = true) : PyData.strOk (Txt.join y xs) = true := strOk_of fun k hk => by
  rw [TL.join_eq, TL.tl_join] at hk
  rcases mem_joinL hk with hk | ⟨p, hp, hk⟩
  · exact strOk_to hy k hk
  · obtain ⟨t, ht, rfl⟩ := List.mem_map.mp hp
    exact strOk_to (hx t ht) k hk
theorem text_ok {s : Sp} (h : s.ok) : PyData.strOk s.text = true := by
  have hn : s.m.length ≤ 5 := tame_len (let_tame (n := 5) h.m)
  refine strOk_join (by decide +kernel) fun p hp => ?_
  rcases List.mem_cons.mp hp with rfl | hp
  · refine strOk_join (by decide +kernel) fun w hw => ?_
    rcases List.mem_cons.mp hw with rfl | hw
    · decide +kernel
    · rw [List.mem_singleton.mp hw]
      exact tame_ok (let_tame (n := 5) h.m)
  · rcases List.mem_append.mp hp with hp | hp
    · obtain ⟨q, hq, rfl⟩ := List.mem_map.mp hp
      exact strOk_join (by decide +kernel) fun w hw => tame_ok (Part.tames (h.ps q hq) hn w hw)
    · obtain ⟨q, hq, rfl⟩ := List.mem_map.mp hp
      exact strOk_join (by decide +kernel) fun w hw => tame_ok (Joint.tames (h.js q hq) hn w hw)
/-- what is needed of a part of a value that is shown -/
structure Fine (p : PyData) (n : Nat) : Prop where
  lay : p.canLay0 = true
  show_ : p.showable = true
  sml : p.intsShort 45 = true
  dep : p.depth ≤ 4
  wt : p.weight ≤ n
theorem Fine.up {p : PyData} {n n' : Nat} (h : Fine p n) (hn : n ≤ n') : Fine p n' := ⟨h.lay, h.show_, h.sml, h.dep, Nat.le_trans h.wt hn⟩
theorem fine_str {x : Str} {n : Nat} (h : PyData.strOk x = true) (hl : x.length ≤ n) : Fine (.str x) n := ⟨h, rfl, rfl, Nat.zero_le _, hl⟩
theorem fine_bool (b : Bool) : Fine (.bool b) 0 := ⟨rfl, rfl, rfl, Nat.zero_le _, Nat.le_refl _⟩
theorem fine_int {n : Nat} (h : n < 10) : Fine (.int n) 4 := ⟨rfl, all_small h (P := fun n => PyData.showable (.int n) = true) (by decide +kernel), all_small h (P := fun n => PyData.intsShort 45 (.int n) = true) (by decide +kernel), Nat.zero_le _, all_small h (P := fun n => PyData.weight (.int n) ≤ 4) (by decide +kernel)⟩
structure Fines (ps : List PyData) (n d : Nat) : Prop where
  lay : PyData.canLayAll0 ps = true
  show_ : PyData.showableAll ps = true
  sml : PyData.intsShortAll 45 ps = true
  dep : PyData.depthAll ps ≤ d
  wt : PyData.weightAll ps ≤ n
theorem fines_nil {n d : Nat} : Fines [] n d := ⟨rfl, rfl, rfl, Nat.zero_le _, Nat.zero_le _⟩
theorem fines_cons {p : PyData} {ps : List PyData} {a n m d : Nat} (h : Fine p a) (hd : p.depth ≤ d) (t : Fines ps m d) (e : a + 1 + m ≤ n) : Fines (p :: ps) n d := by
  refine ⟨?_, ?_, ?_, ?_, ?_⟩
  · show (p.canLay0 && PyData.canLayAll0 ps) = true
    rw [h.lay, t.lay]; rfl
  · show (p.showable && PyData.showableAll ps) = true
    rw [h.show_, t.show_]; rfl
  · show (p.intsShort 45 && PyData.intsShortAll 45 ps) = true
    rw [h.sml, t.sml]; rfl
  · show max p.depth (PyData.depthAll ps) ≤ d
    have := t.dep
    omega
  · show p.weight + 1 + PyData.weightAll ps ≤ n
    have := h.wt
    have := t.wt
    omega
theorem fine_tup {ps : List PyData} {n d : Nat} (h : Fines ps n d) (hd : d ≤ 3) : Fine (.tuple ps) n := ⟨h.lay, h.show_, h.sml, by show PyData.depthAll ps + 1 ≤ 4; have := h.dep; omega, h.wt⟩
theorem fine_lst {ps : List PyData} {n d : Nat} (h : Fines ps n d) (hd : d ≤ 3) : Fine (.list ps) n := ⟨h.lay, h.show_, h.sml, by show PyData.depthAll ps + 1 ≤ 4; have := h.dep; omega, h.wt⟩
theorem fines_of {α : Type} {py : α → PyData} {a d : Nat} : ∀ {xs : List α}, (∀ x ∈ xs, Fine (py x) a ∧ (py x).depth ≤ d) → Fines (xs.map py) ((a + 1) * xs.length) d
  | [], _ => fines_nil
  | x :: xs, h => by
    have h1 := h x List.mem_cons_self
    have h2 := fines_of fun y hy => h y (List.mem_cons_of_mem x hy)
    refine fines_cons h1.1 h1.2 h2 ?_
    rw [List.length_cons, Nat.mul_add]; omega
theorem Fine.showy {p : PyData} {n : Nat} (h : Fine p n) (hn : n ≤ 300000) : Showy p := by
  have hw := h.wt
  have hd := h.dep
  refine ⟨h.show_, PyData.hasDict_of_canLay _ h.lay, by omega, ?_⟩
  have h2 := PyData.shown_le 45 (by decide) p (PyData.leavesShort_of_canLay0 45 p h.lay h.sml)
  have h3 : (45 + 2) * p.weight ≤ 47 * 300000 := Nat.mul_le_mul (by decide) (by omega)
  have e : sizeLine = 16777216 := by decide
  rw [e]
  omega
theorem fine_big {i : Int} (h : i.natAbs < 10 ^ 44) : Fine (.int i) 200 := by
  have hl : i.natAbs.log2 < 148 := by
    by_cases h0 : i.natAbs = 0
    · rw [h0]; decide
    · refine (Nat.log2_lt h0).mpr (Nat.lt_of_lt_of_le h (by decide))
  refine ⟨rfl, decide_eq_true (by omega), ?_, Nat.zero_le _, ?_⟩
  · refine decide_eq_true ?_
    have e := int_text_length_le10 (k := 44) (by decide) h
    show (Str.ofString (toString i)).length ≤ 45
    exact Nat.le_trans (Nat.le_of_eq (PySem.ofString_length _)) e
  · show (if i == 0 then 0 else i.natAbs.log2 + 1) ≤ 200
    split <;> omega
theorem st_len {i : Nat} (d : Bool) (h : i < 5) : (stS i d).length ≤ 2 := tame_len (st_tame d h)
theorem Part.fine {n : Nat} {p : Part} (h : p.ok n) (hn : n ≤ 5) : Fine p.py 60 ∧ p.py.depth ≤ 1 := by
  have hi : p.i < 5 := by have := h.2.1.1; omega
  have hj : p.j < 5 := by have := h.2.1.2; omega
  refine ⟨fine_tup (d := 0) (fines_cons (m := 40) (fine_str (n := 8) (tame_ok (let_tame (n := 8) h.1)) (tame_len (let_tame (n := 8) h.1))) (Nat.le_refl _) (fines_cons (m := 30) (fine_str (n := 2) (tame_ok (st_tame _ hi)) (st_len _ hi)) (Nat.le_refl _)
    (fines_cons (m := 20) (fine_str (n := 2) (tame_ok (st_tame _ hj)) (st_len _ hj)) (Nat.le_refl _) (fines_cons (m := 10) (fine_int (by have := h.2.2.1.2; omega)) (Nat.le_refl _) (fines_cons (m := 0) (fine_int (by have := h.2.2.2; omega)) (Nat.le_refl _) fines_nil (by decide)) (by decide)) (by decide)) (by decide)) (by decide)) (by decide), Nat.le_refl _⟩
theorem Joint.fine {n : Nat} {p : Joint} (h : p.ok n) (hn : n ≤ 5) : Fine p.py 60 ∧ p.py.depth ≤ 1 := by
  have hi : p.i < 5 := by have := h.2.1.1; omega
  have hj : p.j < 5 := by have := h.2.1.2; omega
  refine ⟨fine_tup (d := 0) (fines_cons (m := 40) (fine_str (n := 8) (tame_ok (let_tame (n := 8) h.1)) (tame_len (let_tame (n := 8) h.1))) (Nat.le_refl _) (fines_cons (m := 30) (fine_str (n := 3) (tame_ok (bend_tame _)) (tame_len (bend_tame _))) (Nat.le_refl _)
    (fines_cons (m := 20) (fine_str (n := 2) (tame_ok (st_tame _ hi)) (st_len _ hi)) (Nat.le_refl _) (fines_cons (m := 10) (fine_str (n := 2) (tame_ok (st_tame _ hj)) (st_len _ hj)) (Nat.le_refl _) (fines_cons (m := 0) (fine_int (by have := h.2.2; omega)) (Nat.le_refl _) fines_nil (by decide)) (by decide)) (by decide)) (by decide)) (by decide)) (by decide), Nat.le_refl _⟩
def duePy (s : Sp) (zs : List Str) : PyData := .list [.str s.text, .str s.m, .tuple ((stL s.m.length).map .str), .tuple (s.ps.map Part.py), .tuple (s.js.map Joint.py), .tuple (zs.map .str), .str s.text]
theorem py_due (s : Sp) (zs : List Str) : D.py (dueD s zs) = some (duePy s zs) := by
  show (D.pys [.str s.text, .str s.m, stD s.m.length, .tup (s.ps.map Part.d'), .tup (s.js.map Joint.d'), .tup (zs.map .str), .str s.text]).map PyData.list = _
  have e1 : D.py (stD s.m.length) = some (.tuple ((stL s.m.length).map .str)) := by
    show (D.pys ((stL s.m.length).map D.str)).map PyData.tuple = _
    rw [pys_of (py := PyData.str) fun _ => rfl]; rfl
  have e2 : D.py (.tup (s.ps.map Part.d')) = some (.tuple (s.ps.map Part.py)) := by
    show (D.pys (s.ps.map Part.d')).map PyData.tuple = _
    rw [pys_of (py := Part.py) fun _ => rfl]; rfl
  have e3 : D.py (.tup (s.js.map Joint.d')) = some (.tuple (s.js.map Joint.py)) := by
    show (D.pys (s.js.map Joint.d')).map PyData.tuple = _
    rw [pys_of (py := Joint.py) fun _ => rfl]; rfl
  have e4 : D.py (.tup (zs.map .str)) = some (.tuple (zs.map .str)) := by
    show (D.pys (zs.map D.str)).map PyData.tuple = _
    rw [pys_of (py := PyData.str) fun _ => rfl]; rfl
  simp only [D.pys, e1, e2, e3, e4]
  rfl
theorem due_fine {s : Sp} (h : s.ok) {zs : List Str} (hz : tits s zs) : Fine (duePy s zs) 20000 := by
  have hn : s.m.length ≤ 5 := tame_len (let_tame (n := 5) h.m)
  have ht : Fine (.str s.text) 2200 := fine_str (text_ok h) (Sp.len h)
  have f1 : Fines ((stL s.m.length).map PyData.str) (3 * (stL s.m.length).length) 0 := fines_of (a := 2) fun x hx => by
    obtain ⟨i, hi, hx⟩ := List.mem_flatMap.mp hx
    have hi := List.mem_range.mp hi
    simp only [List.mem_cons, List.not_mem_nil, or_false] at hx
    rcases hx with rfl | rfl <;> exact ⟨fine_str (tame_ok (st_tame _ (by omega))) (st_len _ (by omega)), Nat.le_refl _⟩
  have l1 : (stL s.m.length).length ≤ 10 := by
    unfold stL
    have : ∀ l : List Nat, (l.flatMap fun i => [stS i false, stS i true]).length = 2 * l.length := fun l => by
      induction l with
      | nil => rfl
      | cons a l ih => rw [List.flatMap_cons, List.length_append, ih]; show 2 + _ = 2 * (l.length + 1); omega
    rw [this, List.length_range]; omega
  have f2 := fines_of (py := Part.py) (a := 60) (d := 1) (xs := s.ps) fun p hp => Part.fine (h.ps p hp) hn
  have f3 := fines_of (py := Joint.py) (a := 60) (d := 1) (xs := s.js) fun p hp => Joint.fine (h.js p hp) hn
  have f4 : Fines (zs.map PyData.str) (9 * zs.length) 0 := fines_of (a := 8) fun x hx => by
    obtain ⟨p, hp, rfl⟩ := List.mem_map.mp ((hz.2.2 x).mp hx)
    have hl := (h.js p hp).1
    exact ⟨fine_str (tame_ok (let_tame (n := 8) hl)) (tame_len (let_tame (n := 8) hl)), Nat.le_refl _⟩
  have l4 : zs.length ≤ 12 := by
    have := nodup_sub hz.1 (ks := s.js.map (·.t)) fun x hx => (hz.2.2 x).mp hx
    rw [List.length_map] at this
    have := h.nj
    omega
  have np := h.np
  have nj := h.nj
  refine fine_lst (d := 2) ?_ (by decide)
  refine fines_cons (m := 17000) ht (Nat.zero_le _) ?_ (by decide)
  refine fines_cons (m := 16000) (fine_str (n := 5) (tame_ok (let_tame (n := 5) h.m)) hn) (Nat.zero_le _) ?_ (by decide)
  refine fines_cons (m := 15000) ((fine_tup f1 (by decide)).up (n' := 30) (by omega)) (by show PyData.depthAll _ + 1 ≤ 2; have := f1.dep; omega) ?_ (by decide)
  refine fines_cons (m := 10000) ((fine_tup f2 (by decide)).up (n' := 600) (by omega)) (by show PyData.depthAll _ + 1 ≤ 2; have := f2.dep; omega) ?_ (by decide)
  refine fines_cons (m := 5000) ((fine_tup f3 (by decide)).up (n' := 800) (by omega)) (by show PyData.depthAll _ + 1 ≤ 2; have := f3.dep; omega) ?_ (by decide)
  refine fines_cons (m := 3000) ((fine_tup f4 (by decide)).up (n' := 108) (by omega)) (by show PyData.depthAll _ + 1 ≤ 2; have := f4.dep; omega) ?_ (by decide)
  exact fines_cons (m := 0) ht (Nat.zero_le _) fines_nil (by decide)
theorem due_showy {s : Sp} (h : s.ok) {zs : List Str} (hz : tits s zs) : Showy (duePy s zs) := (due_fine h hz).showy (by decide)
theorem b6 (a b c d e f : Bool) : Showy (.list [.bool a, .bool b, .bool c, .bool d, .bool e, .bool f]) :=
  (fine_lst (n := 20) (d := 0) (fines_cons (m := 5) (fine_bool a) (Nat.le_refl _) (fines_cons (m := 4) (fine_bool b) (Nat.le_refl _) (fines_cons (m := 3) (fine_bool c) (Nat.le_refl _) (fines_cons (m := 2) (fine_bool d) (Nat.le_refl _) (fines_cons (m := 1) (fine_bool e) (Nat.le_refl _) (fines_cons (m := 0) (fine_bool f) (Nat.le_refl _) fines_nil (by decide)) (by decide)) (by decide)) (by decide)) (by decide)) (by decide)) (by decide)).showy (by decide)
end K20

namespace K20
open PySem PySem.Spec PyProof.Rows L2 Cw
def isIn (a b : Int) : D → Bool
  | .int v => decide (a ≤ v) && decide (v ≤ b)
  | _ => false
def amongB (ys : List Str) : D → Bool
  | .str x => decide (x ∈ ys)
  | _ => false
def stepD : D → Prop
  | .str _ => True
  | .int _ => True
  | _ => False
def isInt : D → Bool
  | .int _ => true
  | _ => false
def S_is_any_integer : Pm := fun c ds Φ => ∃ d, ds = [d] ∧ stepD d ∧ Φ (.bl (isInt d)) c
def S_is_integer : Pm := fun c ds Φ => ∃ d a b, ds = [d, .int a, .int b] ∧ stepD d ∧ Φ (.bl (isIn a b d)) c
def S_is_among : Pm := fun c ds Φ => ∃ ys : List Str, ∃ d sq, ds = [d, sq] ∧ stepD d ∧ (sq = .tup (ys.map .str) ∨ sq = .lst (ys.map .str)) ∧ Φ (.bl (amongB ys d)) c
def S_check_borders (C : Addr) : Pm := fun c ds Φ => ∃ s zs, ds = [bD C s zs] ∧ Φ .non c
def S_check_state (C : Addr) : Pm := fun c ds Φ => ∃ s zs i d, ds = [bD C s zs, .str (stS i d)] ∧ i < s.m.length ∧ Φ .non c
def S_check_number : Pm := fun c ds Φ => ∃ v m, ds = [.int v, .int m] ∧ 0 ≤ v ∧ v ≤ m ∧ Φ .non c
/-- the k-th sign that plain steps show from a state -/
def sg (M : List Nat) (i : Nat) (d : Bool) (k : Nat) : Nat := M.getD ((if d then i + k else i + (k + 1) * (M.length - 1)) % M.length) 0
def sgS (m : Str) (i : Nat) (d : Bool) (n : Nat) : Str := ⟨((List.range n).map (sg m.cps.toList i d)).toArray⟩
def S_signs_behind (C : Addr) : Pm := fun c ds Φ => ∃ s zs i d n, ds = [bD C s zs, .str (stS i d), .int n] ∧ s.ok ∧ i < s.m.length ∧ 0 ≤ n ∧ n ≤ 1000 ∧ Φ (.str (sgS s.m i d n.toNat)) c
def S_shown (C : Addr) : Pm := fun c ds Φ => ∃ s zs i d n, ds = [bD C s zs, .str (stS i d), .int n] ∧ s.ok ∧ i < s.m.length ∧ 0 ≤ n ∧ n ≤ 1000 ∧ Φ (.str (sgS s.m i d n.toNat)) c
def aft (p i : Nat) (d : Bool) : Nat := (i + (if d then 1 else p - 1)) % p
def S__law_after : Pm := fun c ds Φ => ∃ s : Sp, ∃ i d, ds = [Sp.d s, .str (stS i d)] ∧ s.ok ∧ i < s.m.length ∧ Φ (.str (stS (aft s.m.length i d) d)) c
def S__law_signs : Pm := fun c ds Φ => ∃ s : Sp, ∃ i d n, ds = [Sp.d s, .str (stS i d), .int n] ∧ s.ok ∧ i < s.m.length ∧ 0 ≤ n ∧ n ≤ 1000 ∧ Φ (.str (sgS s.m i d n.toNat)) c
theorem st_at0 {i : Nat} (d : Bool) (h : i < 10) : L2.atI (stS i d).cps.toList 0 = some (48 + i) := by
  cases d
  · exact all_small h (P := fun i : Nat => L2.atI (stS i false).cps.toList 0 = some (48 + i)) (by decide +kernel)
  · exact all_small h (P := fun i : Nat => L2.atI (stS i true).cps.toList 0 = some (48 + i)) (by decide +kernel)
theorem st_at1 {i : Nat} (d : Bool) (h : i < 10) : L2.atI (stS i d).cps.toList 1 = some (if d then 62 else 60) := by
  cases d
  · exact all_small h (P := fun i : Nat => L2.atI (stS i false).cps.toList 1 = some 60) (by decide +kernel)
  · exact all_small h (P := fun i : Nat => L2.atI (stS i true).cps.toList 1 = some 62) (by decide +kernel)
theorem st_short {i : Nat} (d : Bool) (h : i < 10) : (stS i d).length ≤ 2 := by
  cases d
  · exact all_small h (P := fun i : Nat => (stS i false).length ≤ 2) (by decide +kernel)
  · exact all_small h (P := fun i : Nat => (stS i true).length ≤ 2) (by decide +kernel)
theorem flat_at (R : List Nat) : ∀ (q k : Nat), k < q * R.length → (List.replicate q R).flatten[k]? = some (R.getD (k % R.length) 0)
  | 0, k, h => by omega
  | q + 1, k, h => by
    rw [List.replicate_succ, List.flatten_cons]
    by_cases hk : k < R.length
    · rw [List.getElem?_append_left hk, Nat.mod_eq_of_lt hk, List.getD_eq_getElem?_getD, List.getElem?_eq_getElem hk]; rfl
    · have hk : R.length ≤ k := by omega
      have hp : 0 < R.length := by
        rcases Nat.eq_zero_or_pos R.length with z | z
        · rw [z] at h; omega
        · exact z
      rw [List.getElem?_append_right hk, flat_at R q (k - R.length) (by rw [Nat.add_mul] at h; omega), Nat.mod_eq_sub_mod hk]
theorem flat_take (R : List Nat) (q n : Nat) (h : n ≤ q * R.length) : ((List.replicate q R).flatten).take n = (List.range n).map fun k => R.getD (k % R.length) 0 := by
  apply List.ext_getElem?
  intro k
  by_cases hk : k < n
  · rw [List.getElem?_take_of_lt hk, flat_at R q k (by omega), List.getElem?_map, List.getElem?_range hk]; rfl
  · rw [List.getElem?_eq_none (by rw [List.length_take]; omega), List.getElem?_eq_none (by simp; omega)]
theorem mul_cps {x : Str} {n : Nat} (h : 1 ≤ n) : (Txt.mul x n).cps.toList = (List.replicate n x.cps.toList).flatten := by
  have key : ∀ (k : Nat) (acc : Array Nat), ((List.replicate k x.cps).foldl (· ++ ·) acc).toList = acc.toList ++ (List.replicate k x.cps.toList).flatten := by
    intro k
    induction k with
    | zero => intro acc; simp
    | succ k ih =>
      intro acc
      rw [List.replicate_succ, List.foldl_cons, ih, List.replicate_succ, List.flatten_cons]
      simp
  unfold Txt.mul
  rw [if_neg (by omega)]
  split
  · rename_i c
    rcases Bool.or_eq_true_iff.mp c with c | c
    · have : n = 1 := by have := eq_of_beq c; omega
      subst this; simp
    · have c : x.length = 0 := by simpa using c
      have e : x.cps.toList = [] := by
        apply List.eq_nil_of_length_eq_zero
        rw [Array.length_toList]; exact c
      have z : ∀ n, (List.replicate n ([] : List Nat)).flatten = [] := by
        intro n
        induction n with
        | zero => rfl
        | succ n ih => rw [List.replicate_succ, List.flatten_cons, ih]; rfl
      rw [e, z]
  · show ((List.replicate ((n : Int)).toNat x.cps).foldl (· ++ ·) #[]).toList = _
    rw [Int.toNat_natCast, key]; simp
def rot (M : List Nat) (i : Nat) : List Nat := M.drop i ++ M.take i
theorem rot_len (M : List Nat) (i : Nat) : (rot M i).length = M.length := by unfold rot; simp; omega
theorem rot_at {M : List Nat} {i k : Nat} (hi : i < M.length) (hk : k < M.length) : (rot M i).getD k 0 = M.getD ((i + k) % M.length) 0 := by
  unfold rot
  rw [List.getD_eq_getElem?_getD, List.getD_eq_getElem?_getD]
  congr 1
  by_cases h : k < M.length - i
  · rw [List.getElem?_append_left (by simpa using h), List.getElem?_drop, Nat.mod_eq_of_lt (by omega)]
  · rw [List.getElem?_append_right (by simp; omega), List.length_drop, List.getElem?_take_of_lt (by omega), Nat.mod_eq_sub_mod (by omega), Nat.mod_eq_of_lt (by omega)]
    congr 1; omega
theorem mod_back {p i k : Nat} (hp : p ≤ 5) (hi : i < p) : (i + (p - 1 - k % p)) % p = (i + (k + 1) * (p - 1)) % p := by
  have h : p = 1 ∨ p = 2 ∨ p = 3 ∨ p = 4 ∨ p = 5 := by omega
  rcases h with rfl | rfl | rfl | rfl | rfl <;> omega
theorem mod_on {p i k : Nat} : (i + k % p) % p = (i + k) % p := by simp
theorem row_sg {M : List Nat} {i : Nat} (d : Bool) (hp : M.length ≤ 5) (hi : i < M.length) (k : Nat) : (if d then rot M i else (rot M i).reverse).getD (k % M.length) 0 = sg M i d k := by
  have hk : k % M.length < M.length := Nat.mod_lt _ (by omega)
  cases d with
  | true =>
    show (rot M i).getD _ 0 = M.getD ((i + k) % M.length) 0
    rw [rot_at hi hk, mod_on]
  | false =>
    show (rot M i).reverse.getD _ 0 = M.getD ((i + (k + 1) * (M.length - 1)) % M.length) 0
    have e : (rot M i).reverse.getD (k % M.length) 0 = (rot M i).getD (M.length - 1 - k % M.length) 0 := by
      rw [List.getD_eq_getElem?_getD, List.getD_eq_getElem?_getD, List.getElem?_reverse (by rw [rot_len]; exact hk), rot_len]
    rw [e, rot_at hi (by omega), mod_back hp hi]
theorem sgS_row {m : Str} {i n q : Nat} (d : Bool) (hp : m.length ≤ 5) (hi : i < m.length) (hq : n ≤ q * m.length) :
    sgS m i d n = ⟨((List.replicate q (if d then rot m.cps.toList i else (rot m.cps.toList i).reverse)).flatten.take n).toArray⟩ := by
  have hl : m.cps.toList.length = m.length := Array.length_toList
  have hr : (if d then rot m.cps.toList i else (rot m.cps.toList i).reverse).length = m.cps.toList.length := by
    cases d
    · show (rot _ _).reverse.length = _; rw [List.length_reverse, rot_len]
    · show (rot _ _).length = _; rw [rot_len]
  rw [flat_take _ q n (by rw [hr, hl]; exact hq)]
  unfold sgS
  congr 2
  refine List.map_congr_left fun k _ => ?_
  rw [hr]
  exact (row_sg d (by rw [hl]; exact hp) (by rw [hl]; exact hi) k).symm
theorem cut_lo (m : Str) (i : Nat) : (cutS m (some (i : Int)) none).cps.toList = m.cps.toList.drop i := by
  show ((m.cps.toList.drop (HT.sIx m.length 0 (some (i : Int)))).take (HT.sIx m.length m.length none - HT.sIx m.length 0 (some (i : Int)))) = _
  have hl : m.cps.toList.length = m.length := Array.length_toList
  rw [HT.sIx_nat, HT.sIx_none]
  by_cases h : i ≤ m.length
  · rw [Nat.min_eq_left h, List.take_of_length_le (by rw [List.length_drop]; omega)]
  · rw [Nat.min_eq_right (by omega), List.drop_of_length_le (show m.cps.toList.length ≤ i by omega)]; simp
theorem cut_hi (m : Str) (i : Nat) : (cutS m none (some (i : Int))).cps.toList = m.cps.toList.take i := by
  show ((m.cps.toList.drop (HT.sIx m.length 0 none)).take (HT.sIx m.length m.length (some (i : Int)) - HT.sIx m.length 0 none)) = _
  have hl : m.cps.toList.length = m.length := Array.length_toList
  rw [HT.sIx_nat, HT.sIx_none, List.drop_zero, Nat.sub_zero]
  by_cases h : i ≤ m.length
  · rw [Nat.min_eq_left h]
  · rw [Nat.min_eq_right (by omega), List.take_of_length_le (by omega), List.take_of_length_le (by omega)]
theorem str_list {x : Str} {l : List Nat} (h : x.cps.toList = l) : x = ⟨l.toArray⟩ := Str.ext' (Array.toList_inj.mp (by rw [h]))
theorem str_len (l : List Nat) : (⟨l.toArray⟩ : Str).length = l.length := by show l.toArray.size = _; simp
theorem cut_rot (m : Str) (i : Nat) : cutS m (some (i : Int)) none ++ cutS m none (some (i : Int)) = ⟨(rot m.cps.toList i).toArray⟩ := str_list (by
  show ((cutS m (some (i : Int)) none).cps ++ (cutS m none (some (i : Int))).cps).toList = _
  rw [Array.toList_append, cut_lo, cut_hi]; rfl)
theorem cut_len (m : Str) (lo hi : Option Int) : (cutS m lo hi).length ≤ m.length := cutS_length m lo hi
def ph (p i : Nat) (d : Bool) (j : Nat) : Nat := (i + j * (if d then 1 else p - 1)) % p
theorem ph_aft (p i : Nat) (d : Bool) (j : Nat) : aft p (ph p i d j) d = ph p i d (j + 1) := by
  unfold aft ph
  rw [Nat.mod_add_mod, Nat.add_mul, Nat.one_mul, Nat.add_assoc]
theorem at_get {M : List Nat} {k : Nat} (h : k < M.length) : L2.atI M (k : Int) = some (M.getD k 0) := by
  unfold L2.atI L2.ixN
  have h1 : (0 : Int) ≤ (k : Int) := by omega
  rw [if_pos h1, if_pos (by omega), List.getD_eq_getElem?_getD]
  show M[((k : Int)).toNat]? = _
  rw [Int.toNat_natCast, List.getElem?_eq_getElem h]; rfl
theorem ph_sg {M : List Nat} {i : Nat} (d : Bool) (j : Nat) : M.getD (if d then ph M.length i d j else ph M.length i d (j + 1)) 0 = sg M i d j := by
  cases d
  · rfl
  · show M.getD ((i + j * 1) % M.length) 0 = M.getD ((i + j) % M.length) 0
    rw [Nat.mul_one]
theorem ph_lt {p i j : Nat} (d : Bool) (h : 0 < p) : ph p i d j < p := Nat.mod_lt _ h
theorem ph_0 {p i : Nat} (d : Bool) (h : i < p) : ph p i d 0 = i := by unfold ph; rw [Nat.zero_mul, Nat.add_zero, Nat.mod_eq_of_lt h]
/-- what plain steps show from the state that is written so -/
def sgX (m x : Str) (n : Nat) : Str := match x.cps.toList with
  | [a, b] => sgS m (a - 48) (decide (b = 62)) n
  | _ => ""
theorem sgX_st {i : Nat} (m : Str) (d : Bool) (n : Nat) (h : i < 10) : sgX m (stS i d) n = sgS m i d n := by
  have e : (stS i d).cps.toList = [i + 48, if d then 62 else 60] := by
    cases d
    · exact all_small h (P := fun i : Nat => (stS i false).cps.toList = [i + 48, 60]) (by decide +kernel)
    · exact all_small h (P := fun i : Nat => (stS i true).cps.toList = [i + 48, 62]) (by decide +kernel)
  unfold sgX
  rw [e]
  show sgS m (i + 48 - 48) (decide ((if d then 62 else 60) = 62)) n = _
  rw [Nat.add_sub_cancel]
  cases d <;> rfl
def bgn (m t : Str) (x : Str) : Bool := decide (sgX m x t.length = t)
def bgnD (m t : Str) : D → Bool
  | .str x => bgn m t x
  | _ => false
theorem bgn_map (m t : Str) (xs : List Str) : (xs.map D.str).filter (bgnD m t) = (xs.filter (bgn m t)).map D.str := by
  rw [List.filter_map]; rfl
def thing (t : Str) : Prop := t.cps.toList.all lower = true ∧ t.length ≤ 1000
def S_beginnings (C : Addr) : Pm := fun c ds Φ => ∃ s zs t, ds = [bD C s zs, .str t] ∧ s.ok ∧ thing t ∧ Φ (.tup (((stL s.m.length).filter (bgn s.m t)).map .str)) c
theorem st_of {n : Nat} {x : Str} (h : x ∈ stL n) : ∃ i d, i < n ∧ x = stS i d := by
  obtain ⟨i, hi, hx⟩ := List.mem_flatMap.mp h
  simp only [List.mem_cons, List.not_mem_nil, or_false] at hx
  rcases hx with rfl | rfl
  · exact ⟨i, false, List.mem_range.mp hi, rfl⟩
  · exact ⟨i, true, List.mem_range.mp hi, rfl⟩
theorem stL_len (n : Nat) : (stL n).length = 2 * n := by
  unfold stL
  have : ∀ l : List Nat, (l.flatMap fun i => [stS i false, stS i true]).length = 2 * l.length := fun l => by
    induction l with
    | nil => rfl
    | cons a l ih => rw [List.flatMap_cons, List.length_append, ih]; show 2 + _ = 2 * (l.length + 1); omega
  rw [this, List.length_range]
theorem ix2 {c : List Cell} {x y : D} {u : Int} {Ψ : D → List Cell → Prop} (hu : u = 0 ∨ u = 1) (h : Ψ (if u = 0 then x else y) c) : fIx (vw c (.lst [x, y])) (vw c (.int u)) c Ψ := by
  rcases hu with rfl | rfl
  · exact h
  · exact h
theorem ret_any {Φ : D → List Cell → Prop} {d : D} {x : Cell} (hx : okC 1 x = true) (hd : okD 1 d = true) (hd2 : ∀ k, d ≠ .cell k) (hd3 : ∀ k e, d ≠ .dct k e) (h : Φ d [x]) : ∀ g : List Cell, retD 1 Φ d (x :: g)
  | [] => h
  | y :: g => by
    show okCs 1 [x] = true ∧ _
    refine ⟨by show (okC 1 x && true) = true; rw [hx]; rfl, ?_⟩
    cases d with
    | cell k => exact absurd rfl (hd2 k)
    | dct k e => exact absurd rfl (hd3 k e)
    | _ => exact ⟨hd, h⟩
theorem cell_last {x : Cell} {g : List Cell} {y : Cell} : (x :: (g ++ [y]))[g.length + 1]? = some y := by simp

section
variable {P : Program} {w : World} {K : PySem.W.Frag} {mg : Str → Option Value} {base : Heap}
set_option maxHeartbeats 8000000 in
theorem ok_check_borders (T : Tx K mg) : FnOk P w K mg base CX0 1 T.a_check_borders T.d_check_borders ["borders"] (spD K 0 1 (S_check_borders T.C_Borders)) := by
  refine fnD T.F_check_borders sc_check_borders fun cdv A outer s H E hr => ⟨_, (psd_one (psd_if (pdt_not (pdt_val (pd_isi T.i_Borders (.own _) (pd_v 0) (pe_glob rfl T.g_Borders rfl) T.n_isinstance))) (psd_one psd_never) psd_nil)), ?_⟩
  rintro c ds Φ hc - ⟨s, zs, rfl, hΦ⟩
  cases c with
  | cons _ _ => cases hc
  | nil =>
  conv => whnf
  refine ⟨.ins T.C_Borders, true, rfl, if_pos rfl, ?_⟩
  exact hΦ

end
end K20

namespace K20
open PySem PySem.Spec PyProof.Rows L2 Cw
def farN (p i : Nat) (d : Bool) (n : Int) : Nat := (((i : Int) + (if d then n else -n)) % (p : Int)).toNat
def big : Int := 10 ^ 31
/-- a step that is right -/
def stepOk (s : Sp) (d : D) : Prop := (∃ n : Int, d = .int n ∧ 1 ≤ n ∧ n ≤ 10 ^ 31) ∨ ∃ p ∈ s.ps, d = .str p.t
def walkF (s : Sp) : List D → Nat → Bool → Int → Int → Option (Nat × Bool × Int × Int)
  | [], i, d, l, k => some (i, d, l, k)
  | .int n :: r, i, d, l, k => walkF s r (farN s.m.length i d n) d (l + n) k
  | .str t :: r, i, d, l, k => match s.ps.find? fun p => decide (p.t = t) with
    | some p => if stS p.i p.d = stS i d then walkF s r p.j p.e (l + p.l) (k + p.c) else none
    | none => none
  | _ :: _, _, _, _, _ => none
def wresD : Option (Nat × Bool × Int × Int) → D
  | none => .non
  | some (i, d, l, k) => .tup [.str (stS i d), .int l, .int k]
def S_state_behind (C : Addr) : Pm := fun c ds Φ => ∃ s zs i d n, ds = [bD C s zs, .str (stS i d), .int n] ∧ s.ok ∧ i < s.m.length ∧ Φ (.str (stS (farN s.m.length i d n) d)) c
def S_check_filling (C : Addr) : Pm := fun c ds Φ => ∃ s zs steps, ds = [bD C s zs, .tup steps] ∧ s.ok ∧ steps.length ≤ 200 ∧ (∀ x ∈ steps, stepOk s x) ∧ Φ .non c
def S_walked (C : Addr) : Pm := fun c ds Φ => ∃ s zs i d steps, ds = [bD C s zs, .str (stS i d), .tup steps] ∧ s.ok ∧ i < s.m.length ∧ (∀ x ∈ steps, stepOk s x) ∧ Φ (wresD (walkF s steps i d 0 0)) c
def S_walk (C : Addr) : Pm := fun c ds Φ => ∃ s zs i d steps, ds = [bD C s zs, .str (stS i d), .tup steps] ∧ s.ok ∧ i < s.m.length ∧ steps.length ≤ 200 ∧ (∀ x ∈ steps, stepOk s x) ∧ Φ (wresD (walkF s steps i d 0 0)) c
def S__law_far : Pm := fun c ds Φ => ∃ s : Sp, ∃ i d n, ds = [Sp.d s, .str (stS i d), .int n] ∧ s.ok ∧ i < s.m.length ∧ Φ (.str (stS (farN s.m.length i d n) d)) c
def S__law_walked : Pm := fun c ds Φ => ∃ s : Sp, ∃ i d steps, ds = [Sp.d s, .str (stS i d), .tup steps] ∧ s.ok ∧ i < s.m.length ∧ steps.length ≤ 200 ∧ (∀ x ∈ steps, stepOk s x) ∧ Φ (wresD (walkF s steps i d 0 0)) c
def S__law_steps : Pm := fun c ds Φ => ∃ a b k lim, ∃ s : Sp, ∃ i d, ∃ n : Nat, c = [spr a b k] ∧ ds = [.cell 0, s.d, .str (stS i d), .int n] ∧ s.ok ∧ i < s.m.length ∧ n ≤ 200 ∧ B3 a b k lim ∧ lim ≤ 80000 ∧
  ∀ steps a' b' k', steps.length = n → (∀ x ∈ steps, stepOk s x) → B3 a' b' k' (lim + 10 * n) → Φ (.tup steps) [spr a' b' k']
theorem farN_lt {p i : Nat} {d : Bool} {n : Int} (h : 0 < p) : farN p i d n < p := by
  unfold farN
  have h1 := Int.emod_nonneg ((i : Int) + (if d then n else -n)) (show (p : Int) ≠ 0 by omega)
  have h2 := Int.emod_lt_of_pos ((i : Int) + (if d then n else -n)) (show (0 : Int) < p by omega)
  omega
theorem farN_int {p i : Nat} {d : Bool} {n : Int} (h : 0 < p) : ((farN p i d n : Nat) : Int) = ((i : Int) + (if d then n else -n)) % (p : Int) := by
  unfold farN
  have h1 := Int.emod_nonneg ((i : Int) + (if d then n else -n)) (show (p : Int) ≠ 0 by omega)
  omega
theorem far_on {p : Nat} {i : Nat} {n : Int} (h0 : 0 < p) (h5 : p ≤ 5) : ((i : Int) + n % (p : Int)) % (p : Int) = ((i : Int) + n) % (p : Int) := by
  have h : p = 1 ∨ p = 2 ∨ p = 3 ∨ p = 4 ∨ p = 5 := by omega
  rcases h with rfl | rfl | rfl | rfl | rfl <;> omega
theorem far_back {p : Nat} {i : Nat} {n : Int} (h0 : 0 < p) (h5 : p ≤ 5) : ((i : Int) + (p : Int) - n % (p : Int)) % (p : Int) = ((i : Int) + -n) % (p : Int) := by
  have h : p = 1 ∨ p = 2 ∨ p = 3 ∨ p = 4 ∨ p = 5 := by omega
  rcases h with rfl | rfl | rfl | rfl | rfl <;> omega
theorem fmt_str {x : Str} (h : x.length ≤ 1000) : fmtS (.str x) = some x := by
  show (if x.length ≤ sizeLine then some x else none) = some x
  exact if_pos (short (by omega))
theorem stepOk_D {s : Sp} {x : D} (h : stepOk s x) : stepD x := by
  rcases h with ⟨n, rfl, _, _⟩ | ⟨p, _, rfl⟩ <;> trivial
theorem ne_t {p : Prop} [Decidable p] (h : (if true = true then !decide p else decide p) = true) : ¬ p := by simpa using h
theorem ne_f {p : Prop} [Decidable p] (h : (if true = true then !decide p else decide p) = false) : p := by simpa using h
def pkey (p : Part) : Key := .inr p.t
def pval (p : Part) : D := .tup [.str (stS p.i p.d), .str (stS p.j p.e), .int p.l, .int p.c]
theorem look_part (t : Str) : ∀ ps : List Part, lookD (ps.map pkey) (ps.map pval) (.inr t) = (ps.find? fun p => decide (p.t = t)).map pval
  | [] => rfl
  | p :: ps => by
    show (if pkey p = .inr t then some (pval p) else lookD (ps.map pkey) (ps.map pval) (.inr t)) = _
    by_cases h : p.t = t
    · rw [if_pos (by unfold pkey; rw [h]), List.find?_cons_of_pos (by simpa using h)]; rfl
    · rw [if_neg (show ¬ pkey p = .inr t from fun z => h (Sum.inr.inj z)), List.find?_cons_of_neg (by simpa using h), look_part t ps]
theorem part_keys {s : Sp} (hs : s.ok) : ([] ++ s.ps.map pkey : List Key).Nodup := by
  have h := hs.dp
  rw [List.nil_append]
  exact List.pairwise_map.mpr ((List.pairwise_map.mp h).imp fun hne e => hne (Sum.inr.inj e))
theorem find_part {s : Sp} {t : Str} (h : ∃ p ∈ s.ps, t = p.t) : ∃ q ∈ s.ps, (s.ps.find? fun p => decide (p.t = t)) = some q := by
  obtain ⟨p, hp, e⟩ := h
  cases hf : s.ps.find? fun p => decide (p.t = t) with
  | none =>
    have := List.find?_eq_none.mp hf p hp
    exact absurd e.symm (by simpa using this)
  | some q => exact ⟨q, List.mem_of_find?_eq_some hf, rfl⟩
def partIs (t : Str) : D → Bool
  | .tup (.str x :: _) => decide (x = t)
  | _ => false
def partFrom (x : Str) : D → Bool
  | .tup (_ :: .str y :: _) => decide (y = x)
  | _ => false
theorem py_parts (L : List Part) : D.py (.lst (L.map Part.d')) = some (.list (L.map Part.py)) := by
  show (D.pys (L.map Part.d')).map PyData.list = _
  rw [pys_of (py := Part.py) fun _ => rfl]; rfl
theorem at_part {L : List Part} {v : Int} (h0 : 0 ≤ v) (h1 : v < L.length) : ∃ p ∈ L, L2.atI (L.map Part.d') v = some p.d' := by
  obtain ⟨n, rfl⟩ : ∃ n : Nat, v = n := ⟨v.toNat, by omega⟩
  have hn : n < L.length := by omega
  refine ⟨L[n], List.getElem_mem hn, ?_⟩
  unfold L2.atI L2.ixN
  rw [if_pos (by omega), if_pos (by rw [List.length_map]; omega)]
  show (L.map Part.d')[((n : Int)).toNat]? = _
  rw [Int.toNat_natCast, List.getElem?_map, List.getElem?_eq_getElem hn]; rfl
section
variable {P : Program} {w : World} {K : PySem.W.Frag} {mg : Str → Option Value} {base : Heap}
set_option maxHeartbeats 8000000 in
theorem ok_state_behind (T : Tx K mg) : FnOk P w K mg base CX0 3 T.a_state_behind T.d_state_behind ["borders", "state", "many"] (spD K 0 3 (S_state_behind T.C_Borders)) := by
  refine fnD T.F_state_behind sc_state_behind fun cdv A outer s H E hr => ⟨_, (psd_cons (psd_set (i := 3) sc_state_behind.nd (pd_if (pdt_eq hr (pd_ix (pd_v 1) pd_int) pd_str) (pd_v 2) (pd_neg (pd_v 2)))) (psd_cons (psd_set (i := 4) sc_state_behind.nd (pd_mod (pd_add (pd_intc (pd_ix (pd_v 1) pd_int) T.n_int) (pd_v 3)) (pd_len (pd_prop T.cl_Borders T.P_Borders_signs (ok_Borders_signs T) (hr.mono (by decide)) T.b_Borders_signs pass0 (pd_v 0)) T.n_len))) (psd_one (psd_ret (pd_fs2 (pd_v 4) (pd_ix (pd_v 1) pd_int)))))), ?_⟩
  rintro c ds Φ hc - ⟨s, zs, i, d, n, rfl, hs, hi, hΦ⟩
  cases c with
  | cons _ _ => cases hc
  | nil =>
  have hp : s.m.length ≤ 5 := tame_len (let_tame (n := 5) hs.m)
  have sh := st_short d (show i < 10 by omega)
  have ei : ((48 + i : Nat) : Int) - 48 = i := by omega
  have fl := farN_lt (p := s.m.length) (i := i) (d := d) (n := n) (by omega)
  conv => whnf
  refine ⟨short (by omega), ?_⟩
  rw [st_at1 d (by omega)]
  have tail : ∀ x : Int, x = (if d then n else -n) → dSeq
          (dSet 4
            (dBin fMod (dBin fAdd (dCB (un1 fInt) (dCons (dBin fIx (dVar 1) (dC (D.int 0))) dNil)) (dVar 3))
              (dCB (un1 fLen) (dCons (dProp T.C_Borders (S_Borders_signs T.C_Borders) (dVar 0)) dNil))))
          (dRet (dFs2 (dVar 4) (dBin fIx (dVar 1) (dC (D.int 1)))))
      ⟨fun x c' => retD 0 Φ D.non c', retD 0 Φ, fun _ _ => False, fun _ _ => False⟩ [some (bD T.C_Borders s zs), some (.str (stS i d)), some (.int n), some (.int x), none] [] := fun x hx => by
    conv => whnf
    refine ⟨short (by omega), ?_⟩
    rw [st_at0 d (by omega)]
    conv => whnf
    refine ⟨by show 1 ≤ 640; decide, _, dig_val (by omega), ?_⟩
    rw [ei]
    conv => whnf
    refine ⟨⟨_, _, rfl⟩, b_ok T.C_Borders s zs, _, _, _, _, _, _, rfl, rfl, ?_⟩
    conv => whnf
    refine ⟨short (by omega), ?_⟩
    conv => whnf
    refine ⟨by omega, ?_⟩
    rw [hx, ← farN_int (by omega)]
    conv => whnf
    have ha : farN s.m.length i d n < 5 := by omega
    have tl : (toString ((farN s.m.length i d n : Nat) : Int) : Str).length ≤ 1 := tame_len (dig_tame (by omega))
    refine ⟨_, by show (if _ then _ else _) = _; exact if_pos (dig_small (by omega)), short (by omega), ?_⟩
    conv => whnf
    refine ⟨short (by omega), ?_⟩
    rw [st_at1 d (by omega)]
    conv => whnf
    have l1 : (⟨#[if d = true then 62 else 60]⟩ : Str).length = 1 := rfl
    refine ⟨⟨#[if d = true then 62 else 60]⟩, fmt_str (by rw [l1]; decide), short (by rw [l1]; omega), ?_⟩
    have es : (toString ((farN s.m.length i d n : Nat) : Int) : Str) ++ (⟨#[if d then 62 else 60]⟩ : Str) = stS (farN s.m.length i d n) d := by
      unfold stS; cases d <;> rfl
    rw [← es] at hΦ
    exact hΦ
  cases d with
  | true =>
    conv => whnf
    exact tail _ rfl
  | false =>
    conv => whnf
    exact tail _ rfl

end
end K20

namespace K20
open PySem PySem.Spec PyProof.Rows L2 Cw
def ordS (p : Nat) : List (Nat × Bool) := (List.range p).flatMap fun i => [(i, false), (i, true)]
def nxS (p : Nat) (x : Nat × Bool) : Nat × Bool := (farN p x.1 x.2 1, x.2)
def bkS (p : Nat) (y : Nat × Bool) : Nat × Bool := (farN p y.1 (!y.2) 1, y.2)
def ordL (p : Nat) : List (Nat × Bool) := (ordS p).map (nxS p)
def sS (x : Nat × Bool) : Str := stS x.1 x.2
def kyS (x : Nat × Bool) : Key := .inr (sS x)
structure Stp where
  d : D
  x : Nat × Bool
  l : Nat
  c : Nat
def Stp.D' (t : Stp) : D := .tup [t.d, .str (sS t.x), .int t.l, .int t.c]
def pieF (s : Sp) (y : Nat × Bool) : List Stp := (s.ps.filter fun q => decide ((q.j, q.e) = y)).map fun q => ⟨.str q.t, (q.i, q.d), q.l, q.c⟩
def stepsF (s : Sp) (y : Nat × Bool) : List Stp := ⟨.int 1, bkS s.m.length y, 1, 0⟩ :: pieF s y
def stepsD (s : Sp) : D := .dct ((ordL s.m.length).map kyS) ((ordL s.m.length).map fun y => .lst ((stepsF s y).map Stp.D'))
abbrev Row := Nat × Bool → Int
abbrev NO : Int := 1000000
def rowD (o : List (Nat × Bool)) (r : Row) : D := .dct (o.map kyS) ((o.map r).map .int)
def row0 (b : Nat × Bool) : Row := fun x => if x = b then 0 else NO
def getR (rows : List Row) (k : Nat) : Row := rows.getD k fun _ => NO
def nextF (s : Sp) (rows : List Row) : Row := fun y => (((stepsF s y).filter fun t => decide (t.l ≤ rows.length)).map fun t => getR rows (rows.length - t.l) t.x + (t.c : Int)).foldr min NO
def rowsF (s : Sp) (b : Nat × Bool) : Nat → List Row
  | 0 => [row0 b]
  | n + 1 => rowsF s b n ++ [nextF s (rowsF s b n)]
def rowF (s : Sp) (b : Nat × Bool) (k : Nat) : Row := getR (rowsF s b k) k
def ordK (p k : Nat) : List (Nat × Bool) := if k = 0 then ordS p else ordL p
def rowsD (s : Sp) (b : Nat × Bool) (n : Nat) : List D := (List.range (n + 1)).map fun k => rowD (ordK s.m.length k) (rowF s b k)
def eqR (p : Nat) (r q : Row) : Bool := (ordS p).all fun x => decide (r x = q x)
def againF (s : Sp) (b : Nat × Bool) : Nat → Nat
  | 0 => 0
  | n + 1 => if s.m.length ≤ n + 1 ∧ eqR s.m.length (rowF s b (n + 1)) (rowF s b (n + 1 - s.m.length)) = true then againF s b n + 1 else 0
/-- the loop of the prices ends behind row N -/
def endsAt (s : Sp) (b : Nat × Bool) (N : Nat) : Prop := againF s b N = 6 ∧ N ≤ 1000 ∧ ∀ n, n < N → againF s b n < 6
def fldP : List Str := ["period", "steps", "since", "costs"]
def prD (C : Addr) (s : Sp) (b : Nat × Bool) (N : Nat) : D := .ins C fldP [.int (s.m.length : Nat), stepsD s, .int ((N : Int) - 5 - (s.m.length : Nat)), .lst ((rowsD s b N).take (N - 5))]
def keptF (s : Sp) (N : Nat) (L : Int) : Int := if L < (N : Int) - 5 then L else ((N : Int) - 5 - s.m.length) + (L - ((N : Int) - 5 - s.m.length)) % s.m.length
def orNon (v : Int) : D := if v < NO then .int v else .non
def joinF : List D → List D → List D
  | acc, [] => acc
  | acc, .int n :: r => match acc.reverse with
    | .int m :: q => joinF (q.reverse ++ [.int (m + n)]) r
    | _ => if n = 0 then joinF acc r else joinF (acc ++ [.int n]) r
  | acc, d :: r => joinF (acc ++ [d]) r
def stepS : D → Prop
  | .int _ => True
  | .str t => isLet t 8 = true
  | _ => False
theorem stepS_D {d : D} (h : stepS d) : stepD d := by
  cases d <;> first | exact h.elim | trivial
def S_steps_into (C : Addr) : Pm := fun c ds Φ => ∃ s zs, ds = [bD C s zs] ∧ s.ok ∧ Φ (stepsD s) c
def S_next_row : Pm := fun c ds Φ => ∃ s b n, c = [.lst (rowsD s b n)] ∧ ds = [.cell 0, stepsD s] ∧ s.ok ∧ b.1 < s.m.length ∧ n ≤ 1000 ∧ Φ (rowD (ordL s.m.length) (rowF s b (n + 1))) c
def S_joined : Pm := fun c ds Φ => ∃ steps, ds = [.lst steps] ∧ steps.length ≤ 2000 ∧ (∀ d ∈ steps, stepS d) ∧ Φ (.tup (joinF [] steps)) c
def S_cost_or_none : Pm := fun c ds Φ => ∃ v, ds = [.int v] ∧ Φ (orNon v) c
def S_Prices___init__ (C CP : Addr) : Pm := fun c ds Φ => ∃ s zs b N, c = [.obj CP [] []] ∧ ds = [.cell 0, bD C s zs, .str (sS b)] ∧ s.ok ∧ b.1 < s.m.length ∧ endsAt s b N ∧
  Φ .non [.obj CP fldP [.int (s.m.length : Nat), stepsD s, .int ((N : Int) - 5 - (s.m.length : Nat)), .lst ((rowsD s b N).take (N - 5))]]
def S_Prices_kept_length (CP : Addr) : Pm := fun c ds Φ => ∃ s b N L, ds = [prD CP s b N, .int L] ∧ s.ok ∧ b.1 < s.m.length ∧ endsAt s b N ∧ 0 ≤ L ∧ Φ (.int (keptF s N L)) c
def S_Prices_cost (CP : Addr) : Pm := fun c ds Φ => ∃ s b N L x, ds = [prD CP s b N, .int L, .str (sS x)] ∧ s.ok ∧ b.1 < s.m.length ∧ x.1 < s.m.length ∧ endsAt s b N ∧ 0 ≤ L ∧ Φ (.int (rowF s b (keptF s N L).toNat x)) c
/-- the first of the steps into y with which a filling of this length has the least cost -/
def lastF (s : Sp) (b : Nat × Bool) (k : Nat) (y : Nat × Bool) : List Stp := (stepsF s y).filter fun t => decide (t.l ≤ k) && decide (rowF s b (k - t.l) t.x + (t.c : Int) = rowF s b k y)
def S_Prices_last_step (CP : Addr) : Pm := fun c ds Φ => ∃ s b N k y t r, ds = [prD CP s b N, .int (k : Nat), .str (sS y)] ∧ s.ok ∧ b.1 < s.m.length ∧ y.1 < s.m.length ∧ endsAt s b N ∧ 0 < k ∧ k < N - 5 ∧ lastF s b k y = t :: r ∧ Φ (.tup [t.d, .str (sS t.x), .int t.l]) c
def fillF (s : Sp) (b : Nat × Bool) : Nat → Nat → Nat × Bool → List D
  | 0, _, _ => []
  | f + 1, k, y => if k = 0 then [] else match lastF s b k y with
    | t :: _ => t.d :: fillF s b f (k - t.l) t.x
    | [] => []
def fillD (s : Sp) (b : Nat × Bool) (N : Nat) (L : Int) (y : Nat × Bool) : D := if rowF s b (keptF s N L).toNat y < NO then .tup (joinF [] (.int (L - keptF s N L) :: (fillF s b (keptF s N L).toNat (keptF s N L).toNat y).reverse)) else .non
def S_Prices_filling (CP : Addr) : Pm := fun c ds Φ => ∃ s b N L y, ds = [prD CP s b N, .int L, .str (sS y)] ∧ s.ok ∧ b.1 < s.m.length ∧ y.1 < s.m.length ∧ endsAt s b N ∧ 0 ≤ L ∧ Φ (fillD s b N L y) c
def S_side_cost (C : Addr) : Pm := fun c ds Φ => ∃ s zs L b y N, ds = [bD C s zs, .int L, .str (sS b), .str (sS y)] ∧ s.ok ∧ b.1 < s.m.length ∧ y.1 < s.m.length ∧ 0 ≤ L ∧ L ≤ 10 ^ 30 ∧ endsAt s b N ∧ Φ (orNon (rowF s b (keptF s N L).toNat y)) c
def S_least_filling (C : Addr) : Pm := fun c ds Φ => ∃ s zs L b y N, ds = [bD C s zs, .int L, .str (sS b), .str (sS y)] ∧ s.ok ∧ b.1 < s.m.length ∧ y.1 < s.m.length ∧ 0 ≤ L ∧ L ≤ 10 ^ 30 ∧ endsAt s b N ∧ Φ (fillD s b N L y) c
def S_calendar (C : Addr) : Pm := fun c ds Φ => ∃ s zs, ∃ N : Nat × Bool → Nat, ds = [bD C s zs] ∧ s.ok ∧ (∀ b, b.1 < s.m.length → endsAt s b (N b)) ∧ ∀ T : Int, (∃ b, b.1 < s.m.length ∧ T = (N b : Int) - 5 - s.m.length) → (∀ b, b.1 < s.m.length → (N b : Int) - 5 - s.m.length ≤ T) → Φ (.int T) c
theorem sS_inj {x y : Nat × Bool} (hx : x.1 < 10) (hy : y.1 < 10) (h : sS x = sS y) : x = y := by
  obtain ⟨i, d⟩ := x
  obtain ⟨j, e⟩ := y
  have h0 := st_at0 d hx
  have h1 := st_at1 d hx
  have h : stS i d = stS j e := h
  rw [h] at h0 h1
  rw [st_at0 e hy] at h0
  rw [st_at1 e hy] at h1
  have e1 : i = j := by injection h0 with h0; omega
  have e2 : d = e := by
    cases d <;> cases e <;> first | rfl | (injection h1 with h1; cases h1)
  subst e1; subst e2; rfl
theorem kyS_inj {x y : Nat × Bool} (hx : x.1 < 10) (hy : y.1 < 10) (h : kyS x = kyS y) : x = y := sS_inj hx hy (Sum.inr.inj h)
theorem mem_ordS {p : Nat} {x : Nat × Bool} : x ∈ ordS p ↔ x.1 < p := by
  unfold ordS
  rw [List.mem_flatMap]
  constructor
  · rintro ⟨i, hi, h⟩
    have hi := List.mem_range.mp hi
    simp only [List.mem_cons, List.not_mem_nil, or_false] at h
    rcases h with rfl | rfl <;> exact hi
  · intro h
    obtain ⟨i, d⟩ := x
    exact ⟨i, List.mem_range.mpr h, by cases d <;> simp⟩
theorem ordS_st (p : Nat) : stL p = (ordS p).map sS := by
  unfold stL ordS
  rw [List.map_flatMap]; rfl
theorem farN_bk {p : Nat} {i : Nat} {d : Bool} (h : i < p) (h5 : p ≤ 5) : farN p (farN p i (!d) 1) d 1 = i ∧ farN p (farN p i d 1) (!d) 1 = i := by
  have hp : p = 1 ∨ p = 2 ∨ p = 3 ∨ p = 4 ∨ p = 5 := by omega
  have hi : i = 0 ∨ i = 1 ∨ i = 2 ∨ i = 3 ∨ i = 4 := by omega
  rcases hp with rfl | rfl | rfl | rfl | rfl <;> rcases hi with rfl | rfl | rfl | rfl | rfl <;> first | omega | (cases d <;> decide)
theorem nx_bk {p : Nat} {y : Nat × Bool} (h : y.1 < p) (h5 : p ≤ 5) : nxS p (bkS p y) = y := by
  obtain ⟨i, d⟩ := y
  show (farN p (farN p i (!d) 1) d 1, d) = _
  rw [(farN_bk h h5).1]
theorem bk_nx {p : Nat} {y : Nat × Bool} (h : y.1 < p) (h5 : p ≤ 5) : bkS p (nxS p y) = y := by
  obtain ⟨i, d⟩ := y
  show (farN p (farN p i d 1) (!d) 1, d) = _
  rw [(farN_bk h h5).2]
theorem nx_lt {p : Nat} {x : Nat × Bool} (h : x.1 < p) : (nxS p x).1 < p := farN_lt (by omega)
theorem bk_lt {p : Nat} {x : Nat × Bool} (h : x.1 < p) : (bkS p x).1 < p := farN_lt (by omega)
theorem mem_ordL {p : Nat} {x : Nat × Bool} (h5 : p ≤ 5) : x ∈ ordL p ↔ x.1 < p := by
  unfold ordL
  rw [List.mem_map]
  constructor
  · rintro ⟨y, hy, rfl⟩; exact nx_lt (mem_ordS.mp hy)
  · intro h; exact ⟨bkS p x, mem_ordS.mpr (bk_lt h), nx_bk h h5⟩
theorem mem_ordK {p k : Nat} {x : Nat × Bool} (h5 : p ≤ 5) : x ∈ ordK p k ↔ x.1 < p := by
  unfold ordK
  split
  · exact mem_ordS
  · exact mem_ordL h5
theorem ordS_len (p : Nat) : (ordS p).length = 2 * p := by
  have := congrArg List.length (ordS_st p)
  rw [stL_len, List.length_map] at this
  exact this.symm
theorem ordL_len (p : Nat) : (ordL p).length = 2 * p := by unfold ordL; rw [List.length_map, ordS_len]
theorem ordK_len (p k : Nat) : (ordK p k).length = 2 * p := by
  unfold ordK
  split
  · exact ordS_len p
  · exact ordL_len p
theorem ordS_nd {p : Nat} (h5 : p ≤ 5) : (ordS p).Nodup := by
  have hp : p = 0 ∨ p = 1 ∨ p = 2 ∨ p = 3 ∨ p = 4 ∨ p = 5 := by omega
  rcases hp with rfl | rfl | rfl | rfl | rfl | rfl <;> decide
theorem ordL_nd {p : Nat} (h5 : p ≤ 5) : (ordL p).Nodup := by
  have hp : p = 0 ∨ p = 1 ∨ p = 2 ∨ p = 3 ∨ p = 4 ∨ p = 5 := by omega
  rcases hp with rfl | rfl | rfl | rfl | rfl | rfl <;> decide
theorem keys_nd {o : List (Nat × Bool)} (h : ∀ x ∈ o, x.1 < 10) (nd : o.Nodup) : (o.map kyS).Nodup := by
  refine List.pairwise_map.mpr ?_
  refine List.Pairwise.imp_of_mem ?_ nd
  intro a b ha hb hne e
  exact hne (kyS_inj (h a ha) (h b hb) e)
theorem look_ky {f : Nat × Bool → D} {x : Nat × Bool} : ∀ {o : List (Nat × Bool)}, x ∈ o → (∀ y ∈ o, y.1 < 10) → lookD (o.map kyS) (o.map f) (kyS x) = some (f x)
  | y :: o, hx, h => by
    show (if kyS y = kyS x then some (f y) else lookD (o.map kyS) (o.map f) (kyS x)) = _
    by_cases e : kyS y = kyS x
    · have := kyS_inj (h y List.mem_cons_self) (h x hx) e
      subst this
      rw [if_pos rfl]
    · rw [if_neg e]
      exact look_ky ((List.mem_cons.mp hx).resolve_left fun z => e (by rw [z])) fun y hy => h y (List.mem_cons_of_mem _ hy)
theorem lookI_ky {r : Row} {x : Nat × Bool} : ∀ {o : List (Nat × Bool)}, x ∈ o → (∀ y ∈ o, y.1 < 10) → lookI (o.map kyS) (o.map r) (kyS x) = some (r x)
  | y :: o, hx, h => by
    show (if kyS y = kyS x then some (r y) else lookI (o.map kyS) (o.map r) (kyS x)) = _
    by_cases e : kyS y = kyS x
    · have := kyS_inj (h y List.mem_cons_self) (h x hx) e
      subst this
      rw [if_pos rfl]
    · rw [if_neg e]
      exact lookI_ky ((List.mem_cons.mp hx).resolve_left fun z => e (by rw [z])) fun y hy => h y (List.mem_cons_of_mem _ hy)
theorem row_look {p k : Nat} {r : Row} {x : Nat × Bool} (h5 : p ≤ 5) (hx : x.1 < p) : ∃ ds, rowD (ordK p k) r = .dct ((ordK p k).map kyS) ds ∧ lookD ((ordK p k).map kyS) ds (kyS x) = some (.int (r x)) :=
  ⟨_, rfl, by
    rw [List.map_map]
    exact look_ky (f := fun x => .int (r x)) ((mem_ordK h5).mpr hx) fun y hy => by have := (mem_ordK h5).mp hy; omega⟩
theorem rowsF_len (s : Sp) (b : Nat × Bool) : ∀ n, (rowsF s b n).length = n + 1
  | 0 => rfl
  | n + 1 => by
    show (rowsF s b n ++ [_]).length = _
    rw [List.length_append, rowsF_len s b n]; rfl
theorem rowsF_get (s : Sp) (b : Nat × Bool) : ∀ {n k : Nat}, k ≤ n → getR (rowsF s b n) k = rowF s b k
  | 0, k, h => by have : k = 0 := by omega
                  subst this; rfl
  | n + 1, k, h => by
    by_cases hk : k = n + 1
    · subst hk; rfl
    · have := rowsF_get s b (show k ≤ n by omega)
      rw [← this]
      show (rowsF s b n ++ [_]).getD k _ = (rowsF s b n).getD k _
      rw [List.getD_eq_getElem?_getD, List.getD_eq_getElem?_getD, List.getElem?_append_left (by rw [rowsF_len]; omega)]
theorem rowF_next (s : Sp) (b : Nat × Bool) (n : Nat) : rowF s b (n + 1) = nextF s (rowsF s b n) := by
  show (rowsF s b n ++ [_]).getD (n + 1) _ = _
  rw [List.getD_eq_getElem?_getD, List.getElem?_append_right (by rw [rowsF_len]; omega), rowsF_len, Nat.sub_self]; rfl
theorem rowsD_len (s : Sp) (b : Nat × Bool) (n : Nat) : (rowsD s b n).length = n + 1 := by unfold rowsD; rw [List.length_map, List.length_range]
theorem rowsD_get (s : Sp) (b : Nat × Bool) {n k : Nat} (h : k ≤ n) : (rowsD s b n)[k]? = some (rowD (ordK s.m.length k) (rowF s b k)) := by
  unfold rowsD
  rw [List.getElem?_map, List.getElem?_range (by omega)]; rfl
theorem rowsD_add (s : Sp) (b : Nat × Bool) (n : Nat) : rowsD s b (n + 1) = rowsD s b n ++ [rowD (ordL s.m.length) (rowF s b (n + 1))] := by
  unfold rowsD
  rw [List.range_succ, List.map_append]; rfl
theorem rowsD_at (s : Sp) (b : Nat × Bool) {n : Nat} {v : Int} (h0 : 0 ≤ v) (h : v ≤ n) : L2.atI (rowsD s b n) v = some (rowD (ordK s.m.length v.toNat) (rowF s b v.toNat)) := by
  unfold L2.atI L2.ixN
  rw [if_pos h0, if_pos (by rw [rowsD_len]; omega)]
  show (rowsD s b n)[v.toNat]? = _
  exact rowsD_get s b (by omega)
theorem ok_row {n : Nat} (o : List (Nat × Bool)) (r : Row) : okD n (rowD o r) = true := by
  show okDs n ((o.map r).map D.int) = true
  exact okDs_map (fun _ => rfl) _
theorem ok_rows {n : Nat} (s : Sp) (b : Nat × Bool) (k : Nat) : okDs n (rowsD s b k) = true := okDs_map (fun _ => ok_row _ _) _
theorem ok_stp {n : Nat} {t : Stp} (h : okD n t.d = true) : okD n t.D' = true := by
  show (okD n t.d && (true && (true && (true && true)))) = true
  rw [h]; rfl
theorem stp_d {s : Sp} {y : Nat × Bool} {t : Stp} (h : t ∈ stepsF s y) : stepD t.d := by
  rcases List.mem_cons.mp h with rfl | h
  · trivial
  · obtain ⟨q, _, rfl⟩ := List.mem_map.mp h; trivial
theorem ok_stepD {n : Nat} {d : D} (h : stepD d) : okD n d = true := by
  cases d <;> first | exact h.elim | rfl
theorem ok_steps {n : Nat} (s : Sp) : okD n (stepsD s) = true := by
  show okDs n ((ordL s.m.length).map fun y => D.lst ((stepsF s y).map Stp.D')) = true
  refine okDs_map (fun y => ?_) _
  show okDs n ((stepsF s y).map Stp.D') = true
  refine okDs_of fun d hd => ?_
  obtain ⟨t, ht, rfl⟩ := List.mem_map.mp hd
  exact ok_stp (ok_stepD (stp_d ht))
theorem ok_pr (CP : Addr) (s : Sp) (b : Nat × Bool) (N : Nat) : okD 0 (prD CP s b N) = true := by
  show (true && (okD 0 (stepsD s) && (true && (okDs 0 ((rowsD s b N).take (N - 5)) && true)))) = true
  rw [ok_steps, okDs_of (n := 0) (ds := (rowsD s b N).take (N - 5)) fun d hd => by
    obtain ⟨k, _, rfl⟩ := List.mem_map.mp (List.mem_of_mem_take hd)
    exact ok_row _ _]
  rfl
theorem stp_ok {s : Sp} (hs : s.ok) {y : Nat × Bool} (hy : y.1 < s.m.length) {t : Stp} (h : t ∈ stepsF s y) : t.x.1 < s.m.length ∧ 1 ≤ t.l ∧ t.l ≤ 6 ∧ t.c ≤ 9 := by
  rcases List.mem_cons.mp h with rfl | h
  · exact ⟨bk_lt hy, Nat.le_refl 1, by show 1 ≤ 6; decide, by show 0 ≤ 9; decide⟩
  · obtain ⟨q, hq, rfl⟩ := List.mem_map.mp h
    have := hs.ps q (List.mem_filter.mp hq).1
    exact ⟨this.2.1.1, this.2.2.1.1, this.2.2.1.2, this.2.2.2⟩
theorem stepsF_len {s : Sp} (hs : s.ok) (y : Nat × Bool) : (stepsF s y).length ≤ 9 := by
  show (pieF s y).length + 1 ≤ 9
  unfold pieF
  rw [List.length_map]
  have := List.length_filter_le (fun q => decide ((q.j, q.e) = y)) s.ps
  have := hs.np
  omega
theorem foldr_min {L : List Int} {m : Int} (hm : m ∈ NO :: L) (hl : ∀ y, y ∈ NO :: L → m ≤ y) : m = L.foldr min NO := by
  have h1 : ∀ L : List Int, (∀ y ∈ NO :: L, L.foldr min NO ≤ y) ∧ L.foldr min NO ∈ NO :: L := by
    intro L
    induction L with
    | nil => exact ⟨fun y hy => by simp at hy; subst hy; exact Int.le_refl _, List.mem_cons_self⟩
    | cons a L ih =>
      obtain ⟨i1, i2⟩ := ih
      refine ⟨fun y hy => ?_, ?_⟩
      · show min a (L.foldr min NO) ≤ y
        rcases List.mem_cons.mp hy with rfl | hy
        · exact Int.le_trans (Int.min_le_right _ _) (i1 _ List.mem_cons_self)
        · rcases List.mem_cons.mp hy with rfl | hy
          · exact Int.min_le_left _ _
          · exact Int.le_trans (Int.min_le_right _ _) (i1 _ (List.mem_cons_of_mem _ hy))
      · show min a (L.foldr min NO) ∈ _
        by_cases h : a ≤ L.foldr min NO
        · rw [Int.min_eq_left h]; simp
        · rw [Int.min_eq_right (by omega)]
          rcases List.mem_cons.mp i2 with e | e
          · rw [e]; exact List.mem_cons_self
          · exact List.mem_cons_of_mem _ (List.mem_cons_of_mem _ e)
  exact Int.le_antisymm (hl _ (h1 L).2) ((h1 L).1 _ hm)
def Stp.ds (t : Stp) : List D := [t.d, .str (sS t.x), .int (t.l : Nat), .int (t.c : Nat)]
theorem ky_look {s : Sp} (h5 : s.m.length ≤ 5) {y : Nat × Bool} (hy : y.1 < s.m.length) : lookD ((ordL s.m.length).map kyS) ((ordL s.m.length).map fun y => D.lst ((stepsF s y).map Stp.D')) (kyS y) = some (.lst ((stepsF s y).map fun t => .tup t.ds)) :=
  look_ky (f := fun y => D.lst ((stepsF s y).map Stp.D')) ((mem_ordL h5).mpr hy) fun x hx => by have := (mem_ordL h5).mp hx; omega
theorem row_at {p k : Nat} {r : Row} {x : Nat × Bool} (h5 : p ≤ 5) (hx : x.1 < p) : lookD ((ordK p k).map kyS) (((ordK p k).map r).map .int) (kyS x) = some (.int (r x)) := by
  rw [List.map_map]
  exact look_ky (f := fun x => .int (r x)) ((mem_ordK h5).mpr hx) fun y hy => by have := (mem_ordK h5).mp hy; omega
theorem again_le (s : Sp) (b : Nat × Bool) : ∀ n, againF s b n ≤ n + 1 - s.m.length
  | 0 => Nat.zero_le _
  | n + 1 => by
    show (if s.m.length ≤ n + 1 ∧ _ then againF s b n + 1 else 0) ≤ _
    split
    · rename_i h
      have := again_le s b n
      omega
    · exact Nat.zero_le _
theorem ends_ge {s : Sp} {b : Nat × Bool} {N : Nat} (h : endsAt s b N) : s.m.length + 5 ≤ N := by
  have := again_le s b N
  rw [h.1] at this
  omega
theorem costs_len (s : Sp) (b : Nat × Bool) (N : Nat) : ((rowsD s b N).take (N - 5)).length = N - 5 := by
  rw [List.length_take, rowsD_len]; omega
theorem costs_at (s : Sp) (b : Nat × Bool) {N : Nat} {v : Int} (h0 : 0 ≤ v) (h : v < ((N - 5 : Nat) : Int)) : L2.atI ((rowsD s b N).take (N - 5)) v = some (rowD (ordK s.m.length v.toNat) (rowF s b v.toNat)) := by
  unfold L2.atI L2.ixN
  rw [if_pos h0, if_pos (by rw [costs_len]; omega)]
  show ((rowsD s b N).take (N - 5))[v.toNat]? = _
  rw [List.getElem?_take_of_lt (by omega)]
  exact rowsD_get s b (by omega)
theorem kept_in {s : Sp} {b : Nat × Bool} {N : Nat} {L : Int} (h : endsAt s b N) (hp : 0 < s.m.length) (hL : 0 ≤ L) : 0 ≤ keptF s N L ∧ keptF s N L < ((N - 5 : Nat) : Int) := by
  have hg := ends_ge h
  unfold keptF
  split
  · omega
  · have h1 := Int.emod_nonneg (L - ((N : Int) - 5 - s.m.length)) (show (s.m.length : Int) ≠ 0 by omega)
    have h2 := Int.emod_lt_of_pos (L - ((N : Int) - 5 - s.m.length)) (show (0 : Int) < s.m.length by omega)
    omega
theorem join_add (q : List D) (m n : Int) (r : List D) : joinF (q ++ [.int m]) (.int n :: r) = joinF (q ++ [.int (m + n)]) r := by
  rw [joinF]
  rw [List.reverse_append]
  show joinF (q.reverse.reverse ++ [.int (m + n)]) r = _
  rw [List.reverse_reverse]
theorem join_int {acc : List D} {n : Int} {r : List D} (h : ∀ q m, acc ≠ q ++ [.int m]) : joinF acc (.int n :: r) = if n = 0 then joinF acc r else joinF (acc ++ [.int n]) r := by
  rw [joinF]
  cases e : acc.reverse with
  | nil => rfl
  | cons a q =>
    cases a with
    | int m => exact absurd (by have := congrArg List.reverse e; rw [List.reverse_reverse, List.reverse_cons] at this; exact this) (h q.reverse m)
    | _ => rfl
theorem at_last (q : List D) (l : D) : L2.atI (q ++ [l]) (-1) = some l := by
  unfold L2.atI L2.ixN
  rw [if_neg (by decide), if_pos (by rw [List.length_append]; simp only [List.length_cons, List.length_nil]; omega)]
  show (q ++ [l])[((-1 : Int) + ((q ++ [l]).length : Nat)).toNat]? = _
  rw [List.length_append, show ((-1 : Int) + ((q.length + [l].length : Nat) : Int)).toNat = q.length by simp only [List.length_cons, List.length_nil]; omega, List.getElem?_append_right (Nat.le_refl _), Nat.sub_self]; rfl
theorem ix_last (q : List D) (l : D) : ixN (q ++ [l]).length (-1) = some q.length := by
  unfold L2.ixN
  rw [if_neg (by decide), if_pos (by rw [List.length_append]; simp only [List.length_cons, List.length_nil]; omega)]
  rw [List.length_append, show ((-1 : Int) + ((q.length + [l].length : Nat) : Int)).toNat = q.length by simp only [List.length_cons, List.length_nil]; omega]
theorem shaped_8 {t : Str} (h : isLet t 8 = true) : SeqAt.shaped (.str t) = true := Bool.and_eq_true_iff.mpr ⟨tame_ok (let_tame (n := 8) h), rfl⟩
theorem isLet_of {s : Sp} (hs : s.ok) {y : Nat × Bool} {t : Stp} (h : t ∈ stepsF s y) : stepS t.d := by
  rcases List.mem_cons.mp h with rfl | h
  · trivial
  · obtain ⟨q, hq, rfl⟩ := List.mem_map.mp h
    exact (hs.ps q (List.mem_filter.mp hq).1).1
def stpQ (q : Part) : Stp := ⟨.str q.t, (q.i, q.d), q.l, q.c⟩
def stepsQ (p : Nat) (qs : List Part) (y : Nat × Bool) : List Stp := ⟨.int 1, bkS p y, 1, 0⟩ :: (qs.filter fun q => decide ((q.j, q.e) = y)).map stpQ
theorem stepsQ_add (p : Nat) (qs : List Part) (q : Part) (y : Nat × Bool) : stepsQ p (qs ++ [q]) y = if (q.j, q.e) = y then stepsQ p qs y ++ [stpQ q] else stepsQ p qs y := by
  unfold stepsQ
  rw [List.filter_append]
  by_cases h : (q.j, q.e) = y
  · rw [if_pos h, List.filter_cons_of_pos (by simpa using h), List.map_append]; rfl
  · rw [if_neg h, List.filter_cons_of_neg (by simpa using h)]; simp
theorem look_ix {y : Nat × Bool} : ∀ {o : List (Nat × Bool)} {ds : List D} {j : Nat}, o[j]? = some y → (∀ z ∈ o, z.1 < 10) → o.Nodup → o.length = ds.length → lookD (o.map kyS) ds (kyS y) = ds[j]?
  | [], _, _, h, _, _, _ => by simp at h
  | z :: o, [], _, _, _, _, h => by cases h
  | z :: o, d :: ds, 0, h, _, _, _ => by
    simp at h
    subst h
    show (if kyS z = kyS z then some d else _) = _
    rw [if_pos rfl]; rfl
  | z :: o, d :: ds, j + 1, h, hl, nd, hn => by
    have h : o[j]? = some y := h
    have hy := List.mem_of_getElem? h
    show (if kyS z = kyS y then some d else lookD (o.map kyS) ds (kyS y)) = ds[j]?
    rw [if_neg fun e => ?_]
    · exact look_ix h (fun w hw => hl w (List.mem_cons_of_mem _ hw)) (List.nodup_cons.mp nd).2 (by simpa using hn)
    · have := kyS_inj (hl z List.mem_cons_self) (hl y (List.mem_cons_of_mem _ hy)) e
      subst this
      exact (List.nodup_cons.mp nd).1 hy
theorem map_put {α : Type} {f g : Nat × Bool → α} {y : Nat × Bool} : ∀ {o : List (Nat × Bool)} {j : Nat}, o[j]? = some y → o.Nodup → (∀ z, z ≠ y → f z = g z) → (o.map f).set j (g y) = o.map g
  | [], _, h, _, _ => by simp at h
  | z :: o, 0, h, nd, hf => by
    simp at h
    subst h
    show g z :: o.map f = g z :: o.map g
    congr 1
    refine List.map_congr_left fun w hw => hf w fun e => ?_
    subst e
    exact (List.nodup_cons.mp nd).1 hw
  | z :: o, j + 1, h, nd, hf => by
    have h : o[j]? = some y := h
    have hy := List.mem_of_getElem? h
    show f z :: (o.map f).set j (g y) = g z :: o.map g
    rw [map_put h (List.nodup_cons.mp nd).2 hf, hf z fun e => by subst e; exact (List.nodup_cons.mp nd).1 hy]
theorem melts_ix {c : List Cell} {f : Nat → List D} : ∀ js : List Nat, (∀ j ∈ js, c[0 + 1 + j]? = some (.lst (f j)) ∧ okDs 0 (f j) = true) → melts 0 c (js.map fun j => .cell (0 + 1 + j)) = some (js.map fun j => .lst (f j))
  | [], _ => rfl
  | j :: js, h => by
    obtain ⟨h1, h2⟩ := h j List.mem_cons_self
    have e1 : melt1 0 c (.cell (0 + 1 + j)) = some (.lst (f j)) := by
      show (match c[0 + 1 + j]? with
        | some (.lst es) => if Nat.ble 0 (0 + 1 + j) && okDs 0 es then some (D.lst es) else none
        | _ => none) = _
      rw [h1]
      show (if Nat.ble 0 (0 + 1 + j) && okDs 0 (f j) then some (D.lst (f j)) else none) = _
      rw [h2, if_pos]
      cases j <;> rfl
    show (match melt1 0 c (.cell (0 + 1 + j)), melts 0 c (js.map fun j => .cell (0 + 1 + j)) with
      | some e, some es => some (e :: es)
      | _, _ => none) = _
    rw [e1, melts_ix js fun k hk => h k (List.mem_cons_of_mem _ hk)]; rfl
theorem ok_stpQ (p : Nat) (qs : List Part) (y : Nat × Bool) : okDs 0 ((stepsQ p qs y).map Stp.D') = true := okDs_of fun d hd => by
  obtain ⟨t, ht, rfl⟩ := List.mem_map.mp hd
  refine ok_stp ?_
  rcases List.mem_cons.mp ht with rfl | ht
  · rfl
  · obtain ⟨q, _, rfl⟩ := List.mem_map.mp ht; rfl
theorem ix_get {n j : Nat} (h : j < n) : (ixD 0 n)[j]? = some (.cell (j + 1)) := by
  unfold ixD
  rw [List.getElem?_map, List.getElem?_range h]
  show some (D.cell (0 + 1 + j)) = _
  rw [show 0 + 1 + j = j + 1 by omega]
theorem ls_get {L : List (List D)} {j : Nat} {l : List D} (h : L[j]? = some l) {e : Cell} : (e :: lsC L)[j + 1]? = some (.lst l) := by
  show (lsC L)[j]? = _
  unfold lsC
  rw [List.getElem?_map, h]; rfl
theorem range_get {α : Type} (a : α) (L : List α) : (List.range L.length).map (fun j => L.getD j a) = L := by
  apply List.ext_getElem?
  intro i
  rw [List.getElem?_map]
  by_cases h : i < L.length
  · rw [List.getElem?_range h, List.getElem?_eq_getElem h]
    show some (L.getD i a) = _
    rw [List.getD_eq_getElem?_getD, List.getElem?_eq_getElem h]; rfl
  · rw [List.getElem?_eq_none (by rw [List.length_range]; omega), List.getElem?_eq_none (by omega)]; rfl
theorem melts_ls {e : Cell} (L : List (List D)) (hL : ∀ l ∈ L, okDs 0 l = true) : melts 0 (e :: lsC L) (ixD 0 L.length) = some (L.map .lst) := by
  have h := melts_ix (c := e :: lsC L) (f := fun j => L.getD j []) (List.range L.length) fun j hj => by
    have hj := List.mem_range.mp hj
    have e1 : L.getD j [] = L[j] := by rw [List.getD_eq_getElem?_getD, List.getElem?_eq_getElem hj]; rfl
    refine ⟨?_, ?_⟩
    · rw [show 0 + 1 + j = j + 1 by omega]
      exact ls_get (by show L[j]? = some (L.getD j []); rw [e1, List.getElem?_eq_getElem hj])
    · show okDs 0 (L.getD j []) = true
      rw [e1]; exact hL _ (List.getElem_mem hj)
  show melts 0 (e :: lsC L) ((List.range L.length).map fun j => .cell (0 + 1 + j)) = _
  rw [h]
  have e2 : (List.range L.length).map (fun j => D.lst (L.getD j [])) = ((List.range L.length).map fun j => L.getD j []).map .lst := by rw [List.map_map]; rfl
  rw [e2, range_get]
theorem rowsD_neg (s : Sp) (b : Nat × Bool) {n k : Nat} (h : k ≤ n) : L2.atI (rowsD s b n) (-1 - (k : Int)) = some (rowD (ordK s.m.length (n - k)) (rowF s b (n - k))) := by
  unfold L2.atI L2.ixN
  rw [if_neg (by omega), if_pos (by rw [rowsD_len]; omega)]
  show (rowsD s b n)[((-1 - (k : Int)) + ((rowsD s b n).length : Nat)).toNat]? = _
  rw [rowsD_len, show ((-1 - (k : Int)) + ((n + 1 : Nat) : Int)).toNat = n - k by omega]
  exact rowsD_get s b (by omega)
theorem sameI_all {o : List (Nat × Bool)} {r q : Row} (h10 : ∀ y ∈ o, y.1 < 10) : ∀ l : List (Nat × Bool), (∀ x ∈ l, x ∈ o) → sameI (o.map kyS) (o.map q) (l.map kyS) (l.map r) = l.all fun x => decide (r x = q x)
  | [], _ => rfl
  | x :: l, h => by
    show (decide (lookI (o.map kyS) (o.map q) (kyS x) = some (r x)) && sameI (o.map kyS) (o.map q) (l.map kyS) (l.map r)) = _
    rw [lookI_ky (h x List.mem_cons_self) h10, sameI_all h10 l fun y hy => h y (List.mem_cons_of_mem _ hy), List.all_cons]
    congr 1
    rw [decide_eq_decide]
    exact ⟨fun e => (Option.some.inj e).symm, fun e => by rw [e]⟩
theorem same_eqR {p i j : Nat} (h5 : p ≤ 5) (r q : Row) : sameI ((ordK p j).map kyS) ((ordK p j).map q) ((ordK p i).map kyS) ((ordK p i).map r) = eqR p r q := by
  rw [sameI_all (fun y hy => by have := (mem_ordK h5).mp hy; omega) _ fun x hx => (mem_ordK h5).mpr ((mem_ordK h5).mp hx)]
  unfold eqR
  rw [Bool.eq_iff_iff, List.all_eq_true, List.all_eq_true]
  exact ⟨fun h x hx => h x ((mem_ordK h5).mpr (mem_ordS.mp hx)), fun h x hx => h x (mem_ordS.mpr ((mem_ordK h5).mp hx))⟩
theorem again_eq (s : Sp) (b : Nat × Bool) (n : Nat) : againF s b (n + 1) = if (decide (s.m.length ≤ n + 1) && eqR s.m.length (rowF s b (n + 1)) (rowF s b (n + 1 - s.m.length))) = true then againF s b n + 1 else 0 := by
  show (if s.m.length ≤ n + 1 ∧ _ then againF s b n + 1 else 0) = _
  by_cases h : s.m.length ≤ n + 1
  · rw [decide_eq_true h, Bool.true_and]
    by_cases h2 : eqR s.m.length (rowF s b (n + 1)) (rowF s b (n + 1 - s.m.length)) = true
    · rw [if_pos ⟨h, h2⟩, if_pos h2]
    · rw [if_neg fun z => h2 z.2, if_neg h2]
  · rw [if_neg fun z => h z.1, decide_eq_false h, Bool.false_and, if_neg (by decide)]
theorem rows0 (s : Sp) (b : Nat × Bool) : rowsD s b 0 = [D.dct ((ordS s.m.length).map kyS) ((ordS s.m.length).map fun x => D.int (row0 b x))] := by
  show [rowD (ordS s.m.length) (row0 b)] = _
  unfold rowD
  rw [List.map_map]; rfl
section
variable {P : Program} {w : World} {K : PySem.W.Frag} {mg : Str → Option Value} {base : Heap}
set_option maxHeartbeats 8000000 in
theorem ok_steps_into (T : Tx K mg) : FnOk P w K mg base CX0 4 T.a_steps_into T.d_steps_into ["borders"] (spD K 0 1 (S_steps_into T.C_Borders)) := by
  refine fnD T.F_steps_into sc_steps_into fun cdv A outer s H E hr => ⟨_, (psd_cons (psd_setDcC (j := 1) (i := 7) rfl sc_steps_into.nd rfl rfl (sw_trueD rfl rfl rfl (by kernel_rfl)) (pid_tup (pd_prop T.cl_Borders T.P_Borders_states (ok_Borders_states T) (hr.mono (by decide)) T.b_Borders_states pass0 (pd_v 0))) (by kernel_rfl) (fun _ _ _ _ _ => pg_name (i := 7) sc_steps_into.nd rfl (Or.inl rfl)) (fun _ _ _ _ _ => (pd_callP (ok_state_behind T) (hr.mono (by decide)) T.g_state_behind T.F_state_behind.kp T.b_state_behind pass0 (pds_cons (pd_v 0) (pds_cons (pd_v 7) (pds_cons pd_int pds_nil))))) (fun _ _ _ _ _ => (pd_lstM (pds_cons (pd_tup (pds_cons pd_int (pds_cons (pd_v 7) (pds_cons pd_int (pds_cons pd_int pds_nil))))) pds_nil)))) (psd_cons (psd_for PassesOwn.never rfl (pid_tup (pd_prop T.cl_Borders T.P_Borders_pieces (ok_Borders_pieces T) (hr.mono (by decide)) T.b_Borders_pieces pass0 (pd_v 0))) (pgd_tup rfl (pgds_cons (pgd_name (i := 2) sc_steps_into.nd) (pgds_cons (pgd_name (i := 3) sc_steps_into.nd) (pgds_cons (pgd_name (i := 4) sc_steps_into.nd) (pgds_cons (pgd_name (i := 5) sc_steps_into.nd) (pgds_cons (pgd_name (i := 6) sc_steps_into.nd) pgds_nil)))))) (psd_one (psd_expr (pd_append (pd_dget hr (pd_v 1) (pd_v 4)) (pd_tup (pds_cons (pd_v 2) (pds_cons (pd_v 3) (pds_cons (pd_v 5) (pds_cons (pd_v 6) pds_nil))))))))) (psd_one (psd_ret (pd_v 1))))), ?_⟩
  rintro c ds Φ hc - ⟨s, zs, rfl, hs, hΦ⟩
  cases c with
  | cons _ _ => cases hc
  | nil =>
  have h5 : s.m.length ≤ 5 := tame_len (let_tame (n := 5) hs.m)
  have okb := b_ok T.C_Borders s zs
  conv => whnf
  refine ⟨⟨_, _, rfl⟩, okb, _, _, _, _, _, _, rfl, ?_, ?_⟩
  · show okDs 0 ((stL s.m.length).map D.str) = true
    exact okDs_map (fun _ => rfl) _
  conv => whnf
  rw [ordS_st, List.map_map]
  have nd := ordL_nd h5
  have lt10 : ∀ z ∈ ordL s.m.length, z.1 < 10 := fun z hz => by have := (mem_ordL h5).mp hz; omega
  refine dcC_plain (n := 0) (c := []) rfl (fun x : Nat × Bool => .str (sS x)) (fun x => kyS (nxS s.m.length x)) (fun x => [(⟨.int 1, x, 1, 0⟩ : Stp)].map Stp.D') (ordS s.m.length) [] (fun x hx C Ψ => ⟨fun h => ?_, fun h => ?_⟩) ?_ ?_ ?_
  · have hx := mem_ordS.mp hx
    conv => whnf
    refine ⟨rfl, ?_, s, zs, x.1, x.2, 1, rfl, hs, hx, h⟩
    exact Bool.and_eq_true_iff.mpr ⟨(Bool.and_eq_true_iff.mp okb).1, rfl⟩
  · conv => whnf
    refine ⟨by show 4 ≤ sizeLine; decide, ?_⟩
    conv => whnf
    refine ⟨by show 1 ≤ sizeLine; decide, ?_⟩
    conv => whnf
    exact h
  · rw [List.nil_append, show (ordS s.m.length).map (fun x => kyS (nxS s.m.length x)) = (ordL s.m.length).map kyS from by unfold ordL; rw [List.map_map]; rfl]
    exact keys_nd lt10 nd
  · rw [ordS_len]
    exact Nat.lt_of_lt_of_le (show 0 + 2 * s.m.length < 60000 by omega) (short (Nat.le_refl _))
  · have e0 : ([] ++ ordS s.m.length).map (fun x => [(⟨.int 1, x, 1, 0⟩ : Stp)].map Stp.D') = (ordL s.m.length).map fun y => (stepsQ s.m.length [] y).map Stp.D' := by
      unfold ordL
      rw [List.nil_append, List.map_map]
      refine List.map_congr_left fun x hx => ?_
      show _ = [(⟨.int 1, bkS s.m.length (nxS s.m.length x), 1, 0⟩ : Stp)].map Stp.D'
      rw [bk_nx (mem_ordS.mp hx) h5]
    have e1 : ([] ++ ordS s.m.length).map (fun x => kyS (nxS s.m.length x)) = (ordL s.m.length).map kyS := by unfold ordL; rw [List.nil_append, List.map_map]; rfl
    rw [e0, e1]
    rw [show (([] : List (Nat × Bool)) ++ ordS s.m.length).length = 2 * s.m.length from by rw [List.nil_append, ordS_len]]
    conv => whnf
    refine ⟨⟨_, _, rfl⟩, okb, _, _, _, _, _, _, rfl, (by show okDs 0 (List.map _ _) = true; exact okDs_map (fun _ => rfl) _), ?_⟩
    conv => whnf
    refine forD_inv (fun ds ρ c => ∃ (done rest : List Part) (x2 x3 x4 x5 x6 : Option D), s.ps = done ++ rest ∧ ds = rest.map Part.d' ∧ ρ = [some (bD T.C_Borders s zs), some (.cell 0), x2, x3, x4, x5, x6, none] ∧ c = .dct ((ordL s.m.length).map kyS) (ixD 0 (2 * s.m.length)) :: lsC ((ordL s.m.length).map fun y => (stepsQ s.m.length done y).map Stp.D')) ?_ ?_ _ _ _ ⟨[], s.ps, none, none, none, none, none, rfl, rfl, rfl, rfl⟩
    · rintro ρ c ⟨done, rest, x2, x3, x4, x5, x6, ep, ed, rfl, rfl⟩
      have er : rest = [] := by
        cases rest with
        | nil => rfl
        | cons _ _ => cases ed
      subst er
      rw [List.append_nil] at ep
      subst ep
      conv => whnf
      refine ⟨rfl, ?_⟩
      conv => whnf
      have hL := melts_ls (e := .dct ((ordL s.m.length).map kyS) (ixD 0 (2 * s.m.length))) ((ordL s.m.length).map fun y => (stepsQ s.m.length s.ps y).map Stp.D') fun l hl => by
        obtain ⟨y, _, rfl⟩ := List.mem_map.mp hl
        exact ok_stpQ _ _ _
      rw [List.length_map, ordL_len, List.map_map] at hL
      exact ⟨_, rfl, hL, hΦ⟩
    · rintro d ds ρ c F hF ⟨done, rest, x2, x3, x4, x5, x6, ep, ed, rfl, rfl⟩
      cases rest with
      | nil => cases ed
      | cons q rest =>
      injection ed with e1 e2
      subst e1; subst e2
      have hq := hs.ps q (by rw [ep]; simp)
      have hy : (q.j, q.e).1 < s.m.length := hq.2.1.2
      obtain ⟨j, hj⟩ := List.mem_iff_getElem?.mp ((mem_ordL h5).mpr hy)
      have hjl : j < 2 * s.m.length := by
        have := (List.getElem?_eq_some_iff.mp hj).1
        rw [ordL_len] at this; exact this
      conv => whnf
      refine ⟨rfl, ?_⟩
      conv => whnf
      refine ⟨rfl, ?_⟩
      conv => whnf
      have hat : ((ordL s.m.length).map fun y => (stepsQ s.m.length done y).map Stp.D')[j]? = some ((stepsQ s.m.length done (q.j, q.e)).map Stp.D') := by rw [List.getElem?_map, hj]; rfl
      have hcell := ls_get hat (e := .dct ((ordL s.m.length).map kyS) (ixD 0 (2 * s.m.length)))
      refine ⟨_, _, kyS (q.j, q.e), .cell (j + 1), rfl, rfl, ?_, ?_⟩
      · rw [look_ix hj lt10 nd (by rw [ordL_len]; unfold ixD; rw [List.length_map, List.length_range])]
        exact ix_get hjl
      conv => whnf
      refine ⟨j + 1, rfl, ⟨_, hcell⟩, ?_⟩
      conv => whnf
      refine ⟨by show 4 ≤ sizeLine; decide, ?_⟩
      conv => whnf
      refine ⟨_, hcell, ?_, ?_⟩
      · have hn := hs.np
        rw [ep, List.length_append, List.length_cons] at hn
        have hf := List.length_filter_le (fun r : Part => decide ((r.j, r.e) = (q.j, q.e))) done
        refine Nat.lt_of_lt_of_le (show _ < 100 from ?_) (by decide)
        rw [List.length_map]
        show ((done.filter fun r : Part => decide ((r.j, r.e) = (q.j, q.e))).map stpQ).length + 1 < 100
        rw [List.length_map]
        omega
      conv => whnf
      refine hF _ _ ⟨done ++ [q], rest, _, _, _, _, _, by rw [ep, List.append_assoc]; rfl, rfl, rfl, ?_⟩
      show Cell.dct _ _ :: (lsC _).set j _ = _
      congr 1
      unfold lsC
      rw [List.map_map, List.map_map]
      have em := map_put (f := Cell.lst ∘ fun y => (stepsQ s.m.length done y).map Stp.D') (g := Cell.lst ∘ fun y => (stepsQ s.m.length (done ++ [q]) y).map Stp.D') hj nd fun z hz => by
        show Cell.lst ((stepsQ s.m.length done z).map Stp.D') = Cell.lst ((stepsQ s.m.length (done ++ [q]) z).map Stp.D')
        rw [stepsQ_add, if_neg fun e => hz e.symm]
      rw [← em]
      congr 1
      show Cell.lst ((stepsQ s.m.length done (q.j, q.e)).map Stp.D' ++ [_]) = Cell.lst ((stepsQ s.m.length (done ++ [q]) (q.j, q.e)).map Stp.D')
      rw [stepsQ_add, if_pos rfl, List.map_append]; rfl
set_option maxHeartbeats 8000000 in
theorem ok_next_row (T : Tx K mg) : FnOk P w K mg base CX0 1 T.a_next_row T.d_next_row ["rows", "steps"] (spD K 1 2 S_next_row) := by
  refine fnD T.F_next_row sc_next_row fun cdv A outer s H E hr => ⟨_, (psd_cons (psd_set (i := 2) sc_next_row.nd (pd_len (pd_v 0) T.n_len)) (psd_one (psd_ret (pd_dcK (i := 1) (j := 3) rfl sc_next_row.nd (by kernel_rfl) (fun _ _ _ _ _ => pg_name (i := 3) sc_next_row.nd rfl (Or.inl rfl)) (fun _ _ _ _ _ => (pd_v 3)) (fun _ _ _ _ _ => (pd_min1 rfl (pd_addL (pd_lst (pds_cons (pd_gi T.c_NO_COST) pds_nil)) (pd_lcT (own := [("step", 4), ("begin", 5), ("long", 6), ("cost", 7)]) rfl sc_next_row.nd (pid_list (pd_dget hr (pd_v 1) (pd_v 3))) (by kernel_rfl) (fun _ _ _ _ _ => pg_tup rfl (pgs_cons (pg_name (i := 4) sc_next_row.nd rfl (Or.inl rfl)) (pgs_cons (pg_name (i := 5) sc_next_row.nd rfl (Or.inl rfl)) (pgs_cons (pg_name (i := 6) sc_next_row.nd rfl (Or.inl rfl)) (pgs_cons (pg_name (i := 7) sc_next_row.nd rfl (Or.inl rfl)) pgs_nil))))) (fun _ _ _ _ _ => (ptd_one (pdt_le (pd_v 6) (pd_v 2)))) (fun _ _ _ _ _ => (pd_add (pd_dget hr (pd_ix (pd_v 0) (pd_sub (pd_v 2) (pd_v 6))) (pd_v 5)) (pd_v 7))))) T.n_min)))))), ?_⟩
  rintro c ds Φ hc - ⟨s, b, n, rfl, rfl, hs, hb, hn, hΦ⟩
  have h5 : s.m.length ≤ 5 := tame_len (let_tame (n := 5) hs.m)
  have rl := rowsD_len s b n
  conv => whnf
  refine ⟨_, _, rfl, ?_⟩
  rw [show ((ordL s.m.length).map kyS).map kD = (ordL s.m.length).map fun y => D.str (sS y) from by rw [List.map_map]; rfl]
  refine dc_map2 (c := [.lst (rowsD s b n)]) (fun y => .str (sS y)) kyS (fun y => .int (rowF s b (n + 1) y)) (by show (okDs 1 (rowsD s b n) && true) = true; rw [ok_rows]; rfl) (ordL s.m.length) [] [] (fun y hy => ⟨rfl, fun ks acc Ψ hacc => ⟨fun h => h, fun h => ?_⟩⟩) (keys_nd (fun x hx => by have := (mem_ordL h5).mp hx; omega) (ordL_nd h5)) rfl (short (by rw [ordL_len]; show 0 + 2 * s.m.length ≤ _; omega)) ?_
  · have hy := (mem_ordL h5).mp hy
    conv => whnf
    refine ⟨by show 1 ≤ sizeLine; decide, ?_⟩
    conv => whnf
    refine ⟨_, _, kyS y, _, rfl, rfl, ky_look h5 hy, ?_⟩
    conv => whnf
    refine lcT_over (is := [4, 5, 6, 7]) (c := [.lst (rowsD s b n), .dct ks acc]) Stp.ds (fun t => decide (t.l ≤ n + 1)) (fun t => .int (getR (rowsF s b n) (n + 1 - t.l) t.x + (t.c : Int))) ?_ (stepsF s y) [] (fun t ht => ⟨rfl, fun ac Ψ' _ h' => ?_⟩) (fun t ht hg => ⟨rfl, fun ac Ψ' _ h' => ?_⟩) rfl (short (by have := stepsF_len hs y; show 0 + (stepsF s y).length ≤ _; omega)) ?_
    · have h2 : okDs 2 acc = true := okDs_up (n := 1) _ hacc
      show (okDs 2 (rowsD s b n) && (okDs 2 acc && true)) = true
      rw [ok_rows, h2]; rfl
    · conv => whnf
      show Ψ' (decide ((t.l : Int) ≤ ((rowsD s b n).length : Nat))) _
      rw [rl, show decide ((t.l : Int) ≤ ((n + 1 : Nat) : Int)) = decide (t.l ≤ n + 1) from decide_eq_decide.mpr (by omega)]
      exact h'
    · have hle : t.l ≤ n + 1 := of_decide_eq_true hg
      have hk := stp_ok hs hy ht
      conv => whnf
      rw [rl, rowsD_at s b (v := ((n + 1 : Nat) : Int) - t.l) (by omega) (by omega), show (((n + 1 : Nat) : Int) - (t.l : Nat)).toNat = n + 1 - t.l by omega]
      conv => whnf
      refine ⟨_, _, kyS t.x, _, rfl, rfl, row_at h5 hk.1, ?_⟩
      conv => whnf
      rw [rowsF_get s b (by omega)] at h'
      exact h'
    · have hlen := List.length_filter_le (fun t : Stp => decide (t.l ≤ n + 1)) (stepsF s y)
      have h9 := stepsF_len hs y
      conv => whnf
      refine ⟨short (by rw [List.nil_append, List.length_map]; show 1 + _ ≤ _; omega), ?_⟩
      conv => whnf
      refine ⟨NO :: ((stepsF s y).filter fun t => decide (t.l ≤ n + 1)).map fun t => getR (rowsF s b n) (n + 1 - t.l) t.x + (t.c : Int), ?_, by show 0 < _ + 1; omega, fun m hm hl => ?_⟩
      · rw [List.map_cons, List.map_map]; rfl
      · have e : rowF s b (n + 1) y = m := by
          rw [foldr_min hm hl, rowF_next]
          show (((stepsF s y).filter fun t => decide (t.l ≤ (rowsF s b n).length)).map fun t => getR (rowsF s b n) ((rowsF s b n).length - t.l) t.x + (t.c : Int)).foldr min NO = _
          rw [rowsF_len]
        rw [e] at h
        exact h
  · rw [List.nil_append, List.nil_append]
    have e : (ordL s.m.length).map (fun y => D.int (rowF s b (n + 1) y)) = ((ordL s.m.length).map (rowF s b (n + 1))).map .int := by rw [List.map_map]; rfl
    rw [e]
    conv => whnf
    exact hΦ
set_option maxHeartbeats 8000000 in
theorem ok_joined (T : Tx K mg) : FnOk P w K mg base CX0 1 T.a_joined T.d_joined ["steps"] (spD K 0 1 S_joined) := by
  refine fnD T.F_joined sc_joined fun cdv A outer s H E hr => ⟨_, (psd_cons (psd_set (i := 1) sc_joined.nd (pd_lstM pds_nil)) (psd_cons (psd_for PassesOwn.never rfl (pid_list (pd_v 0)) (pgd_name (i := 2) sc_joined.nd) (psd_one (psd_if (PDw.pt (pdw_and (pdt_truL (pd_v 1)) (pdw_and (pdt_val (pd_isi isi_int (.ty "int") (pd_v 2) (pe_bltn rfl T.n_int (by decide +kernel) rfl) T.n_isinstance)) (pdw_and1 (pdt_val (pd_isi isi_int (.ty "int") (pd_ix (pd_v 1) (pd_neg pd_int)) (pe_bltn rfl T.n_int (by decide +kernel) rfl) T.n_isinstance)))))) (psd_one (psd_augS (pd_v 1) (pd_neg pd_int) (pd_v 2))) (psd_one (psd_if (pdt_ne hr (pd_v 2) pd_int) (psd_one (psd_expr (pd_append (pd_v 1) (pd_v 2)))) psd_nil))))) (psd_one (psd_ret (pd_tuplec (pd_v 1) T.n_tuple))))), ?_⟩
  rintro c ds Φ hc - ⟨steps, rfl, hl, hst, hΦ⟩
  cases c with
  | cons _ _ => cases hc
  | nil =>
  conv => whnf
  refine ⟨by decide, ?_⟩
  conv => whnf
  refine forD_inv (fun ds ρ c => ∃ (acc : List D) (x : Option D), ρ = [some (.lst steps), some (.cell 0), x] ∧ c = [.lst acc] ∧ acc.length + ds.length ≤ 2000 ∧ (∀ d ∈ acc, stepS d) ∧ (∀ d ∈ ds, stepS d) ∧ joinF acc ds = joinF [] steps) ?_ ?_ _ _ _ ⟨[], none, rfl, rfl, by simpa using hl, fun d hd => absurd hd (by simp), hst, rfl⟩
  · rintro ρ c ⟨acc, x, rfl, rfl, hl, ha, -, e⟩
    have e : acc = joinF [] steps := e
    rw [← e] at hΦ
    conv => whnf
    refine ⟨rfl, ?_⟩
    conv => whnf
    exact ⟨okDs_of fun d hd => ok_stepD (stepS_D (ha d hd)), hΦ⟩
  · rintro d ds ρ c F hF ⟨acc, x, rfl, rfl, hl, ha, hd, e⟩
    have hd0 := hd d List.mem_cons_self
    have hds : ∀ y ∈ ds, stepS y := fun y hy => hd y (List.mem_cons_of_mem _ hy)
    have hl : acc.length + (ds.length + 1) ≤ 2000 := hl
    rcases List.eq_nil_or_concat acc with rfl | ⟨q, l, e0⟩
    · cases d <;> first | exact hd0.elim | skip
      · rename_i n
        conv => whnf
        rw [join_int (fun q m z => by simp at z)] at e
        by_cases h0 : n = 0
        · rw [show (if true = true then !decide (n = 0) else decide (n = 0)) = false by simp [h0]]
          rw [if_pos h0] at e
          conv => whnf
          exact hF _ _ ⟨_, _, rfl, rfl, by first | omega | (simp only [List.length_append, List.length_cons, List.length_nil] at hl ⊢; omega), ha, hds, e⟩
        · rw [show (if true = true then !decide (n = 0) else decide (n = 0)) = true by simp [h0]]
          rw [if_neg h0] at e
          conv => whnf
          refine ⟨0, rfl, ⟨_, rfl⟩, ?_⟩
          conv => whnf
          refine ⟨_, rfl, Nat.lt_of_lt_of_le (show _ < 60000 by first | omega | (simp only [List.length_append, List.length_cons, List.length_nil] at hl ⊢; omega)) (short (Nat.le_refl _)), ?_⟩
          conv => whnf
          exact hF _ _ ⟨_, _, rfl, rfl, by first | omega | (simp only [List.length_append, List.length_cons, List.length_nil] at hl ⊢; omega), fun y hy => (List.mem_append.mp hy).elim (ha y) (fun z => by
            have z := List.mem_singleton.mp z
            subst z
            first | exact hd0 | trivial), hds, e⟩

      · conv => whnf
        refine ⟨.str _, .int 0, rfl, rfl, shaped_8 hd0, rfl, ?_⟩
        conv => whnf
        refine ⟨0, rfl, ⟨_, rfl⟩, ?_⟩
        conv => whnf
        refine ⟨_, rfl, Nat.lt_of_lt_of_le (show _ < 60000 by first | omega | (simp only [List.length_append, List.length_cons, List.length_nil] at hl ⊢; omega)) (short (Nat.le_refl _)), ?_⟩
        conv => whnf
        exact hF _ _ ⟨_, _, rfl, rfl, by first | omega | (simp only [List.length_append, List.length_cons, List.length_nil] at hl ⊢; omega), fun y hy => (List.mem_append.mp hy).elim (ha y) (fun z => by
          have z := List.mem_singleton.mp z
          subst z
          exact hd0), hds, e⟩

    · rw [List.concat_eq_append] at e0
      subst e0
      have hl0 := ha l (by simp)
      conv => whnf
      rw [show (!(q ++ [l]).isEmpty) = true by simp]
      cases d <;> first | exact hd0.elim | skip
      · rename_i n
        conv => whnf
        refine ⟨_, true, rfl, rfl, ?_⟩
        conv => whnf
        rw [at_last]
        conv => whnf
        cases l with
        | int m =>
          refine ⟨_, true, rfl, rfl, ?_⟩
          conv => whnf
          refine ⟨0, -1, _, q.length, m, rfl, rfl, rfl, at_last q _, ix_last q _, ?_⟩
          conv => whnf
          refine ⟨n, rfl, rfl, ?_⟩
          rw [join_add] at e
          conv => whnf
          refine hF _ _ ⟨q ++ [.int (m + n)], _, rfl, ?_, by simp only [List.length_append, List.length_cons, List.length_nil] at hl ⊢; omega, fun y hy => (List.mem_append.mp hy).elim (fun z => ha y (List.mem_append_left _ z)) (fun z => by
            have z := List.mem_singleton.mp z
            subst z
            first | exact hd0 | trivial), hds, e⟩
          show [Cell.lst ((q ++ [D.int m]).set q.length (.int (m + n)))] = _
          rw [List.set_append_right _ _ (Nat.le_refl _), Nat.sub_self]; rfl
        | str t =>
          refine ⟨_, false, rfl, rfl, ?_⟩
          conv => whnf
          rw [join_int (fun q' m z => by have := (List.append_inj' z rfl).2; cases this)] at e
          by_cases h0 : n = 0
          · rw [show (if true = true then !decide (n = 0) else decide (n = 0)) = false by simp [h0]]
            rw [if_pos h0] at e
            conv => whnf
            exact hF _ _ ⟨_, _, rfl, rfl, by first | omega | (simp only [List.length_append, List.length_cons, List.length_nil] at hl ⊢; omega), ha, hds, e⟩
          · rw [show (if true = true then !decide (n = 0) else decide (n = 0)) = true by simp [h0]]
            rw [if_neg h0] at e
            conv => whnf
            refine ⟨0, rfl, ⟨_, rfl⟩, ?_⟩
            conv => whnf
            refine ⟨_, rfl, Nat.lt_of_lt_of_le (show _ < 60000 by first | omega | (simp only [List.length_append, List.length_cons, List.length_nil] at hl ⊢; omega)) (short (Nat.le_refl _)), ?_⟩
            conv => whnf
            exact hF _ _ ⟨_, _, rfl, rfl, by first | omega | (simp only [List.length_append, List.length_cons, List.length_nil] at hl ⊢; omega), fun y hy => (List.mem_append.mp hy).elim (ha y) (fun z => by
              have z := List.mem_singleton.mp z
              subst z
              first | exact hd0 | trivial), hds, e⟩

        | _ => exact hl0.elim
      · conv => whnf
        refine ⟨_, false, rfl, rfl, ?_⟩
        conv => whnf
        refine ⟨.str _, .int 0, rfl, rfl, shaped_8 hd0, rfl, ?_⟩
        conv => whnf
        refine ⟨0, rfl, ⟨_, rfl⟩, ?_⟩
        conv => whnf
        refine ⟨_, rfl, Nat.lt_of_lt_of_le (show _ < 60000 by first | omega | (simp only [List.length_append, List.length_cons, List.length_nil] at hl ⊢; omega)) (short (Nat.le_refl _)), ?_⟩
        conv => whnf
        exact hF _ _ ⟨_, _, rfl, rfl, by first | omega | (simp only [List.length_append, List.length_cons, List.length_nil] at hl ⊢; omega), fun y hy => (List.mem_append.mp hy).elim (ha y) (fun z => by
          have z := List.mem_singleton.mp z
          subst z
          exact hd0), hds, e⟩

set_option maxHeartbeats 8000000 in
theorem ok_Prices___init__ (T : Tx K mg) : FnOk P w K mg base CX0 5 T.a_Prices___init__ T.d_Prices___init__ ["self", "borders", "begin"] (spD K 1 3 (S_Prices___init__ T.C_Borders T.C_Prices)) := by
  refine fnD T.F_Prices___init__ sc_Prices___init__ fun cdv A outer s H E hr => ⟨_, (psd_cons (psd_stf T.cl_Prices T.na_period (pd_v 0) (pd_len (pd_prop T.cl_Borders T.P_Borders_signs (ok_Borders_signs T) (hr.mono (by decide)) T.b_Borders_signs pass0 (pd_v 1)) T.n_len)) (psd_cons (psd_stf T.cl_Prices T.na_steps (pd_v 0) (pd_callP (ok_steps_into T) (hr.mono (by decide)) T.g_steps_into T.F_steps_into.kp T.b_steps_into pass0 (pds_cons (pd_v 1) pds_nil))) (psd_cons (psd_set (i := 3) sc_Prices___init__.nd (pd_lstM (pds_cons (pd_dc (i := 6) rfl sc_Prices___init__.nd (pid_tup (pd_prop T.cl_Borders T.P_Borders_states (ok_Borders_states T) (hr.mono (by decide)) T.b_Borders_states pass0 (pd_v 1))) (by kernel_rfl) (fun _ _ _ _ _ => pg_name (i := 6) sc_Prices___init__.nd rfl (Or.inl rfl)) (fun _ _ _ _ _ => ptd_nil) (fun _ _ _ _ _ => (pd_v 6)) (fun _ _ _ _ _ => (pd_if (pdt_eq hr (pd_v 6) (pd_v 2)) pd_int (pd_gi T.c_NO_COST)))) pds_nil))) (psd_cons (psd_set (i := 4) sc_Prices___init__.nd pd_int) (psd_cons (psd_while PassesOwn.never (pdt_lt (pd_v 4) (pd_gi T.c_MOST_LONG)) (psd_cons (psd_expr (pd_append (pd_v 3) (pd_callM (ok_next_row T) (hr.mono (by decide)) T.g_next_row T.F_next_row.kp T.b_next_row pass0 (pds_cons (pd_v 3) (pds_cons (pd_fld T.cl_Prices T.na_steps (pd_v 0)) pds_nil))))) (psd_cons (psd_set (i := 5) sc_Prices___init__.nd (pd_and (pd_gt (pd_len (pd_v 3) T.n_len) (pd_fld T.cl_Prices T.na_period (pd_v 0))) (pd_one (pd_eqDI hr (pd_ix (pd_v 3) (pd_neg pd_int)) (pd_ix (pd_v 3) (pd_sub (pd_neg pd_int) (pd_fld T.cl_Prices T.na_period (pd_v 0)))))))) (psd_one (psd_set (i := 4) sc_Prices___init__.nd (pd_if (pdt_val (pd_v 5)) (pd_add (pd_v 4) pd_int) pd_int)))))) (psd_cons (psd_stf T.cl_Prices T.na_since (pd_v 0) (pd_sub (pd_sub (pd_len (pd_v 3) T.n_len) (pd_gi T.c_MOST_LONG)) (pd_fld T.cl_Prices T.na_period (pd_v 0)))) (psd_one (psd_stf T.cl_Prices T.na_costs (pd_v 0) (pd_sl (pd_v 3) po_no (po_so (pd_add (pd_fld T.cl_Prices T.na_since (pd_v 0)) (pd_fld T.cl_Prices T.na_period (pd_v 0))))))))))))), ?_⟩
  rintro c ds Φ hc - ⟨s, zs, b, N, rfl, rfl, hs, hb, hN, hΦ⟩
  have h5 : s.m.length ≤ 5 := tame_len (let_tame (n := 5) hs.m)
  have okb := b_ok T.C_Borders s zs
  have hNg := ends_ge hN
  conv => whnf
  refine ⟨⟨_, _, rfl⟩, okb, _, _, _, _, _, _, rfl, rfl, ?_⟩
  conv => whnf
  refine ⟨short (by omega), ?_⟩
  conv => whnf
  refine ⟨0, _, _, rfl, rfl, by show (0 : Nat) < 1000; decide, ?_⟩
  conv => whnf
  refine ⟨rfl, okb, s, zs, rfl, hs, ?_⟩
  conv => whnf
  refine ⟨0, _, _, rfl, rfl, by show (1 : Nat) < 1000; decide, ?_⟩
  conv => whnf
  refine ⟨⟨_, _, rfl⟩, okb, _, _, _, _, _, _, rfl, (by show okDs 0 ((stL s.m.length).map D.str) = true; exact okDs_map (fun _ => rfl) _), ?_⟩
  conv => whnf
  rw [ordS_st, List.map_map]
  refine dc_map2 (c := [.obj T.C_Prices ["period", "steps"] [.int (s.m.length : Nat), stepsD s]]) (fun x : Nat × Bool => .str (sS x)) kyS (fun x => .int (row0 b x)) ?_ (ordS s.m.length) [] [] (fun x hx => ⟨rfl, fun ks acc Ψ hacc => ⟨fun h => h, fun h => ?_⟩⟩) (keys_nd (fun x hx => by have := mem_ordS.mp hx; omega) (ordS_nd h5)) rfl (short (by rw [ordS_len]; show 0 + 2 * s.m.length ≤ _; omega)) ?_
  · show ((true && (okD 1 (stepsD s) && true)) && true) = true
    rw [ok_steps]; rfl
  · have hx := mem_ordS.mp hx
    conv => whnf
    by_cases e : x = b
    · rw [show (if false = true then !decide (sS x = sS b) else decide (sS x = sS b)) = true by rw [e]; simp]
      conv => whnf
      rw [show row0 b x = 0 from if_pos e] at h
      exact h
    · rw [show (if false = true then !decide (sS x = sS b) else decide (sS x = sS b)) = false from decide_eq_false fun z => e (sS_inj (show x.1 < 10 by omega) (show b.1 < 10 by omega) z)]
      conv => whnf
      rw [show row0 b x = NO from if_neg e] at h
      exact h
  rw [List.nil_append, List.nil_append]
  conv => whnf
  refine ⟨by show 1 ≤ sizeLine; decide, ?_⟩
  conv => whnf
  refine ⟨fun mm ρ c => ∃ (n : Nat) (x5 : Option D), n ≤ N ∧ mm = N - n ∧ ρ = [some (.cell 0), some (bD T.C_Borders s zs), some (.str (sS b)), some (.cell 1), some (.int (againF s b n : Nat)), x5, none] ∧ c = [.obj T.C_Prices ["period", "steps"] [.int (s.m.length : Nat), stepsD s], .lst (rowsD s b n)], ⟨N, 0, none, Nat.zero_le _, rfl, rfl, ?_⟩, ?_⟩
  · rw [rows0]; rfl
  rintro mm ρ c ⟨n, x5, hn, rfl, rfl, rfl⟩
  conv => whnf
  by_cases hnN : n = N
  · subst hnN
    rw [show (fun i j : Int => decide (i < j)) ((againF s b n : Nat) : Int) 6 = false from decide_eq_false (by rw [hN.1]; decide)]
    conv => whnf
    refine ⟨rfl, _, rfl, ?_⟩
    conv => whnf
    refine ⟨0, _, _, rfl, rfl, by show (2 : Nat) < 1000; decide, ?_⟩
    conv => whnf
    refine ⟨rfl, _, rfl, ?_⟩
    conv => whnf
    refine ⟨rfl, _, rfl, ?_⟩
    conv => whnf
    refine ⟨0, _, _, rfl, rfl, by show (3 : Nat) < 1000; decide, ?_⟩
    rw [rowsD_len, show ((n + 1 : Nat) : Int) - 6 - (s.m.length : Nat) + (s.m.length : Nat) = ((n - 5 : Nat) : Int) by omega, show ((n + 1 : Nat) : Int) - 6 - (s.m.length : Nat) = (n : Int) - 5 - (s.m.length : Nat) by omega, cut_to]
    conv => whnf
    refine ⟨?_, rfl, hΦ⟩
    show ((true && (okD 1 (stepsD s) && (true && (okDs 1 ((rowsD s b n).take (n - 5)) && true)))) && true) = true
    rw [ok_steps, okDs_of (n := 1) (ds := (rowsD s b n).take (n - 5)) fun d hd => by
      obtain ⟨k, _, rfl⟩ := List.mem_map.mp (List.mem_of_mem_take hd)
      exact ok_row _ _]
    rfl
  · have hlt : n < N := by omega
    have h6 := hN.2.2 n hlt
    rw [show (fun i j : Int => decide (i < j)) ((againF s b n : Nat) : Int) 6 = true from decide_eq_true (by omega)]
    conv => whnf
    refine ⟨_, fun ρ' c' h => ⟨N - (n + 1), by omega, h⟩, ?_⟩
    conv => whnf
    refine ⟨1, rfl, ⟨_, rfl⟩, ?_⟩
    conv => whnf
    refine ⟨rfl, _, rfl, ?_⟩
    conv => whnf
    have okr : okC 0 (.lst (rowsD s b n)) = true := ok_rows s b n
    refine ⟨rfl, _, rfl, okr, ?_, s, b, n, rfl, rfl, hs, hb, by have := hN.2.1; omega, ?_⟩
    · show (okD 0 (stepsD s) && true) = true
      rw [ok_steps]; rfl
    conv => whnf
    refine ⟨okr, ok_row _ _, _, rfl, ?_, ?_⟩
    · rw [rowsD_len]
      exact Nat.lt_of_lt_of_le (show n + 1 < 60000 by have := hN.2.1; omega) (short (Nat.le_refl _))
    rw [← rowsD_add]
    conv => whnf
    refine ⟨rfl, _, rfl, ?_⟩
    conv => whnf
    have ea := again_eq s b n
    by_cases h : s.m.length ≤ n + 1
    · rw [show (fun i j : Int => decide (j < i)) (((rowsD s b (n + 1)).length : Nat) : Int) (s.m.length : Nat) = true from decide_eq_true (by rw [rowsD_len]; omega)]
      rw [decide_eq_true h, Bool.true_and] at ea
      conv => whnf
      have e1 : L2.atI (rowsD s b (n + 1)) (-1) = some (rowD (ordK s.m.length (n + 1)) (rowF s b (n + 1))) := rowsD_neg s b (k := 0) (Nat.zero_le _)
      rw [e1]
      conv => whnf
      refine ⟨rfl, _, rfl, ?_⟩
      conv => whnf
      rw [rowsD_neg s b h]
      conv => whnf
      refine ⟨_, _, _, _, rfl, rfl, by rw [List.length_map, List.length_map, ordK_len, ordK_len], fun k hk => ?_, ?_⟩
      · obtain ⟨x, hx, rfl⟩ := List.mem_map.mp hk
        exact ⟨_, lookI_ky ((mem_ordK h5).mpr ((mem_ordK h5).mp hx)) fun y hy => by have := (mem_ordK h5).mp hy; omega⟩
      rw [same_eqR h5]
      cases he : eqR s.m.length (rowF s b (n + 1)) (rowF s b (n + 1 - s.m.length)) with
      | true =>
        rw [he, if_pos rfl] at ea
        conv => whnf
        exact ⟨n + 1, _, by omega, rfl, by rw [ea]; rfl, rfl⟩
      | false =>
        rw [he, if_neg (by decide)] at ea
        conv => whnf
        exact ⟨n + 1, _, by omega, rfl, by rw [ea]; rfl, rfl⟩
    · rw [show (fun i j : Int => decide (j < i)) (((rowsD s b (n + 1)).length : Nat) : Int) (s.m.length : Nat) = false from decide_eq_false (by rw [rowsD_len]; omega)]
      rw [decide_eq_false h, Bool.false_and, if_neg (by decide)] at ea
      conv => whnf
      exact ⟨n + 1, _, by omega, rfl, by rw [ea]; rfl, rfl⟩
set_option maxHeartbeats 8000000 in
theorem ok_Prices_kept_length (T : Tx K mg) : FnOk P w K mg base CX0 1 T.a_Prices_kept_length T.d_Prices_kept_length ["self", "length"] (spD K 0 2 (S_Prices_kept_length T.C_Prices)) := by
  refine fnD T.F_Prices_kept_length sc_Prices_kept_length fun cdv A outer s H E hr => ⟨_, (psd_cons (psd_if (pdt_lt (pd_v 1) (pd_len (pd_fld T.cl_Prices T.na_costs (pd_v 0)) T.n_len)) (psd_one (psd_ret (pd_v 1))) psd_nil) (psd_one (psd_ret (pd_add (pd_fld T.cl_Prices T.na_since (pd_v 0)) (pd_mod (pd_sub (pd_v 1) (pd_fld T.cl_Prices T.na_since (pd_v 0))) (pd_fld T.cl_Prices T.na_period (pd_v 0))))))), ?_⟩
  rintro c ds Φ hc - ⟨s, b, N, L, rfl, hs, hb, hN, hL, hΦ⟩
  cases c with
  | cons _ _ => cases hc
  | nil =>
  have hp : 0 < s.m.length := by omega
  conv => whnf
  refine ⟨rfl, _, rfl, ?_⟩
  conv => whnf
  have hg := ends_ge hN
  have hl := costs_len s b N
  by_cases h : L < (N : Int) - 5
  · rw [show (fun i j : Int => decide (i < j)) L ((((rowsD s b N).take (N - 5)).length : Nat) : Int) = true from decide_eq_true (by rw [hl]; omega)]
    rw [show keptF s N L = L from if_pos h] at hΦ
    conv => whnf
    exact hΦ
  · rw [show (fun i j : Int => decide (i < j)) L ((((rowsD s b N).take (N - 5)).length : Nat) : Int) = false from decide_eq_false (by rw [hl]; omega)]
    rw [show keptF s N L = ((N : Int) - 5 - s.m.length) + (L - ((N : Int) - 5 - s.m.length)) % s.m.length from if_neg h] at hΦ
    conv => whnf
    refine ⟨rfl, _, rfl, ?_⟩
    conv => whnf
    refine ⟨rfl, _, rfl, ?_⟩
    conv => whnf
    refine ⟨rfl, _, rfl, ?_⟩
    conv => whnf
    refine ⟨by omega, ?_⟩
    conv => whnf
    exact hΦ
set_option maxHeartbeats 8000000 in
theorem ok_Prices_cost (T : Tx K mg) : FnOk P w K mg base CX0 2 T.a_Prices_cost T.d_Prices_cost ["self", "length", "end"] (spD K 0 3 (S_Prices_cost T.C_Prices)) := by
  refine fnD T.F_Prices_cost sc_Prices_cost fun cdv A outer s H E hr => ⟨_, (psd_one (psd_ret (pd_dget hr (pd_ix (pd_fld T.cl_Prices T.na_costs (pd_v 0)) (pd_meth T.cl_Prices T.f_Prices_kept_length T.k_Prices_kept_length T.F_Prices_kept_length.kp (ok_Prices_kept_length T) (hr.mono (by decide)) T.b_Prices_kept_length pass0 (pd_v 0) (pds_cons (pd_v 1) pds_nil))) (pd_v 2)))), ?_⟩
  rintro c ds Φ hc - ⟨s, b, N, L, x, rfl, hs, hb, hx, hN, hL, hΦ⟩
  cases c with
  | cons _ _ => cases hc
  | nil =>
  have h5 : s.m.length ≤ 5 := tame_len (let_tame (n := 5) hs.m)
  conv => whnf
  refine ⟨rfl, _, rfl, ?_⟩
  conv => whnf
  refine ⟨_, _, rfl, rfl, ?_⟩
  conv => whnf
  refine ⟨rfl, by show (okD 0 (prD T.C_Prices s b N) && (true && true)) = true; rw [ok_pr]; rfl, s, b, N, L, rfl, hs, hb, hN, hL, ?_⟩
  conv => whnf
  have hk := kept_in hN (by omega) hL
  rw [costs_at s b hk.1 hk.2]
  conv => whnf
  refine ⟨_, _, kyS x, _, rfl, rfl, row_at h5 hx, ?_⟩
  conv => whnf
  exact hΦ

end
end K20

namespace K20
open PySem PySem.Spec PyProof.Rows L2 Cw
theorem at_hd (x : D) (r : List D) : L2.atI (x :: r) 0 = some x := by
  unfold L2.atI L2.ixN
  rw [if_pos (by omega), if_pos (by rw [List.length_cons]; omega)]; rfl
theorem foldr_in : ∀ L : List Int, L.foldr min NO = NO ∨ L.foldr min NO ∈ L
  | [] => .inl rfl
  | a :: L => by
    rcases foldr_in L with h | h
    · show min a (L.foldr min NO) = NO ∨ min a (L.foldr min NO) ∈ a :: L
      rw [h]
      rcases Int.le_total a NO with e | e
      · rw [Int.min_eq_left e]; exact .inr List.mem_cons_self
      · rw [Int.min_eq_right e]; exact .inl rfl
    · show min a (L.foldr min NO) = NO ∨ min a (L.foldr min NO) ∈ a :: L
      rcases Int.le_total a (L.foldr min NO) with e | e
      · rw [Int.min_eq_left e]; exact .inr List.mem_cons_self
      · rw [Int.min_eq_right e]; exact .inr (List.mem_cons_of_mem _ h)
theorem last_in {s : Sp} {b : Nat × Bool} {k : Nat} {y : Nat × Bool} {t : Stp} : t ∈ lastF s b k y ↔ t ∈ stepsF s y ∧ t.l ≤ k ∧ rowF s b (k - t.l) t.x + (t.c : Int) = rowF s b k y := by
  unfold lastF
  rw [List.mem_filter, Bool.and_eq_true_iff, decide_eq_true_iff, decide_eq_true_iff]
theorem last_ne {s : Sp} (b : Nat × Bool) {k : Nat} {y : Nat × Bool} (hs : s.ok) (hy : y.1 < s.m.length) (hk : 0 < k) (h : rowF s b k y < NO) : ∃ t r, lastF s b k y = t :: r := by
  obtain ⟨n, rfl⟩ : ∃ n, k = n + 1 := ⟨k - 1, by omega⟩
  have e := rowF_next s b n
  have e : rowF s b (n + 1) y = (((stepsF s y).filter fun t => decide (t.l ≤ (rowsF s b n).length)).map fun t => getR (rowsF s b n) ((rowsF s b n).length - t.l) t.x + (t.c : Int)).foldr min NO := by rw [e]; rfl
  rcases foldr_in (((stepsF s y).filter fun t => decide (t.l ≤ (rowsF s b n).length)).map fun t => getR (rowsF s b n) ((rowsF s b n).length - t.l) t.x + (t.c : Int)) with z | z
  · rw [z] at e; omega
  · rw [← e] at z
    obtain ⟨t, ht, hv⟩ := List.mem_map.mp z
    obtain ⟨h1, h2⟩ := List.mem_filter.mp ht
    have h2 := of_decide_eq_true h2
    rw [rowsF_len] at h2 hv
    have h3 := (stp_ok hs hy h1).2.1
    rw [rowsF_get s b (by omega)] at hv
    have hm : t ∈ lastF s b (n + 1) y := last_in.mpr ⟨h1, h2, hv⟩
    cases hl : lastF s b (n + 1) y with
    | nil => rw [hl] at hm; cases hm
    | cons t r => exact ⟨t, r, rfl⟩
theorem fill_fuel {s : Sp} (b : Nat × Bool) (hs : s.ok) : ∀ (f g k : Nat) (y : Nat × Bool), y.1 < s.m.length → k ≤ f → k ≤ g → fillF s b f k y = fillF s b g k y
  | 0, 0, _, _, _, _, _ => rfl
  | 0, g + 1, k, y, hy, h, _ => by
    obtain rfl : k = 0 := by omega
    rfl
  | f + 1, 0, k, y, hy, _, h => by
    obtain rfl : k = 0 := by omega
    rfl
  | f + 1, g + 1, k, y, hy, h, h' => by
    show (if k = 0 then [] else _) = (if k = 0 then [] else _)
    by_cases hk : k = 0
    · rw [if_pos hk, if_pos hk]
    · rw [if_neg hk, if_neg hk]
      cases hl : lastF s b k y with
      | nil => rfl
      | cons t r =>
        obtain ⟨h1, h2, _⟩ := last_in.mp (show t ∈ lastF s b k y by rw [hl]; exact List.mem_cons_self)
        have h3 := stp_ok hs hy h1
        show t.d :: fillF s b f (k - t.l) t.x = t.d :: fillF s b g (k - t.l) t.x
        rw [fill_fuel b hs f g (k - t.l) t.x h3.1 (by omega) (by omega)]
theorem fill_step {s : Sp} {b : Nat × Bool} {k : Nat} {y : Nat × Bool} {t : Stp} {r : List Stp} (hs : s.ok) (hy : y.1 < s.m.length) (hk : 0 < k) (hl : lastF s b k y = t :: r) : fillF s b k k y = t.d :: fillF s b (k - t.l) (k - t.l) t.x := by
  obtain ⟨n, rfl⟩ : ∃ n, k = n + 1 := ⟨k - 1, by omega⟩
  obtain ⟨h1, h2, _⟩ := last_in.mp (show t ∈ lastF s b (n + 1) y by rw [hl]; exact List.mem_cons_self)
  have h3 := stp_ok hs hy h1
  show (if n + 1 = 0 then [] else match lastF s b (n + 1) y with | t :: _ => t.d :: fillF s b n (n + 1 - t.l) t.x | [] => []) = _
  rw [if_neg (by omega), hl]
  show t.d :: fillF s b n (n + 1 - t.l) t.x = _
  rw [fill_fuel b hs n (n + 1 - t.l) (n + 1 - t.l) t.x h3.1 (by omega) (Nat.le_refl _)]
theorem join_ok : ∀ (ds acc : List D), (∀ d ∈ acc, stepS d) → (∀ d ∈ ds, stepS d) → ∀ d ∈ joinF acc ds, stepS d
  | [], acc, ha, _ => ha
  | d :: ds, acc, ha, hd => by
    have h1 := hd d List.mem_cons_self
    have h2 : ∀ x ∈ ds, stepS x := fun x hx => hd x (List.mem_cons_of_mem _ hx)
    cases d <;> first | exact h1.elim | skip
    · rename_i n
      by_cases e : ∃ q m, acc = q ++ [.int m]
      · obtain ⟨q, m, rfl⟩ := e
        rw [join_add]
        refine join_ok ds _ (fun x hx => ?_) h2
        rcases List.mem_append.mp hx with hx | hx
        · exact ha x (List.mem_append.mpr (.inl hx))
        · rw [List.mem_singleton.mp hx]; trivial
      · rw [join_int fun q m z => e ⟨q, m, z⟩]
        split
        · exact join_ok ds acc ha h2
        · refine join_ok ds _ (fun x hx => ?_) h2
          rcases List.mem_append.mp hx with hx | hx
          · exact ha x hx
          · rw [List.mem_singleton.mp hx]; trivial
    · rename_i t
      refine join_ok ds (acc ++ [.str t]) (fun x hx => ?_) h2
      rcases List.mem_append.mp hx with hx | hx
      · exact ha x hx
      · rw [List.mem_singleton.mp hx]; exact h1
theorem lc_over {α : Type} {i : Nat} {te : TD} {ρ : Cw.Env} {c : List Cell} {Φ : List D → List Cell → Prop} (tu : α → D) (f : α → D) (hc : okCs c.length c = true) (xs : List α)
    (he : ∀ a ∈ xs, okD c.length (f a) = true ∧ ∀ acc (Ψ : D → List Cell → Prop), okDs c.length acc = true → Ψ (f a) (c ++ [.lst acc]) → te (ρ.set i (some (tu a))) (c ++ [.lst acc]) Ψ) (hl : xs.length ≤ sizeLine) (q : Φ (xs.map f) c) : lcD i dYes te (xs.map tu) [] ρ c Φ := by
  have key : ∀ (xs : List α) (acc : List D), (∀ a ∈ xs, okD c.length (f a) = true ∧ ∀ acc (Ψ : D → List Cell → Prop), okDs c.length acc = true → Ψ (f a) (c ++ [.lst acc]) → te (ρ.set i (some (tu a))) (c ++ [.lst acc]) Ψ) → okDs c.length acc = true → acc.length + xs.length ≤ sizeLine → Φ (acc ++ xs.map f) c → lcD i dYes te (xs.map tu) acc ρ c Φ := by
    intro xs
    induction xs with
    | nil => intro acc _ ha _ q; exact ⟨hc, ha, by simpa using q⟩
    | cons a xs ih =>
      intro acc he ha hl q
      have hl' : acc.length + (xs.length + 1) ≤ sizeLine := hl
      obtain ⟨h1, h2⟩ := he a List.mem_cons_self
      show te (ρ.set i (some (tu a))) (c ++ [.lst acc]) fun y c3 => acc.length < sizeLine ∧ inner c.length acc y c3 fun c4 => lcD i dYes te (xs.map tu) (acc ++ [y]) ρ c4 Φ
      refine h2 acc _ ha ⟨by omega, inner_same ?_⟩
      refine ih _ (fun x hx => he x (List.mem_cons_of_mem _ hx)) (okDs_app ha (okDs_one h1)) (by rw [List.length_append]; show acc.length + 1 + xs.length ≤ _; omega) ?_
      rw [List.append_assoc]; exact q
  exact key xs [] he rfl (by simpa using hl) (by simpa using q)
theorem sp_one' {s : Sp} (hs : s.ok) : 1 ≤ s.m.length := by
  have := of_decide_eq_true (Bool.and_eq_true_iff.mp (show (decide _ && s.m.cps.toList.all lower) = true from hs.m)).1
  omega
section
variable {P : Program} {w : World} {K : PySem.W.Frag} {mg : Str → Option Value} {base : Heap}
set_option maxHeartbeats 8000000 in
theorem ok_Prices_last_step (T : Tx K mg) : FnOk P w K mg base CX0 1 T.a_Prices_last_step T.d_Prices_last_step ["self", "length", "end"] (spD K 0 3 (S_Prices_last_step T.C_Prices)) := by
  refine fnD T.F_Prices_last_step sc_Prices_last_step fun cdv A outer s H E hr => ⟨_, (psd_cons (psd_set (i := 3) sc_Prices_last_step.nd (pd_dget hr (pd_ix (pd_fld T.cl_Prices T.na_costs (pd_v 0)) (pd_v 1)) (pd_v 2))) (psd_one (psd_ret (pd_ix (pd_lcT (own := [("step", 4), ("begin", 5), ("long", 6), ("more", 7)]) rfl sc_Prices_last_step.nd (pid_list (pd_dget hr (pd_fld T.cl_Prices T.na_steps (pd_v 0)) (pd_v 2))) (by kernel_rfl) (fun _ _ _ _ _ => pg_tup rfl (pgs_cons (pg_name (i := 4) sc_Prices_last_step.nd rfl (Or.inl rfl)) (pgs_cons (pg_name (i := 5) sc_Prices_last_step.nd rfl (Or.inl rfl)) (pgs_cons (pg_name (i := 6) sc_Prices_last_step.nd rfl (Or.inl rfl)) (pgs_cons (pg_name (i := 7) sc_Prices_last_step.nd rfl (Or.inl rfl)) pgs_nil))))) (fun _ _ _ _ _ => (ptd_one (PDw.pt (pdw_and (pdt_le (pd_v 6) (pd_v 1)) (pdw_and1 (pdt_eq hr (pd_add (pd_dget hr (pd_ix (pd_fld T.cl_Prices T.na_costs (pd_v 0)) (pd_sub (pd_v 1) (pd_v 6))) (pd_v 5)) (pd_v 7)) (pd_v 3))))))) (fun _ _ _ _ _ => (pd_tup (pds_cons (pd_v 4) (pds_cons (pd_v 5) (pds_cons (pd_v 6) pds_nil)))))) pd_int)))), ?_⟩
  rintro c ds Φ hc - ⟨s, b, N, k, y, t, r, rfl, hs, hb, hy, hN, hk0, hk, hl, hΦ⟩
  cases c with
  | cons _ _ => cases hc
  | nil =>
  have h5 : s.m.length ≤ 5 := tame_len (let_tame (n := 5) hs.m)
  conv => whnf
  refine ⟨rfl, _, rfl, ?_⟩
  conv => whnf
  rw [costs_at s b (N := N) (v := (k : Nat)) (by omega) (by omega)]
  conv => whnf
  refine ⟨_, _, kyS y, _, rfl, rfl, row_at h5 hy, ?_⟩
  conv => whnf
  refine ⟨rfl, _, rfl, ?_⟩
  conv => whnf
  refine ⟨_, _, kyS y, _, rfl, rfl, ky_look h5 hy, ?_⟩
  conv => whnf
  refine lcT_over (is := [4, 5, 6, 7]) (c := []) Stp.ds (fun t => decide (t.l ≤ k) && decide (rowF s b (k - t.l) t.x + (t.c : Int) = rowF s b k y)) (fun t => .tup [t.d, .str (sS t.x), .int (t.l : Nat)]) rfl (stepsF s y) [] (fun t ht => ⟨rfl, fun ac Ψ' _ h' => ?_⟩) (fun t ht hg => ⟨(by show (okDs 0 [t.d, .str (sS t.x), .int (t.l : Nat)]) = true; show (okD 0 t.d && true) = true; rw [ok_stepD (stp_d ht)]; rfl), fun ac Ψ' _ h' => ?_⟩) rfl (short (by have := stepsF_len hs y; show 0 + (stepsF s y).length ≤ _; omega)) ?_
  · have hq := stp_ok hs hy ht
    conv => whnf
    by_cases e : t.l ≤ k
    · rw [show (fun i j : Int => decide (j ≤ i)) ((k : Nat) : Int) (t.l : Nat) = true from decide_eq_true (by omega)]
      conv => whnf
      refine ⟨rfl, _, rfl, ?_⟩
      conv => whnf
      rw [costs_at s b (N := N) (v := (k : Int) - (t.l : Nat)) (by omega) (by omega), show ((k : Int) - (t.l : Nat)).toNat = k - t.l by omega]
      conv => whnf
      refine ⟨_, _, kyS t.x, _, rfl, rfl, row_at h5 hq.1, ?_⟩
      conv => whnf
      rw [decide_eq_true e, Bool.true_and] at h'
      exact h'
    · rw [show (fun i j : Int => decide (j ≤ i)) ((k : Nat) : Int) (t.l : Nat) = false from decide_eq_false (by omega)]
      rw [decide_eq_false e, Bool.false_and] at h'
      exact h'
  · conv => whnf
    exact ⟨by show 3 ≤ sizeLine; decide, h'⟩
  · rw [List.nil_append, show List.filter _ _ = t :: r from hl]
    have hd : stepD t.d := stp_d (s := s) (y := y) (List.mem_filter.mp (show t ∈ lastF s b k y by rw [hl]; exact List.mem_cons_self)).1
    conv => whnf
    rw [show L2.atI (List.map (fun t : Stp => D.tup [t.d, D.str (sS t.x), D.int (t.l : Nat)]) (t :: r)) 0 = some (.tup [t.d, .str (sS t.x), .int (t.l : Nat)]) from at_hd _ _]
    exact hΦ
set_option maxHeartbeats 8000000 in
theorem ok_Prices_filling (T : Tx K mg) : FnOk P w K mg base CX0 3 T.a_Prices_filling T.d_Prices_filling ["self", "length", "end"] (spD K 0 3 (S_Prices_filling T.C_Prices)) := by
  refine fnD T.F_Prices_filling sc_Prices_filling fun cdv A outer s H E hr => ⟨_, (psd_cons (psd_set (i := 3) sc_Prices_filling.nd (pd_meth T.cl_Prices T.f_Prices_kept_length T.k_Prices_kept_length T.F_Prices_kept_length.kp (ok_Prices_kept_length T) (hr.mono (by decide)) T.b_Prices_kept_length pass0 (pd_v 0) (pds_cons (pd_v 1) pds_nil))) (psd_cons (psd_if (pdt_ge (pd_dget hr (pd_ix (pd_fld T.cl_Prices T.na_costs (pd_v 0)) (pd_v 3)) (pd_v 2)) (pd_gi T.c_NO_COST)) (psd_one (psd_ret pd_non)) psd_nil) (psd_cons (psd_set (i := 4) sc_Prices_filling.nd (pd_lst (pds_cons (pd_sub (pd_v 1) (pd_v 3)) pds_nil))) (psd_cons (psd_set (i := 5) sc_Prices_filling.nd (pd_lstM pds_nil)) (psd_cons (psd_while PassesOwn.never (pdt_gt (pd_v 3) pd_int) (psd_cons (psd_asg (pd_meth T.cl_Prices T.f_Prices_last_step T.k_Prices_last_step T.F_Prices_last_step.kp (ok_Prices_last_step T) (hr.mono (by decide)) T.b_Prices_last_step pass0 (pd_v 0) (pds_cons (pd_v 3) (pds_cons (pd_v 2) pds_nil))) (pgd_tup rfl (pgds_cons (pgd_name (i := 6) sc_Prices_filling.nd) (pgds_cons (pgd_name (i := 2) sc_Prices_filling.nd) (pgds_cons (pgd_name (i := 7) sc_Prices_filling.nd) pgds_nil))))) (psd_cons (psd_expr (pd_append (pd_v 5) (pd_v 6))) (psd_one (psd_isub (i := 3) sc_Prices_filling.nd (pd_v 7)))))) (psd_one (psd_ret (pd_callP (ok_joined T) (hr.mono (by decide)) T.g_joined T.F_joined.kp T.b_joined pass0 (pds_cons (pd_addL (pd_v 4) (pd_revL (pd_v 5))) pds_nil))))))))), ?_⟩
  rintro c ds Φ hc - ⟨s, b, N, L, y, rfl, hs, hb, hy, hN, hL, hΦ⟩
  cases c with
  | cons _ _ => cases hc
  | nil =>
  have h5 : s.m.length ≤ 5 := tame_len (let_tame (n := 5) hs.m)
  have hk := kept_in hN (by omega) hL
  have okp := ok_pr T.C_Prices s b N
  conv => whnf
  refine ⟨_, _, rfl, rfl, ?_⟩
  conv => whnf
  refine ⟨rfl, by show (okD 0 (prD T.C_Prices s b N) && true) = true; rw [okp]; rfl, s, b, N, L, rfl, hs, hb, hN, hL, ?_⟩
  conv => whnf
  refine ⟨rfl, _, rfl, ?_⟩
  conv => whnf
  rw [costs_at s b hk.1 hk.2]
  conv => whnf
  refine ⟨_, _, kyS y, _, rfl, rfl, row_at h5 hy, ?_⟩
  conv => whnf
  by_cases hlt : rowF s b (keptF s N L).toNat y < NO
  · rw [show (fun i j : Int => decide (j ≤ i)) (rowF s b (keptF s N L).toNat y) 1000000 = false from decide_eq_false (by unfold NO at hlt; omega)]
    rw [show fillD s b N L y = _ from if_pos hlt] at hΦ
    obtain ⟨K, hK⟩ : ∃ K : Nat, keptF s N L = K := ⟨(keptF s N L).toNat, by omega⟩
    rw [hK] at hΦ hlt hk ⊢
    have hK5 : K < N - 5 := by omega
    have hN1 := hN.2.1
    conv => whnf
    refine ⟨by show 1 ≤ sizeLine; decide, ?_⟩
    conv => whnf
    refine ⟨by decide, ?_⟩
    conv => whnf
    refine ⟨fun mm ρ c => ∃ (k : Nat) (z : Nat × Bool) (acc : List D) (x6 x7 : Option D), mm = k ∧ k ≤ K ∧ z.1 < s.m.length ∧ rowF s b k z < NO ∧ ρ = [some (prD T.C_Prices s b N), some (.int L), some (.str (sS z)), some (.int (k : Nat)), some (.lst [.int (L - (K : Nat))]), some (.cell 0), x6, x7] ∧ c = [.lst acc] ∧ (∀ d ∈ acc, stepS d) ∧ acc.length + k ≤ K ∧ acc ++ fillF s b k k z = fillF s b K K y, ⟨K, K, y, [], none, none, rfl, Nat.le_refl _, hy, hlt, rfl, rfl, fun d hd => absurd hd (by simp), by simp, rfl⟩, ?_⟩
    rintro mm ρ c ⟨k, z, acc, x6, x7, rfl, hkK, hz, hzl, rfl, rfl, hacc, hal, hfill⟩
    conv => whnf
    by_cases h0 : 0 < mm
    · rw [show (fun i j : Int => decide (j < i)) ((mm : Nat) : Int) 0 = true from decide_eq_true (by omega)]
      obtain ⟨t, r, hl⟩ := last_ne b hs hz h0 hzl
      obtain ⟨t1, t2, t3⟩ := last_in.mp (show t ∈ lastF s b mm z by rw [hl]; exact List.mem_cons_self)
      have t4 := stp_ok hs hz t1
      conv => whnf
      refine ⟨_, fun ρ' c' h => ⟨mm - t.l, by omega, h⟩, ?_⟩
      conv => whnf
      refine ⟨_, _, rfl, rfl, ?_⟩
      conv => whnf
      refine ⟨rfl, by show (okD 0 (prD T.C_Prices s b N) && true) = true; rw [okp]; rfl, s, b, N, mm, z, t, r, rfl, hs, hb, hz, hN, h0, by omega, hl, ?_⟩
      conv => whnf
      refine ⟨rfl, ?_⟩
      conv => whnf
      refine ⟨rfl, ?_⟩
      conv => whnf
      refine ⟨0, rfl, ⟨_, rfl⟩, ?_⟩
      conv => whnf
      refine ⟨acc, rfl, short (by omega), ?_⟩
      conv => whnf
      rw [fill_step hs hz h0 hl] at hfill
      have ei : (mm : Int) - (t.l : Nat) = ((mm - t.l : Nat) : Int) := by omega
      refine ⟨_, rfl, ?_⟩
      conv => whnf
      rw [ei]
      exact ⟨mm - t.l, t.x, acc ++ [t.d], _, _, rfl, by omega, t4.1, by omega, rfl, rfl, fun d hd => (List.mem_append.mp hd).elim (hacc d) fun hd => (by rw [List.mem_singleton.mp hd]; exact isLet_of hs t1), by rw [List.length_append]; show acc.length + 1 + _ ≤ _; omega, by rw [List.append_assoc]; exact hfill⟩
    · rw [show (fun i j : Int => decide (j < i)) ((mm : Nat) : Int) 0 = false from decide_eq_false (by omega)]
      obtain rfl : mm = 0 := by omega
      rw [show fillF s b 0 0 z = [] from rfl, List.append_nil] at hfill
      conv => whnf
      refine ⟨short (by rw [List.length_reverse]; show 1 + acc.length ≤ _; omega), ?_⟩
      conv => whnf
      have ee : [D.int (L - (K : Nat))] ++ acc.reverse = .int (L - (K : Nat)) :: (fillF s b K K y).reverse := by rw [hfill]; rfl
      rw [ee]
      rw [hfill] at hacc hal
      have hst : ∀ d ∈ (D.int (L - (K : Nat)) :: (fillF s b K K y).reverse), stepS d := fun d hd => by
        rcases List.mem_cons.mp hd with rfl | hd
        · trivial
        · exact hacc d (List.mem_reverse.mp hd)
      refine ⟨rfl, ?_, _, rfl, by rw [List.length_cons, List.length_reverse]; omega, hst, ?_⟩
      · show (okDs 0 (D.int (L - (K : Nat)) :: (fillF s b K K y).reverse) && true) = true
        rw [okDs_of (n := 0) fun d hd => ok_stepD (stepS_D (hst d hd))]; rfl
      conv => whnf
      exact ⟨rfl, okDs_of (n := 0) (fun d hd => ok_stepD (stepS_D (join_ok _ _ (fun d hd => absurd hd (by simp)) hst d hd))), hΦ⟩
  · rw [show (fun i j : Int => decide (j ≤ i)) (rowF s b (keptF s N L).toNat y) 1000000 = true from decide_eq_true (by unfold NO at hlt; omega)]
    rw [show fillD s b N L y = _ from if_neg hlt] at hΦ
    conv => whnf
    exact hΦ
set_option maxHeartbeats 8000000 in
theorem ok_calendar (T : Tx K mg) : FnOk P w K mg base CX0 7 T.a_calendar T.d_calendar ["borders"] (spD K 0 1 (S_calendar T.C_Borders)) := by
  refine fnD T.F_calendar sc_calendar fun cdv A outer s H E hr => ⟨_, (psd_cons (psd_expr (pd_callP (ok_check_borders T) (hr.mono (by decide)) T.g_check_borders T.F_check_borders.kp T.b_check_borders pass0 (pds_cons (pd_v 0) pds_nil))) (psd_one (psd_ret (pd_max1 rfl (pd_lc (i := 1) rfl sc_calendar.nd (pid_tup (pd_prop T.cl_Borders T.P_Borders_states (ok_Borders_states T) (hr.mono (by decide)) T.b_Borders_states pass0 (pd_v 0))) (by kernel_rfl) (fun _ _ _ _ _ => pg_name (i := 1) sc_calendar.nd rfl (Or.inl rfl)) (fun _ _ _ _ _ => ptd_nil) (fun _ _ _ _ _ => (pd_fld T.cl_Prices T.na_since (pd_make T.mk_Prices (ok_Prices___init__ T) (hr.mono (by decide)) T.g_Prices T.b_Prices___init__ pass0 (pds_cons (pd_v 0) (pds_cons (pd_v 1) pds_nil)))))) T.n_max)))), ?_⟩
  rintro c ds Φ hc - ⟨s, zs, N, rfl, hs, hN, hΦ⟩
  cases c with
  | cons _ _ => cases hc
  | nil =>
  have h5 : s.m.length ≤ 5 := tame_len (let_tame (n := 5) hs.m)
  have okb := b_ok T.C_Borders s zs
  conv => whnf
  refine ⟨rfl, okb, s, zs, rfl, ?_⟩
  conv => whnf
  refine ⟨⟨_, _, rfl⟩, okb, _, _, _, _, _, _, rfl, (by show okDs 0 ((stL s.m.length).map D.str) = true; exact okDs_map (fun _ => rfl) _), ?_⟩
  conv => whnf
  rw [ordS_st, List.map_map]
  refine lc_over (c := []) (fun x : Nat × Bool => .str (sS x)) (fun x => .int ((N x : Int) - 5 - (s.m.length : Nat))) rfl (ordS s.m.length) (fun x hx => ⟨rfl, fun acc Ψ _ h => ?_⟩) (short (by rw [ordS_len]; omega)) ?_
  · have hx := mem_ordS.mp hx
    have okp := ok_pr T.C_Prices s x (N x)
    conv => whnf
    refine ⟨rfl, ?_⟩
    conv => whnf
    refine ⟨by show (okD 0 (bD T.C_Borders s zs) && true) = true; rw [(Bool.and_eq_true_iff.mp okb).1]; rfl, s, zs, x, N x, rfl, rfl, hs, hx, hN x hx, ?_⟩
    conv => whnf
    refine ⟨rfl, rfl, okp, ?_⟩
    conv => whnf
    exact ⟨rfl, _, rfl, h⟩
  · conv => whnf
    refine ⟨(ordS s.m.length).map fun x => (N x : Int) - 5 - (s.m.length : Nat), ?_, by rw [List.length_map, ordS_len]; have := sp_one' hs; omega, fun m hm hl => hΦ m ?_ fun b hb => hl _ (List.mem_map.mpr ⟨b, mem_ordS.mpr hb, rfl⟩)⟩
    · rw [List.map_map]; rfl
    · obtain ⟨x, hx, rfl⟩ := List.mem_map.mp hm
      exact ⟨x, mem_ordS.mp hx, rfl⟩

end
end K20

namespace K20
open PySem PySem.Spec PyProof.Rows L2 Cw
theorem farN_mod' {p i : Nat} {d : Bool} {a b : Int} (h0 : 0 < p) (h5 : p ≤ 5) (h : a % (p : Int) = b % (p : Int)) : farN p i d a = farN p i d b := by
  have h1 := farN_int (p := p) (i := i) (d := d) (n := a) h0
  have h2 := farN_int (p := p) (i := i) (d := d) (n := b) h0
  have e : ((i : Int) + (if d then a else -a)) % (p : Int) = ((i : Int) + (if d then b else -b)) % (p : Int) := by
    have h : p = 1 ∨ p = 2 ∨ p = 3 ∨ p = 4 ∨ p = 5 := by omega
    cases d
    · show ((i : Int) + -a) % (p : Int) = ((i : Int) + -b) % (p : Int)
      rcases h with rfl | rfl | rfl | rfl | rfl <;> omega
    · show ((i : Int) + a) % (p : Int) = ((i : Int) + b) % (p : Int)
      rcases h with rfl | rfl | rfl | rfl | rfl <;> omega
  rw [e] at h1
  omega
theorem farN_add' {p i : Nat} {d : Bool} {a b : Int} (h0 : 0 < p) (h5 : p ≤ 5) : farN p (farN p i d a) d b = farN p i d (a + b) := by
  have h1 := farN_int (p := p) (i := i) (d := d) (n := a) h0
  have h2 := farN_int (p := p) (i := farN p i d a) (d := d) (n := b) h0
  have h3 := farN_int (p := p) (i := i) (d := d) (n := a + b) h0
  rw [h1] at h2
  have e : (((i : Int) + (if d then a else -a)) % (p : Int) + (if d then b else -b)) % (p : Int) = ((i : Int) + (if d then a + b else -(a + b))) % (p : Int) := by
    have h : p = 1 ∨ p = 2 ∨ p = 3 ∨ p = 4 ∨ p = 5 := by omega
    cases d
    · show (((i : Int) + -a) % (p : Int) + -b) % (p : Int) = ((i : Int) + -(a + b)) % (p : Int)
      rcases h with rfl | rfl | rfl | rfl | rfl <;> omega
    · show (((i : Int) + a) % (p : Int) + b) % (p : Int) = ((i : Int) + (a + b)) % (p : Int)
      rcases h with rfl | rfl | rfl | rfl | rfl <;> omega
  rw [e] at h2
  omega
theorem farN_0' {p i : Nat} {d : Bool} (h : i < p) : farN p i d 0 = i := by
  have h1 := farN_int (p := p) (i := i) (d := d) (n := 0) (by omega)
  have e : ((i : Int) + (if d then (0 : Int) else -0)) % (p : Int) = i := by
    have : (if d then (0 : Int) else -0) = 0 := by cases d <;> rfl
    rw [this, Int.add_zero, Int.emod_eq_of_lt (by omega) (by omega)]
  rw [e] at h1
  omega
/-- the state so many plain steps on -/
def goS (p : Nat) (b : Nat × Bool) (k : Int) : Nat × Bool := (farN p b.1 b.2 k, b.2)
theorem go_lt {p : Nat} {b : Nat × Bool} {k : Int} (h0 : 0 < p) : (goS p b k).1 < p := farN_lt h0
theorem go_add {p : Nat} {b : Nat × Bool} {k l : Int} (h0 : 0 < p) (h5 : p ≤ 5) : goS p (goS p b k) l = goS p b (k + l) := by
  unfold goS; rw [farN_add' h0 h5]
theorem go_0 {p : Nat} {b : Nat × Bool} (h : b.1 < p) : goS p b 0 = b := by unfold goS; rw [farN_0' h]
theorem go_mod {p : Nat} {b : Nat × Bool} {k l : Int} (h0 : 0 < p) (h5 : p ≤ 5) (h : k % (p : Int) = l % (p : Int)) : goS p b k = goS p b l := by
  unfold goS; rw [farN_mod' h0 h5 h]
theorem nx_go (p : Nat) (b : Nat × Bool) : nxS p b = goS p b 1 := rfl
theorem bk_go {p : Nat} {b : Nat × Bool} (h : b.1 < p) (h5 : p ≤ 5) : bkS p b = goS p b (-1) := by
  have e : goS p (goS p b (-1)) 1 = b := by rw [go_add (by omega) h5]; exact go_0 h
  rw [← bk_nx (p := p) (go_lt (by omega)) h5, nx_go, e]
theorem foldr_le : ∀ {L : List Int} {v : Int}, v ∈ L → L.foldr min NO ≤ v
  | a :: L, v, h => by
    show min a (L.foldr min NO) ≤ v
    rcases List.mem_cons.mp h with rfl | h
    · exact Int.min_le_left _ _
    · exact Int.le_trans (Int.min_le_right _ _) (foldr_le h)
theorem foldr_NO : ∀ L : List Int, L.foldr min NO ≤ NO
  | [] => Int.le_refl _
  | a :: L => Int.le_trans (Int.min_le_right _ _) (foldr_NO L)
/-- what the rows tell: NO or the least of the steps -/
theorem row_step {s : Sp} (b : Nat × Bool) (hs : s.ok) {k : Nat} {y : Nat × Bool} (hy : y.1 < s.m.length) {t : Stp} (ht : t ∈ stepsF s y) (hl : t.l ≤ k) : rowF s b k y ≤ rowF s b (k - t.l) t.x + (t.c : Int) := by
  have h3 := stp_ok hs hy ht
  obtain ⟨n, rfl⟩ : ∃ n, k = n + 1 := ⟨k - 1, by omega⟩
  rw [rowF_next]
  refine foldr_le (List.mem_map.mpr ⟨t, List.mem_filter.mpr ⟨ht, ?_⟩, ?_⟩)
  · rw [rowsF_len]; exact decide_eq_true hl
  · rw [rowsF_len, rowsF_get s b (by omega)]
theorem row_NO {s : Sp} (b : Nat × Bool) {k : Nat} {y : Nat × Bool} : rowF s b k y ≤ NO := by
  cases k with
  | zero => show (if y = b then (0 : Int) else NO) ≤ NO; split <;> decide
  | succ n => rw [rowF_next]; exact foldr_NO _
theorem row_from {s : Sp} {b : Nat × Bool} (hs : s.ok) {k : Nat} {y : Nat × Bool} (hy : y.1 < s.m.length) (hk : 0 < k) (h : rowF s b k y < NO) : ∃ t ∈ stepsF s y, t.l ≤ k ∧ rowF s b (k - t.l) t.x + (t.c : Int) = rowF s b k y := by
  obtain ⟨t, r, hl⟩ := last_ne b hs hy hk h
  exact ⟨t, last_in.mp (show t ∈ lastF s b k y by rw [hl]; exact List.mem_cons_self)⟩
theorem row_nn {s : Sp} {b : Nat × Bool} (hs : s.ok) : ∀ (k : Nat) (y : Nat × Bool), y.1 < s.m.length → 0 ≤ rowF s b k y := by
  intro k
  induction k using Nat.strongRecOn with
  | ind k ih =>
    intro y hy
    by_cases h : rowF s b k y < NO
    · by_cases hk : 0 < k
      · obtain ⟨t, ht, hl, e⟩ := row_from hs hy hk h
        have h3 := stp_ok hs hy ht
        have := ih (k - t.l) (by omega) t.x h3.1
        omega
      · obtain rfl : k = 0 := by omega
        show 0 ≤ (if y = b then (0 : Int) else NO)
        split <;> decide
    · have : NO ≤ rowF s b k y := by omega
      exact Int.le_trans (by decide) this
theorem plain_in (s : Sp) (y : Nat × Bool) : (⟨.int 1, bkS s.m.length y, 1, 0⟩ : Stp) ∈ stepsF s y := List.mem_cons_self
theorem row_plain {s : Sp} (b : Nat × Bool) (hs : s.ok) {k : Nat} {y : Nat × Bool} (hy : y.1 < s.m.length) : rowF s b (k + 1) y ≤ rowF s b k (bkS s.m.length y) := by
  have := row_step b hs hy (plain_in s y) (k := k + 1) (by show 1 ≤ k + 1; omega)
  have e : rowF s b (k + 1 - 1) (bkS s.m.length y) + ((0 : Nat) : Int) = rowF s b k (bkS s.m.length y) := by rw [Nat.add_sub_cancel]; simp
  exact Int.le_trans this (Int.le_of_eq e)
/-- the cost by class: the class is the state from which plain steps alone lead there -/
def clF (s : Sp) (b C : Nat × Bool) (k : Nat) : Int := rowF s b k (goS s.m.length C (k : Int))
theorem cl_down {s : Sp} (b : Nat × Bool) (hs : s.ok) (h0 : 0 < s.m.length) (h5 : s.m.length ≤ 5) (C : Nat × Bool) (k : Nat) : clF s b C (k + 1) ≤ clF s b C k := by
  unfold clF
  have hl := go_lt (b := C) (k := ((k + 1 : Nat) : Int)) h0
  have h := row_plain b hs (k := k) hl
  rw [bk_go hl h5, go_add h0 h5, show ((k + 1 : Nat) : Int) + -1 = (k : Int) by omega] at h
  exact h
theorem cl_anti {s : Sp} (b : Nat × Bool) (hs : s.ok) (h0 : 0 < s.m.length) (h5 : s.m.length ≤ 5) (C : Nat × Bool) {k l : Nat} (h : k ≤ l) : clF s b C l ≤ clF s b C k := by
  induction l with
  | zero => obtain rfl : k = 0 := by omega
            exact Int.le_refl _
  | succ l ih =>
    by_cases e : k = l + 1
    · rw [e]; exact Int.le_refl _
    · exact Int.le_trans (cl_down b hs h0 h5 C l) (ih (by omega))
theorem least_of {P : Nat → Prop} (h : ∃ n, P n) : ∃ n, P n ∧ ∀ m, m < n → ¬ P m := by
  obtain ⟨n, hn⟩ := h
  induction n using Nat.strongRecOn with
  | ind n ih =>
    by_cases e : ∃ m, m < n ∧ P m
    · obtain ⟨m, hm, hp⟩ := e
      exact ih m hm hp
    · exact ⟨n, hn, fun m hm hp => e ⟨m, hm, hp⟩⟩
def setF (f : Nat → Int) (t : Nat) : Prop := ∀ k, t ≤ k → f k = f t
theorem set_ex {f : Nat → Int} (h0 : ∀ k, 0 ≤ f k) (h : ∀ {k l}, k ≤ l → f l ≤ f k) : ∃ t, setF f t := by
  have key : ∀ (n : Nat) (k : Nat), (f k).toNat ≤ n → ∃ t, setF f t := by
    intro n
    induction n with
    | zero => intro k hk; exact ⟨k, fun l hl => by have := h hl; have := h0 l; omega⟩
    | succ n ih =>
      intro k hk
      by_cases e : ∃ l, k ≤ l ∧ f l < f k
      · obtain ⟨l, hl, hlt⟩ := e
        exact ih l (by have := h0 l; omega)
      · exact ⟨k, fun l hl => by
          have := h hl
          have : ¬ f l < f k := fun z => e ⟨l, hl, z⟩
          omega⟩
  exact key _ 0 (Nat.le_refl _)
theorem filter_lt {α : Type} {P Q : α → Bool} : ∀ {l : List α}, (∀ x ∈ l, P x = true → Q x = true) → (∃ x ∈ l, Q x = true ∧ P x = false) → (l.filter P).length + 1 ≤ (l.filter Q).length
  | [], _, ⟨x, hx, _⟩ => by cases hx
  | a :: l, h, ⟨x, hx, q, p⟩ => by
    have hle : ∀ l : List α, (∀ x ∈ l, P x = true → Q x = true) → (l.filter P).length ≤ (l.filter Q).length := by
      intro l
      induction l with
      | nil => intro _; exact Nat.le_refl _
      | cons a l ih =>
        intro h
        have := ih fun x hx => h x (List.mem_cons_of_mem _ hx)
        rw [List.filter_cons, List.filter_cons]
        by_cases e : P a = true
        · rw [if_pos e, if_pos (h a List.mem_cons_self e)]; simpa using this
        · rw [if_neg e]
          split
          · rw [List.length_cons]; omega
          · exact this
    have h' : ∀ x ∈ l, P x = true → Q x = true := fun x hx => h x (List.mem_cons_of_mem _ hx)
    rcases List.mem_cons.mp hx with rfl | hx
    · rw [List.filter_cons_of_neg (by rw [p]; decide), List.filter_cons_of_pos q, List.length_cons]
      have := hle l h'; omega
    · have := filter_lt h' ⟨x, hx, q, p⟩
      rw [List.filter_cons, List.filter_cons]
      by_cases e : P a = true
      · rw [if_pos e, if_pos (h a List.mem_cons_self e), List.length_cons, List.length_cons]; omega
      · rw [if_neg e]
        split
        · rw [List.length_cons]; omega
        · exact this
theorem go_per {p : Nat} {b : Nat × Bool} {k : Int} (h0 : 0 < p) (h5 : p ≤ 5) (n : Int) : goS p b (k + (p : Int) * n) = goS p b k := go_mod h0 h5 (by rw [Int.add_mul_emod_self_left])
/-- from some length on, below this bound, the costs of a class stay -/
theorem cl_settles {s : Sp} (b : Nat × Bool) (hs : s.ok) (h0 : 0 < s.m.length) (h5 : s.m.length ≤ 5) (C : Nat × Bool) (hC : C.1 < s.m.length) : setF (clF s b C) 90 := by
  have hnn : ∀ C k, 0 ≤ clF s b C k := fun C k => row_nn hs k _ (go_lt h0)
  have hex : ∀ C, ∃ t, setF (clF s b C) t ∧ ∀ m, m < t → ¬ setF (clF s b C) m := fun C => least_of (set_ex (hnn C) fun {k l} h => cl_anti b hs h0 h5 C h)
  obtain ⟨τ, hτ⟩ : ∃ τ : Nat × Bool → Nat, ∀ C, setF (clF s b C) (τ C) ∧ ∀ m, m < τ C → ¬ setF (clF s b C) m := ⟨fun C => Classical.choose (hex C), fun C => Classical.choose_spec (hex C)⟩
  have lim_le : ∀ C k, clF s b C (τ C) ≤ clF s b C k := fun C k => by
    by_cases h : τ C ≤ k
    · exact Int.le_of_eq ((hτ C).1 k h).symm
    · exact cl_anti b hs h0 h5 C (by omega)
  have step : ∀ C, C.1 < s.m.length → 0 < τ C → ∃ C' : Nat × Bool, C'.1 < s.m.length ∧ τ C' < τ C ∧ τ C ≤ τ C' + s.m.length + 5 := by
    intro C hC ht
    obtain ⟨t, e⟩ : ∃ t, τ C = t + 1 := ⟨τ C - 1, by omega⟩
    have hset : setF (clF s b C) (t + 1) := e ▸ (hτ C).1
    have hgt : clF s b C (t + 1) < clF s b C t := by
      have hd := cl_down b hs h0 h5 C t
      by_cases z : clF s b C (t + 1) = clF s b C t
      · exact absurd (fun k hk => by
          by_cases e2 : k = t
          · rw [e2]
          · rw [hset k (by omega), z]) ((hτ C).2 t (by omega))
      · omega
    have hyl := go_lt (b := C) (k := ((t + 1 : Nat) : Int)) h0
    have hlt : rowF s b (t + 1) (goS s.m.length C ((t + 1 : Nat) : Int)) < NO := Int.lt_of_lt_of_le hgt (row_NO b)
    obtain ⟨q, hq, hql, hqe⟩ := row_from hs hyl (Nat.succ_pos t) hlt
    have hk := stp_ok hs hyl hq
    have hqe : rowF s b (t + 1 - q.l) q.x + (q.c : Int) = clF s b C (t + 1) := hqe
    -- the class of the step's begin
    obtain ⟨C', hC'⟩ : ∃ C', C' = goS s.m.length q.x (-((t + 1 - q.l : Nat) : Int)) := ⟨_, rfl⟩
    have hC'l : C'.1 < s.m.length := hC' ▸ go_lt h0
    have hx : ∀ n : Nat, goS s.m.length C' (((t + 1 - q.l : Nat) : Int) + (s.m.length : Int) * (n : Int)) = q.x := fun n => by
      rw [go_per h0 h5, hC', go_add h0 h5, show -((t + 1 - q.l : Nat) : Int) + ((t + 1 - q.l : Nat) : Int) = 0 by omega, go_0 hk.1]
    have hx0 : goS s.m.length C' ((t + 1 - q.l : Nat) : Int) = q.x := by have := hx 0; rw [show ((t + 1 - q.l : Nat) : Int) + (s.m.length : Int) * ((0 : Nat) : Int) = ((t + 1 - q.l : Nat) : Int) by simp] at this; exact this
    have hv : clF s b C' (t + 1 - q.l) + (q.c : Int) = clF s b C (t + 1) := by unfold clF at hqe ⊢; rw [hx0]; exact hqe
    -- the same step p times n later, or earlier
    have later : ∀ n : Nat, clF s b C (t + 1 + s.m.length * n) ≤ clF s b C' (t + 1 - q.l + s.m.length * n) + (q.c : Int) := fun n => by
      have e1 : goS s.m.length C ((t + 1 + s.m.length * n : Nat) : Int) = goS s.m.length C ((t + 1 : Nat) : Int) := by
        rw [show ((t + 1 + s.m.length * n : Nat) : Int) = ((t + 1 : Nat) : Int) + (s.m.length : Int) * (n : Int) by rw [Int.natCast_add, Int.natCast_mul], go_per h0 h5]
      have h := row_step b hs hyl hq (k := t + 1 + s.m.length * n) (by omega)
      unfold clF
      rw [e1, show ((t + 1 - q.l + s.m.length * n : Nat) : Int) = ((t + 1 - q.l : Nat) : Int) + (s.m.length : Int) * (n : Int) by rw [Int.natCast_add, Int.natCast_mul], hx n]
      rw [show t + 1 + s.m.length * n - q.l = t + 1 - q.l + s.m.length * n by omega] at h
      exact h
    have hlim : clF s b C' (t + 1 - q.l) = clF s b C' (τ C') := by
      have h1 := later (τ C')
      rw [hset _ (by omega)] at h1
      have h2 : clF s b C' (t + 1 - q.l + s.m.length * τ C') = clF s b C' (τ C') := (hτ C').1 _ (by have := Nat.le_mul_of_pos_left (τ C') h0; omega)
      have h3 := lim_le C' (t + 1 - q.l)
      omega
    have hle : τ C' ≤ t + 1 - q.l := by
      by_cases z : τ C' ≤ t + 1 - q.l
      · exact z
      · exact absurd (fun k hk => by
          have h1 := cl_anti b hs h0 h5 C' hk
          have h2 := lim_le C' k
          omega) ((hτ C').2 (t + 1 - q.l) (by omega))
    refine ⟨C', hC'l, by omega, ?_⟩
    by_cases z : t + 1 ≤ τ C' + s.m.length + 5
    · omega
    · exfalso
      have e1 : goS s.m.length C ((t + 1 - s.m.length : Nat) : Int) = goS s.m.length C ((t + 1 : Nat) : Int) := by
        rw [show ((t + 1 : Nat) : Int) = ((t + 1 - s.m.length : Nat) : Int) + (s.m.length : Int) * 1 by omega, go_per h0 h5]
      have e2 : goS s.m.length C' ((t + 1 - s.m.length - q.l : Nat) : Int) = q.x := by
        rw [← hx0, show ((t + 1 - q.l : Nat) : Int) = ((t + 1 - s.m.length - q.l : Nat) : Int) + (s.m.length : Int) * 1 by omega, go_per h0 h5]
      have h := row_step b hs hyl hq (k := t + 1 - s.m.length) (by omega)
      have h2 : clF s b C (t + 1 - s.m.length) ≤ clF s b C' (t + 1 - s.m.length - q.l) + (q.c : Int) := by
        unfold clF
        rw [e1, e2]; exact h
      have h3 : clF s b C' (t + 1 - s.m.length - q.l) = clF s b C' (τ C') := (hτ C').1 _ (by omega)
      have h4 := cl_anti b hs h0 h5 C (show t + 1 - s.m.length ≤ t by omega)
      omega
  have bound : ∀ (n : Nat) (C : Nat × Bool), C.1 < s.m.length → τ C = n → n ≤ 10 * ((ordS s.m.length).filter fun D => decide (τ D < n)).length := by
    intro n
    induction n using Nat.strongRecOn with
    | ind n ih =>
      intro C hC e
      by_cases hz : 0 < τ C
      · obtain ⟨C', h1, h2, h3⟩ := step C hC hz
        have i1 := ih (τ C') (by omega) C' h1 rfl
        have i2 := filter_lt (l := ordS s.m.length) (P := fun D => decide (τ D < τ C')) (Q := fun D => decide (τ D < n)) (fun x _ hx => decide_eq_true (by have := of_decide_eq_true hx; omega)) ⟨C', mem_ordS.mpr h1, decide_eq_true (by omega), decide_eq_false (by omega)⟩
        omega
      · omega
  have h1 := bound (τ C) C hC rfl
  have h2 := filter_lt (l := ordS s.m.length) (P := fun D => decide (τ D < τ C)) (Q := fun _ => true) (fun x _ _ => rfl) ⟨C, mem_ordS.mpr hC, rfl, decide_eq_false (by omega)⟩
  rw [List.filter_eq_self.mpr (fun _ _ => rfl), ordS_len] at h2
  have hle : τ C ≤ 90 := by omega
  intro k hk
  rw [(hτ C).1 k (by omega), (hτ C).1 90 hle]
theorem row_cl {s : Sp} (b : Nat × Bool) (h0 : 0 < s.m.length) (h5 : s.m.length ≤ 5) {y : Nat × Bool} (hy : y.1 < s.m.length) (k : Nat) : rowF s b k y = clF s b (goS s.m.length y (-(k : Int))) k := by
  unfold clF
  rw [go_add h0 h5, show -(k : Int) + (k : Int) = 0 by omega, go_0 hy]
/-- rows from 90 + p on are those one motif earlier -/
theorem row_again {s : Sp} (b : Nat × Bool) (hs : s.ok) (h0 : 0 < s.m.length) (h5 : s.m.length ≤ 5) {k : Nat} (hk : 90 + s.m.length ≤ k) {y : Nat × Bool} (hy : y.1 < s.m.length) : rowF s b k y = rowF s b (k - s.m.length) y := by
  rw [row_cl b h0 h5 hy k, row_cl b h0 h5 hy (k - s.m.length)]
  have e : goS s.m.length y (-((k - s.m.length : Nat) : Int)) = goS s.m.length y (-(k : Int)) := by
    rw [show -((k - s.m.length : Nat) : Int) = -(k : Int) + (s.m.length : Int) * 1 by omega, go_per h0 h5]
  rw [e]
  have h := cl_settles b hs h0 h5 (goS s.m.length y (-(k : Int))) (go_lt h0)
  rw [h k (by omega), h (k - s.m.length) (by omega)]
theorem again_up {s : Sp} (b : Nat × Bool) (hs : s.ok) (h0 : 0 < s.m.length) (h5 : s.m.length ≤ 5) {n : Nat} (hn : 90 + s.m.length ≤ n + 1) : againF s b (n + 1) = againF s b n + 1 := by
  show (if s.m.length ≤ n + 1 ∧ eqR s.m.length (rowF s b (n + 1)) (rowF s b (n + 1 - s.m.length)) = true then againF s b n + 1 else 0) = _
  rw [if_pos]
  exact ⟨by omega, List.all_eq_true.mpr fun x hx => decide_eq_true (row_again b hs h0 h5 hn (mem_ordS.mp hx))⟩
theorem again_one (s : Sp) (b : Nat × Bool) (n : Nat) : againF s b (n + 1) = againF s b n + 1 ∨ againF s b (n + 1) = 0 := by
  show (if s.m.length ≤ n + 1 ∧ eqR s.m.length (rowF s b (n + 1)) (rowF s b (n + 1 - s.m.length)) = true then againF s b n + 1 else 0) = _ ∨ (if s.m.length ≤ n + 1 ∧ eqR s.m.length (rowF s b (n + 1)) (rowF s b (n + 1 - s.m.length)) = true then againF s b n + 1 else 0) = _
  split
  · exact .inl rfl
  · exact .inr rfl
/-- the loop of the prices ends -/
theorem ends_ex {s : Sp} (b : Nat × Bool) (hs : s.ok) (h0 : 0 < s.m.length) (h5 : s.m.length ≤ 5) : ∃ N, N ≤ 95 + s.m.length ∧ endsAt s b N := by
  have h6 : 6 ≤ againF s b (95 + s.m.length) := by
    have a0 := again_up b hs h0 h5 (n := 89 + s.m.length) (by omega)
    have a1 := again_up b hs h0 h5 (n := 90 + s.m.length) (by omega)
    have a2 := again_up b hs h0 h5 (n := 91 + s.m.length) (by omega)
    have a3 := again_up b hs h0 h5 (n := 92 + s.m.length) (by omega)
    have a4 := again_up b hs h0 h5 (n := 93 + s.m.length) (by omega)
    have a5 := again_up b hs h0 h5 (n := 94 + s.m.length) (by omega)
    rw [show 89 + s.m.length + 1 = 90 + s.m.length by omega] at a0
    rw [show 90 + s.m.length + 1 = 91 + s.m.length by omega] at a1
    rw [show 91 + s.m.length + 1 = 92 + s.m.length by omega] at a2
    rw [show 92 + s.m.length + 1 = 93 + s.m.length by omega] at a3
    rw [show 93 + s.m.length + 1 = 94 + s.m.length by omega] at a4
    rw [show 94 + s.m.length + 1 = 95 + s.m.length by omega] at a5
    omega
  obtain ⟨N, hN, hl⟩ := least_of (P := fun n => 6 ≤ againF s b n) ⟨_, h6⟩
  have hNle : N ≤ 95 + s.m.length := by
    by_cases z : N ≤ 95 + s.m.length
    · exact z
    · exact absurd h6 (hl _ (by omega))
  refine ⟨N, hNle, ?_, by omega, fun n hn => by have := hl n hn; omega⟩
  cases N with
  | zero => have : againF s b 0 = 0 := rfl
            omega
  | succ n =>
    have := hl n (by omega)
    rcases again_one s b n with h | h <;> omega
/-- behind the end all rows come again -/
theorem ends_row {s : Sp} {b : Nat × Bool} (hs : s.ok) (h0 : 0 < s.m.length) {N : Nat} (h : endsAt s b N) : ∀ (k : Nat) (y : Nat × Bool), N - 5 ≤ k → y.1 < s.m.length → rowF s b k y = rowF s b (k - s.m.length) y := by
  have hg := ends_ge h
  have one : ∀ n, 0 < againF s b (n + 1) → againF s b n + 1 = againF s b (n + 1) ∧ ∀ y : Nat × Bool, y.1 < s.m.length → rowF s b (n + 1) y = rowF s b (n + 1 - s.m.length) y := by
    intro n hn
    by_cases e : s.m.length ≤ n + 1 ∧ eqR s.m.length (rowF s b (n + 1)) (rowF s b (n + 1 - s.m.length)) = true
    · refine ⟨?_, fun y hy => of_decide_eq_true (List.all_eq_true.mp e.2 y (mem_ordS.mpr hy))⟩
      show _ = (if s.m.length ≤ n + 1 ∧ eqR s.m.length (rowF s b (n + 1)) (rowF s b (n + 1 - s.m.length)) = true then againF s b n + 1 else 0)
      rw [if_pos e]
    · exfalso
      have : againF s b (n + 1) = 0 := by
        show (if s.m.length ≤ n + 1 ∧ eqR s.m.length (rowF s b (n + 1)) (rowF s b (n + 1 - s.m.length)) = true then againF s b n + 1 else 0) = 0
        rw [if_neg e]
      omega
  obtain ⟨M, rfl⟩ : ∃ M, N = M + 6 := ⟨N - 6, by omega⟩
  have h6 : againF s b (M + 5 + 1) = 6 := h.1
  obtain ⟨a5, r5⟩ := one (M + 5) (by rw [h6]; decide)
  have a5 : againF s b (M + 5) + 1 = againF s b (M + 6) := a5
  have h6 : againF s b (M + 6) = 6 := h6
  obtain ⟨a4, r4⟩ := one (M + 4) (by show 0 < againF s b (M + 5); omega)
  have a4 : againF s b (M + 4) + 1 = againF s b (M + 5) := a4
  obtain ⟨a3, r3⟩ := one (M + 3) (by show 0 < againF s b (M + 4); omega)
  have a3 : againF s b (M + 3) + 1 = againF s b (M + 4) := a3
  obtain ⟨a2, r2⟩ := one (M + 2) (by show 0 < againF s b (M + 3); omega)
  have a2 : againF s b (M + 2) + 1 = againF s b (M + 3) := a2
  obtain ⟨a1, r1⟩ := one (M + 1) (by show 0 < againF s b (M + 2); omega)
  have a1 : againF s b (M + 1) + 1 = againF s b (M + 2) := a1
  obtain ⟨a0, r0⟩ := one (M) (by show 0 < againF s b (M + 1); omega)
  have a0 : againF s b (M) + 1 = againF s b (M + 1) := a0
  intro k
  induction k using Nat.strongRecOn with
  | ind k ih =>
    intro y hk hy
    by_cases hle : k ≤ M + 6
    · have : k = M + 1 ∨ k = M + 2 ∨ k = M + 3 ∨ k = M + 4 ∨ k = M + 5 ∨ k = M + 6 := by omega
      rcases this with rfl | rfl | rfl | rfl | rfl | rfl
      · exact r0 y hy
      · exact r1 y hy
      · exact r2 y hy
      · exact r3 y hy
      · exact r4 y hy
      · exact r5 y hy
    · have hq : ∀ t ∈ stepsF s y, rowF s b (k - t.l) t.x = rowF s b (k - s.m.length - t.l) t.x := fun t ht => by
        have h3 := stp_ok hs hy ht
        rw [ih (k - t.l) (by omega) t.x (by omega) h3.1]
        congr 1; omega
      refine Int.le_antisymm ?_ ?_
      · by_cases hlt : rowF s b (k - s.m.length) y < NO
        · obtain ⟨t, ht, htl, e⟩ := row_from hs hy (by omega) hlt
          have := row_step b hs hy ht (k := k) (by omega)
          rw [hq t ht] at this; omega
        · exact Int.le_trans (row_NO b) (by omega)
      · by_cases hlt : rowF s b k y < NO
        · obtain ⟨t, ht, htl, e⟩ := row_from hs hy (by omega) hlt
          have h3 := stp_ok hs hy ht
          have := row_step b hs hy ht (k := k - s.m.length) (by omega)
          rw [hq t ht] at e; omega
        · exact Int.le_trans (row_NO b) (by omega)
theorem ends_per {s : Sp} {b : Nat × Bool} (hs : s.ok) (h0 : 0 < s.m.length) {N : Nat} (h : endsAt s b N) {y : Nat × Bool} (hy : y.1 < s.m.length) : ∀ (n k : Nat), N - 5 - s.m.length ≤ k → rowF s b (k + s.m.length * n) y = rowF s b k y
  | 0, k, _ => by rw [Nat.mul_zero, Nat.add_zero]
  | n + 1, k, hk => by
    have hg := ends_ge h
    have e : k + s.m.length * (n + 1) = k + s.m.length * n + s.m.length := by rw [Nat.mul_succ]; omega
    rw [e, ends_row hs h0 h _ y (by omega) hy, Nat.add_sub_cancel, ends_per hs h0 h hy n k hk]
/-- the kept length does what the length does -/
theorem kept_row {s : Sp} {b : Nat × Bool} (hs : s.ok) (h0 : 0 < s.m.length) {N : Nat} (h : endsAt s b N) {y : Nat × Bool} (hy : y.1 < s.m.length) {L : Int} (hL : 0 ≤ L) : rowF s b (keptF s N L).toNat y = rowF s b L.toNat y := by
  have hg := ends_ge h
  unfold keptF
  split
  · rfl
  · rename_i hn
    have h1 := Int.emod_nonneg (L - ((N : Int) - 5 - s.m.length)) (show (s.m.length : Int) ≠ 0 by omega)
    have h3 := Int.mul_ediv_add_emod (L - ((N : Int) - 5 - s.m.length)) (s.m.length : Int)
    obtain ⟨r, hr⟩ : ∃ r : Nat, (L - ((N : Int) - 5 - s.m.length)) % (s.m.length : Int) = r := ⟨_, (Int.toNat_of_nonneg h1).symm⟩
    have h4 : 0 ≤ (L - ((N : Int) - 5 - s.m.length)) / (s.m.length : Int) := Int.ediv_nonneg (by omega) (by omega)
    obtain ⟨q, hq⟩ : ∃ q : Nat, (L - ((N : Int) - 5 - s.m.length)) / (s.m.length : Int) = q := ⟨_, (Int.toNat_of_nonneg h4).symm⟩
    rw [hr, hq] at h3
    rw [hr]
    have e : L.toNat = (N - 5 - s.m.length + r) + s.m.length * q := by
      have : ((s.m.length * q : Nat) : Int) = (s.m.length : Int) * (q : Int) := Int.natCast_mul _ _
      omega
    rw [e, ends_per hs h0 h hy q _ (by omega)]
    congr 1; omega

end K20

namespace K20
open PySem PySem.Spec PyProof.Rows L2 Cw
def brk (a b : Int) : Cell := .lst [.int a, .int b]
def BR (a b : Int) : Prop := (0 ≤ a ∧ a < 2147483179) ∧ 0 ≤ b
def S__law_sip : Pm := fun c ds Φ => ∃ a b m, c = [brk a b] ∧ ds = [.cell 0, .int m] ∧ BR a b ∧ (0 < m ∧ m < 1000000000000000000000000000000000000) ∧ ∀ v a' b', 0 ≤ v → v < m → BR a' b' → Φ (.int v) [brk a' b']
def S__law_brook : Pn := fun ds Φ => ∃ ns t, ds = [intsD ns, .int t] ∧ (0 ≤ t ∧ t ≤ 100) ∧ ns.length ≤ 63 ∧ ∀ a b : Int, BR a b → Φ [.int a, .int b]
theorem sip_call {a b m : Int} {rest : List Cell} {Φ : D → List Cell → Prop} (hB : BR a b) (hm : 0 < m ∧ m < 1000000000000000000000000000000000000)
    (h : ∀ v a' b', 0 ≤ v → v < m → BR a' b' → Φ (.int v) (brk a' b' :: rest)) : callM S__law_sip [.cell 0, .int m] (brk a b :: rest) Φ :=
  ⟨brk a b, rfl, rfl, rfl, a, b, m, rfl, rfl, hB, hm, fun v a' b' h1 h2 h3 => ⟨rfl, rfl, h v a' b' h1 h2 h3⟩⟩
theorem brook_tail {Φ : List D → Prop} {ns : List Int} {t mix own : Int} {x3 : Option D} (hm : 0 ≤ mix ∧ mix < 2147483179) (hΦ : ∀ (a b : Int), BR a b → Φ [D.int a, D.int b]) :
    dRet (dLstM (dCons (dBin fMod (dCB (un1 fInt) (dCons (dBin fAdd (dBin fMul (dVar 2) (dC (D.int 61))) (dVar 4)) dNil)) (dC (D.int 2147483179)))
      (dCons (dIf (dT (dBin fGe (dCB (un1 fAbs) (dCons (dVar 4) dNil)) (dBin fPow (dC (D.int 10)) (dC (D.int 18))))) (dCB (un1 fAbs) (dCons (dVar 4) dNil)) (dC (D.int 0))) dNil)))
      ⟨fun _ _ => False, retN Φ, fun _ _ => False, fun _ _ => False⟩ [some (intsD ns), some (.int t), some (.int mix), x3, some (.int own)] [] := by
  have fin : ∀ b : Int, 0 ≤ b → [D.int ((mix * 61 + own) % 2147483179), D.int b].length ≤ sizeLine ∧ retN Φ (.cell 0) [.lst [D.int ((mix * 61 + own) % 2147483179), D.int b]] := fun b hb =>
    ⟨by show 2 ≤ sizeLine; decide, _, rfl, rfl, hΦ _ b ⟨⟨Int.emod_nonneg _ (by decide), Int.emod_lt_of_pos _ (by decide)⟩, hb⟩⟩
  conv => whnf
  ((refine ⟨?num, ?_⟩); (case num => first | omega | (left; omega) | (right; omega)); (conv => whnf))
  ((refine ⟨?num, ?_⟩); (case num => first | omega | (left; omega) | (right; omega)); (conv => whnf))
  refine ⟨by decide, ?_⟩
  conv => whnf
  split
  · conv => whnf
    refine fin _ ?_
    split <;> omega
  · conv => whnf
    exact fin 0 (by decide)
section
variable {P : Program} {w : World} {K : PySem.W.Frag} {mg : Str → Option Value} {base : Heap}
set_option maxHeartbeats 8000000 in
theorem ok__law_sip (T : Tx K mg) : FnOk P w K mg base CX0 1 T.a__law_sip T.d__law_sip ["_law_brook_here", "_law_amount"] (spD K 1 2 S__law_sip) := by
  refine fnD T.F__law_sip sc__law_sip fun cdv A outer s H E hr => ⟨_, (psd_cons (psd_if (pdt_gt (pd_ix (pd_v 0) pd_int) pd_int) (psd_cons (psd_asg (pd_divmodW (pd_ix (pd_v 0) pd_int) (pd_v 1) T.n_divmod) (pgd_tup rfl (pgds_cons (pgd_sub (pd_v 0) pd_int) (pgds_cons (pgd_name (i := 2) sc__law_sip.nd) pgds_nil)))) (psd_one (psd_ret (pd_v 2)))) psd_nil) (psd_cons (psd_asg (pd_mod (pd_intc (pd_add (pd_mul (pd_ix (pd_v 0) pd_int) pd_int) pd_int) T.n_int) pd_int) (pgd_sub (pd_v 0) pd_int)) (psd_one (psd_ret (pd_mod (pd_intc (pd_div (pd_ix (pd_v 0) pd_int) pd_int) T.n_int) (pd_v 1)))))), ?_⟩
  rintro c ds Φ hc - ⟨a, b, m, rfl, rfl, hB, hm, hΦ⟩
  conv => whnf
  split
  · rename_i he
    have hbp : 0 < b := of_decide_eq_true he
    conv => whnf
    refine ⟨hm, ?_⟩
    conv => whnf
    refine ⟨rfl, ?_⟩
    conv => whnf
    refine ⟨0, rfl, ?_⟩
    conv => whnf
    refine ⟨1, _, 1, rfl, rfl, rfl, ?_⟩
    conv => whnf
    refine ⟨rfl, ?_⟩
    conv => whnf
    exact hΦ (b % m) a (b / m) (Int.emod_nonneg _ (by omega)) (Int.emod_lt_of_pos _ hm.1) ⟨hB.1, Int.ediv_nonneg hB.2 (by omega)⟩
  · have h1 := hB.1
    conv => whnf
    ((refine ⟨?num, ?_⟩); (case num => first | omega | (left; omega) | (right; omega)); (conv => whnf))
    ((refine ⟨?num, ?_⟩); (case num => first | omega | (left; omega) | (right; omega)); (conv => whnf))
    refine ⟨0, rfl, ?_⟩
    conv => whnf
    refine ⟨0, _, 0, rfl, rfl, rfl, ?_⟩
    conv => whnf
    have ha' := Int.emod_nonneg (a * 45127 + 4729) (show (2147483179 : Int) ≠ 0 by decide)
    have ha'' := Int.emod_lt_of_pos (a * 45127 + 4729) (show (0 : Int) < 2147483179 by decide)
    generalize (a * 45127 + 4729) % 2147483179 = a1 at *
    refine ⟨by decide, ?_⟩
    conv => whnf
    refine ⟨hm.1, ?_⟩
    conv => whnf
    exact hΦ _ a1 b (Int.emod_nonneg _ (by omega)) (Int.emod_lt_of_pos _ hm.1) ⟨⟨ha', ha''⟩, hB.2⟩
set_option maxHeartbeats 8000000 in
theorem ok__law_brook (T : Tx K mg) : FnOk P w K mg base CX0 1 T.a__law_brook T.d__law_brook ["_law_cells", "_law_turn"] (spN K 2 S__law_brook) := by
  refine fnN T.F__law_brook sc__law_brook fun cdv A outer s H E hr => ⟨_, (psd_cons (psd_set (i := 2) sc__law_brook.nd (pd_add pd_int (pd_mul pd_int (pd_v 1)))) (psd_cons (psd_for PassesOwn.never rfl (pid_list (pd_sl (pd_v 0) po_no (po_so pd_int))) (pgd_name (i := 3) sc__law_brook.nd) (psd_one (psd_set (i := 2) sc__law_brook.nd (pd_mod (pd_intc (pd_add (pd_add (pd_mul (pd_v 2) pd_int) (pd_v 3)) pd_int) T.n_int) pd_int)))) (psd_cons (psd_set (i := 4) sc__law_brook.nd (pd_if (pdt_lt (pd_v 1) (pd_len (pd_v 0) T.n_len)) (pd_ix (pd_v 0) (pd_v 1)) pd_int)) (psd_one (psd_ret (pd_lstM (pds_cons (pd_mod (pd_intc (pd_add (pd_mul (pd_v 2) pd_int) (pd_v 4)) T.n_int) pd_int) (pds_cons (pd_if (pdt_ge (pd_abs (pd_v 4) T.n_abs) (pd_pow pd_int pd_int)) (pd_abs (pd_v 4) T.n_abs) pd_int) pds_nil)))))))), ?_⟩
  rintro ds Φ - ⟨ns, t, rfl, ht, hl, hΦ⟩
  conv => whnf
  refine ⟨.inl (by decide), ?_⟩
  conv => whnf
  refine forD_inv (fun ds ρ c => c = [] ∧ (∃ (mix : Int) (x3 : Option D), ρ = [some (intsD ns), some (.int t), some (.int mix), x3, none] ∧ 0 ≤ mix ∧ mix < 2147483179) ∧ ∀ d ∈ ds, ∃ i : Int, d = .int i) ?_ ?_ _ _ _ ?_
  · rintro ρ c ⟨rfl, ⟨mix, x3, rfl, h1, h2⟩, -⟩
    conv => whnf
    split
    · rename_i he
      have hlt : t < ns.length := by have := of_decide_eq_true he; simpa using this
      obtain ⟨j, rfl⟩ : ∃ j : Nat, t = (j : Nat) := ⟨t.toNat, by omega⟩
      have hj : j < ns.length := by omega
      have e2 : atI (ns.map D.int) (j : Int) = some (.int ns[j]) := by
        unfold atI ixN
        rw [List.length_map, if_pos (by omega), if_pos (by omega)]
        show (ns.map D.int)[j]? = _
        rw [List.getElem?_map, List.getElem?_eq_getElem hj]
        rfl
      conv => whnf
      rw [e2]
      generalize ns[j] = own
      conv => whnf
      exact brook_tail ⟨h1, h2⟩ hΦ
    · conv => whnf
      exact brook_tail ⟨h1, h2⟩ hΦ
  · rintro d ds ρ c F hF ⟨rfl, ⟨mix, x3, rfl, h1, h2⟩, hi⟩
    obtain ⟨i, rfl⟩ := hi d List.mem_cons_self
    conv => whnf
    ((refine ⟨?num, ?_⟩); (case num => first | omega | (left; omega) | (right; omega)); (conv => whnf))
    ((refine ⟨?num, ?_⟩); (case num => first | omega | (left; omega) | (right; omega)); (conv => whnf))
    exact hF _ _ ⟨rfl, ⟨_, _, rfl, Int.emod_nonneg _ (by decide), Int.emod_lt_of_pos _ (by decide)⟩, fun d hd => hi d (List.mem_cons_of_mem _ hd)⟩
  · refine ⟨rfl, ⟨70001 + 6473 * t, none, rfl, by omega, by omega⟩, fun d hd => ?_⟩
    have hd := List.mem_of_mem_drop (List.mem_of_mem_take hd)
    obtain ⟨i, _, rfl⟩ := List.mem_map.mp hd
    exact ⟨i, rfl⟩

end
end K20

namespace K20
open PySem PySem.Spec PyProof.Rows L2 Cw
/-- a step from the begin itself -/
theorem row_len {s : Sp} (b : Nat × Bool) (hs : s.ok) : ∀ (k : Nat) (y : Nat × Bool), y.1 < s.m.length → rowF s b k y < NO → rowF s b k y ≤ 9 * (k : Int) := by
  intro k
  induction k using Nat.strongRecOn with
  | ind k ih =>
    intro y hy h
    by_cases hk : 0 < k
    · obtain ⟨t, ht, hl, e⟩ := row_from hs hy hk h
      have h3 := stp_ok hs hy ht
      have := ih (k - t.l) (by omega) t.x h3.1 (by omega)
      omega
    · obtain rfl : k = 0 := by omega
      have h : (if y = b then (0 : Int) else NO) < NO := h
      show (if y = b then (0 : Int) else NO) ≤ _
      by_cases e : y = b
      · rw [if_pos e]; omega
      · rw [if_neg e] at h; omega
/-- costs are small ones -/
theorem row_810 {s : Sp} (b : Nat × Bool) (hs : s.ok) (h0 : 0 < s.m.length) (h5 : s.m.length ≤ 5) {k : Nat} {y : Nat × Bool} (hy : y.1 < s.m.length) (h : rowF s b k y < NO) : rowF s b k y ≤ 810 := by
  by_cases hk : k ≤ 90
  · have := row_len b hs k y hy h; omega
  · have e := row_cl b h0 h5 hy k
    have hc := cl_settles b hs h0 h5 (goS s.m.length y (-(k : Int))) (go_lt h0) k (by omega)
    rw [e, hc] at h ⊢
    have := row_len b hs 90 _ (go_lt (b := goS s.m.length y (-(k : Int))) (k := ((90 : Nat) : Int)) h0) h
    exact this
/-- one side behind another -/
theorem row_tri {s : Sp} (b m : Nat × Bool) (hs : s.ok) (k : Nat) : ∀ (l : Nat) (y : Nat × Bool), y.1 < s.m.length → rowF s b (k + l) y ≤ rowF s b k m + rowF s m l y ∨ m.1 ≥ s.m.length := by
  intro l y hy
  by_cases hm : m.1 < s.m.length
  · left
    revert y
    induction l using Nat.strongRecOn with
    | ind l ih =>
      intro y hy
      have hn := row_nn (b := b) hs k m hm
      by_cases h : rowF s m l y < NO
      · by_cases hl : 0 < l
        · obtain ⟨t, ht, htl, e⟩ := row_from hs hy hl h
          have h3 := stp_ok hs hy ht
          have i := ih (l - t.l) (by omega) t.x h3.1
          have r := row_step b hs hy ht (k := k + l) (by omega)
          rw [show k + l - t.l = k + (l - t.l) by omega] at r
          omega
        · obtain rfl : l = 0 := by omega
          have h' : (if y = m then (0 : Int) else NO) < NO := h
          have e : y = m := by
            by_cases e : y = m
            · exact e
            · rw [if_neg e] at h'; omega
          subst e
          have := row_nn (b := y) hs 0 y hy
          rw [Nat.add_zero]; omega
      · have := row_NO b (s := s) (k := k + l) (y := y); omega
  · right; omega
theorem row_tri' {s : Sp} {b m : Nat × Bool} (hs : s.ok) (hm : m.1 < s.m.length) (k l : Nat) {y : Nat × Bool} (hy : y.1 < s.m.length) : rowF s b (k + l) y ≤ rowF s b k m + rowF s m l y := (row_tri b m hs k l y hy).resolve_right (by omega)
/-- whole motifs more -/
theorem row_more {s : Sp} (b : Nat × Bool) (hs : s.ok) (h0 : 0 < s.m.length) (h5 : s.m.length ≤ 5) (k : Nat) {y : Nat × Bool} (hy : y.1 < s.m.length) : rowF s b (k + s.m.length) y ≤ rowF s b k y := by
  rw [row_cl b h0 h5 hy (k + s.m.length), row_cl b h0 h5 hy k]
  have e : goS s.m.length y (-((k + s.m.length : Nat) : Int)) = goS s.m.length y (-(k : Int)) := by
    rw [show -(k : Int) = -((k + s.m.length : Nat) : Int) + (s.m.length : Int) * 1 by omega, go_per h0 h5]
  rw [e]
  exact cl_anti b hs h0 h5 _ (by omega)
def Sp.more (s : Sp) (q : Part) : Sp := ⟨s.m, s.ps ++ [q], s.js⟩
theorem steps_more {s : Sp} {q : Part} {y : Nat × Bool} {t : Stp} (h : t ∈ stepsF s y) : t ∈ stepsF (s.more q) y := by
  rcases List.mem_cons.mp h with rfl | h
  · exact List.mem_cons_self
  · refine List.mem_cons_of_mem _ ?_
    obtain ⟨p, hp, rfl⟩ := List.mem_map.mp h
    obtain ⟨h1, h2⟩ := List.mem_filter.mp hp
    exact List.mem_map.mpr ⟨p, List.mem_filter.mpr ⟨List.mem_append_left _ h1, h2⟩, rfl⟩
theorem row_extra {s : Sp} {q : Part} (b : Nat × Bool) (hs : s.ok) (hs' : (s.more q).ok) : ∀ (k : Nat) (y : Nat × Bool), y.1 < s.m.length → rowF (s.more q) b k y ≤ rowF s b k y := by
  intro k
  induction k using Nat.strongRecOn with
  | ind k ih =>
    intro y hy
    by_cases h : rowF s b k y < NO
    · by_cases hk : 0 < k
      · obtain ⟨t, ht, hl, e⟩ := row_from hs hy hk h
        have h3 := stp_ok hs hy ht
        have r := row_step b hs' (y := y) hy (steps_more (q := q) ht) (k := k) hl
        have := ih (k - t.l) (by omega) t.x h3.1
        omega
      · obtain rfl : k = 0 := by omega
        exact Int.le_refl _
    · have := row_NO b (s := s.more q) (k := k) (y := y); omega
theorem part_step {s : Sp} {q : Part} (h : q ∈ s.ps) : (⟨.str q.t, (q.i, q.d), q.l, q.c⟩ : Stp) ∈ stepsF s (q.j, q.e) :=
  List.mem_cons_of_mem _ (List.mem_map.mpr ⟨q, List.mem_filter.mpr ⟨h, decide_eq_true rfl⟩, rfl⟩)
theorem row_self (s : Sp) (b : Nat × Bool) : rowF s b 0 b = 0 := by
  show (if b = b then (0 : Int) else NO) = 0
  rw [if_pos rfl]
theorem row_zero {s : Sp} {b x : Nat × Bool} (h : rowF s b 0 x < NO) : x = b ∧ rowF s b 0 x = 0 := by
  have h' : (if x = b then (0 : Int) else NO) < NO := h
  by_cases e : x = b
  · exact ⟨e, by show (if x = b then (0 : Int) else NO) = 0; rw [if_pos e]⟩
  · rw [if_neg e] at h'; omega
/-- a plain step, or a piece, first -/
theorem row_plain1 {s : Sp} {b : Nat × Bool} (hs : s.ok) (h5 : s.m.length ≤ 5) (hb : b.1 < s.m.length) (l : Nat) {y : Nat × Bool} (hy : y.1 < s.m.length) : rowF s b (1 + l) y ≤ rowF s (nxS s.m.length b) l y := by
  have h := row_tri' (b := b) (m := nxS s.m.length b) hs (nx_lt hb) 1 l hy
  have h1 := row_plain b hs (k := 0) (y := nxS s.m.length b) (nx_lt hb)
  rw [bk_nx hb h5, row_self] at h1
  have h2 : rowF s b 1 (nxS s.m.length b) ≤ 0 := h1
  omega
theorem row_piece1 {s : Sp} {q : Part} (hs : s.ok) (hq : q ∈ s.ps) (l : Nat) {y : Nat × Bool} (hy : y.1 < s.m.length) : rowF s (q.i, q.d) (q.l + l) y ≤ (q.c : Int) + rowF s (q.j, q.e) l y := by
  have ok := hs.ps q hq
  have h := row_tri' (b := (q.i, q.d)) (m := (q.j, q.e)) hs ok.2.1.2 q.l l hy
  have h1 := row_step (q.i, q.d) hs (y := (q.j, q.e)) ok.2.1.2 (part_step hq) (k := q.l) (Nat.le_refl _)
  have h2 : rowF s (q.i, q.d) q.l (q.j, q.e) ≤ rowF s (q.i, q.d) (q.l - q.l) (q.i, q.d) + (q.c : Int) := h1
  rw [Nat.sub_self, row_self] at h2
  omega
theorem row_first {s : Sp} {b : Nat × Bool} (hs : s.ok) (h5 : s.m.length ≤ 5) (hb : b.1 < s.m.length) : ∀ (k : Nat) (y : Nat × Bool), y.1 < s.m.length → 0 < k → rowF s b k y < NO →
    (rowF s (nxS s.m.length b) (k - 1) y ≤ rowF s b k y) ∨ ∃ q ∈ s.ps, (q.i, q.d) = b ∧ q.l ≤ k ∧ (q.c : Int) + rowF s (q.j, q.e) (k - q.l) y ≤ rowF s b k y := by
  intro k
  induction k using Nat.strongRecOn with
  | ind k ih =>
    intro y hy hk h
    obtain ⟨t, ht, hl, e⟩ := row_from hs hy hk h
    have h3 := stp_ok hs hy ht
    by_cases hz : k - t.l = 0
    · have hk' : k = t.l := by omega
      have hx := row_zero (s := s) (b := b) (x := t.x) (by rw [hz] at e; omega)
      rw [hz, hx.2] at e
      rcases List.mem_cons.mp ht with rfl | hp
      · left
        have hx1 : bkS s.m.length y = b := hx.1
        have hk1 : k = 1 := hk'
        subst hk1
        rw [← hx1, nx_bk hy h5]
        show rowF s y 0 y ≤ _
        rw [row_self]
        exact row_nn hs 1 y hy
      · right
        obtain ⟨q, hq, rfl⟩ := List.mem_map.mp hp
        obtain ⟨h1, h2⟩ := List.mem_filter.mp hq
        have h2 := of_decide_eq_true h2
        have hk' : k = q.l := hk'
        refine ⟨q, h1, hx.1, by omega, ?_⟩
        rw [h2, hk', Nat.sub_self, row_self]
        rw [hk'] at e
        have e : (0 : Int) + (q.c : Int) = rowF s b q.l y := e
        omega
    · rcases ih (k - t.l) (by omega) t.x h3.1 (by omega) (by omega) with i | ⟨q, hq, h1, h2, i⟩
      · left
        have r := row_step (nxS s.m.length b) hs hy ht (k := k - 1) (by omega)
        rw [show k - 1 - t.l = k - t.l - 1 by omega] at r
        omega
      · right
        refine ⟨q, hq, h1, by omega, ?_⟩
        have r := row_step (q.j, q.e) hs hy ht (k := k - q.l) (by omega)
        rw [show k - q.l - t.l = k - t.l - q.l by omega] at r
        omega

end K20

namespace K20
open PySem PySem.Spec PyProof.Rows L2 Cw
def nmB (k : Nat) : Str := ⟨#[97 + k]⟩
def SB__law_state : Pm := fun c ds Φ => ∃ a b n, c = [brk a b] ∧ ds = [.cell 0, .int n] ∧ (1 ≤ n ∧ n ≤ 5) ∧ BR a b ∧ ∀ (i : Nat) (d : Bool) a' b', (i : Int) < n → BR a' b' → Φ (.str (stS i d)) [brk a' b']
theorem stateB_call {a b n : Int} {rest : List Cell} {Φ : D → List Cell → Prop} (hB : BR a b) (hn : 1 ≤ n ∧ n ≤ 5)
    (h : ∀ (i : Nat) (d : Bool) a' b', (i : Int) < n → BR a' b' → Φ (.str (stS i d)) (brk a' b' :: rest)) : callM SB__law_state [.cell 0, .int n] (brk a b :: rest) Φ :=
  ⟨brk a b, rfl, rfl, rfl, a, b, n, rfl, rfl, hn, hB, fun i d a' b' h1 h2 => ⟨rfl, rfl, h i d a' b' h1 h2⟩⟩
/-- the border books that the laws over a brook draw -/
structure drawnB (s : Sp) (P T : Int) : Prop where
  ok : s.ok
  mp : (s.m.length : Int) ≤ P
  nm : s.ps.map (·.t) = (List.range s.ps.length).map nmB
  nt : (s.ps.length : Int) ≤ T
theorem at5 {v : Int} (h : 0 ≤ v ∧ v < 5) : ∃ q, L2.atI (Str.ofString "abcab").cps.toList v = some q ∧ lower q = true := by
  have : v = 0 ∨ v = 1 ∨ v = 2 ∨ v = 3 ∨ v = 4 := by omega
  rcases this with rfl | rfl | rfl | rfl | rfl
  · exact ⟨97, by decide, by decide⟩
  · exact ⟨98, by decide, by decide⟩
  · exact ⟨99, by decide, by decide⟩
  · exact ⟨97, by decide, by decide⟩
  · exact ⟨98, by decide, by decide⟩
theorem at8 {k : Nat} (h : k < 8) : L2.atI (Str.ofString "abcdefgh").cps.toList (0 + (k : Int)) = some (97 + k) := all_small h (P := fun k : Nat => L2.atI (Str.ofString "abcdefgh").cps.toList (0 + (k : Int)) = some (97 + k)) (by decide +kernel)
theorem nmB_let {k : Nat} (h : k < 26) : isLet (nmB k) 8 = true := all_small h (P := fun k => isLet (nmB k) 8 = true) (by decide +kernel)
theorem nmB_inj {j k : Nat} (h : nmB j = nmB k) : j = k := by
  have : (nmB j).cps = (nmB k).cps := by rw [h]
  have e : #[97 + j] = #[97 + k] := this
  have e : [97 + j] = [97 + k] := congrArg Array.toList e
  injection e with e _
  omega
theorem nmB_nd (n : Nat) : ((List.range n).map nmB).Nodup := List.pairwise_map.mpr (List.Pairwise.imp (fun hne e => hne (nmB_inj e)) List.nodup_range)
theorem rng_at {m k : Nat} {d : D} {ds : List D} (h : d :: ds = ((List.range m).drop k).map fun i : Nat => D.int (0 + (i : Int))) : k < m ∧ d = .int (0 + (k : Int)) ∧ ds = ((List.range m).drop (k + 1)).map fun i : Nat => D.int (0 + (i : Int)) := by
  have hk : k < m := by
    have := congrArg List.length h
    rw [List.length_map, List.length_drop, List.length_range, List.length_cons] at this
    omega
  rw [List.drop_eq_getElem_cons (by rw [List.length_range]; exact hk), List.map_cons, List.getElem_range] at h
  injection h with e1 e2
  exact ⟨hk, e1, e2⟩
theorem rng_end {m k : Nat} (hk : k ≤ m) (h : ([] : List D) = ((List.range m).drop k).map fun i : Nat => D.int (0 + (i : Int))) : k = m := by
  have := congrArg List.length h
  rw [List.length_map, List.length_drop, List.length_range] at this
  have : m - k = 0 := this.symm
  omega
theorem ixB_at {c : List Cell} {xs : List D} {x : D} {i : Int} {Ψ : D → List Cell → Prop} (h : L2.atI xs i = some x) (q : Ψ x c) : fIx (vw c (.lst xs)) (vw c (.int i)) c Ψ := by
  show (match L2.atI xs i with
    | some x => Ψ x c
    | none => False)
  rw [h]; exact q
def SB__law_spec : Pm := fun c ds Φ => ∃ a b P T E, c = [brk a b] ∧ ds = [.cell 0, .int P, .int T, .int E] ∧ (1 ≤ P ∧ P ≤ 5) ∧ (0 ≤ T ∧ T ≤ 7) ∧ (1 ≤ E ∧ E ≤ 11) ∧ BR a b ∧ ∀ (s : Sp) a' b', drawnB s P T → BR a' b' → Φ s.d [brk a' b']
def SB__law_lines : Pm := fun c ds Φ => ∃ s : Sp, ds = [s.d] ∧ s.ok ∧ Φ (.lst (s.lines.map .str)) c
def SB__law_made (C : Addr) : Pm := fun c ds Φ => ∃ s : Sp, ds = [s.d] ∧ s.ok ∧ ∀ zs, tits s zs → Φ (bD C s zs) c
def SB__law_plain : Pm := fun c ds Φ => ∃ s : Sp, ∃ i d, ds = [s.d, .str (stS i d)] ∧ s.ok ∧ i < s.m.length ∧ Φ (.str (stS (farN s.m.length i d 1) d)) c
theorem flds_ok' (s : Sp) (zs : List Str) : okDs 0 [.str s.text, .str s.m, .tup (s.ps.map Part.d'), .tup (s.js.map Joint.d'), stD s.m.length, .tup (zs.map .str)] = true := by
  show (true && (true && (okDs 0 (s.ps.map Part.d') && (okDs 0 (s.js.map Joint.d') && (okDs 0 ((stL s.m.length).map D.str) && (okDs 0 (zs.map D.str) && true)))))) = true
  rw [okDs_map (fun _ => rfl), okDs_map (fun _ => rfl), okDs_map (fun _ => rfl), okDs_map (fun _ => rfl)]; rfl
theorem st_last {i : Nat} (d : Bool) (h : i < 10) : L2.atI (stS i d).cps.toList (-1) = some (if d then 62 else 60) := by
  cases d
  · exact all_small h (P := fun i : Nat => L2.atI (stS i false).cps.toList (-1) = some 60) (by decide +kernel)
  · exact all_small h (P := fun i : Nat => L2.atI (stS i true).cps.toList (-1) = some 62) (by decide +kernel)
theorem st_cut {i : Nat} (d : Bool) (h : i < 10) : cutS (stS i d) none (some (-1)) = ⟨#[48 + i]⟩ := by
  cases d
  · exact all_small h (P := fun i : Nat => cutS (stS i false) none (some (-1)) = ⟨#[48 + i]⟩) (by decide +kernel)
  · exact all_small h (P := fun i : Nat => cutS (stS i true) none (some (-1)) = ⟨#[48 + i]⟩) (by decide +kernel)
section
variable {P : Program} {w : World} {K : PySem.W.Frag} {mg : Str → Option Value} {base : Heap}
set_option maxHeartbeats 8000000 in
theorem ok__law_state (T : Tx K mg) : FnOk P w K mg base CX0 2 T.a__law_state T.d__law_state ["_law_brook_here", "_law_period"] (spD K 1 2 SB__law_state) := by
  refine fnD T.F__law_state sc__law_state fun cdv A outer s H E hr => ⟨_, (psd_one (psd_ret (pd_add (pd_strc (pd_callM (ok__law_sip T) (hr.mono (by decide)) T.g__law_sip T.F__law_sip.kp T.b__law_sip pass0 (pds_cons (pd_v 0) (pds_cons (pd_v 1) pds_nil))) T.n_str) (pd_ix (pd_lst (pds_cons pd_str (pds_cons pd_str (pds_cons pd_str pds_nil)))) (pd_callM (ok__law_sip T) (hr.mono (by decide)) T.g__law_sip T.F__law_sip.kp T.b__law_sip pass0 (pds_cons (pd_v 0) (pds_cons pd_int pds_nil))))))), ?_⟩
  rintro c ds Φ hc - ⟨a, b, n, rfl, rfl, hn, hB, hΦ⟩
  conv => whnf
  refine ⟨rfl, ?_⟩
  refine sip_call (rest := []) hB ⟨by omega, by omega⟩ fun v a1 b1 v1 v2 hB1 => ?_
  obtain ⟨i, rfl⟩ : ∃ i : Nat, v = i := ⟨v.toNat, by omega⟩
  conv => whnf
  refine ⟨dig_small (by omega), ?_⟩
  conv => whnf
  refine ⟨by show 3 ≤ sizeLine; decide, ?_⟩
  conv => whnf
  refine ⟨rfl, ?_⟩
  refine sip_call (rest := []) hB1 (by decide) fun u a2 b2 u1 u2 hB2 => ?_
  have hi : (toString (i : Int) : Str).length ≤ 1 := tame_len (dig_tame (by omega))
  have hu : u = 0 ∨ u = 1 ∨ u = 2 := by omega
  rcases hu with rfl | rfl | rfl
  · conv => whnf
    refine ⟨short (by show _ + 1 ≤ _; omega), ?_⟩
    conv => whnf
    exact hΦ i true _ _ v2 hB2
  · conv => whnf
    refine ⟨short (by show _ + 1 ≤ _; omega), ?_⟩
    conv => whnf
    exact hΦ i true _ _ v2 hB2
  · conv => whnf
    refine ⟨short (by show _ + 1 ≤ _; omega), ?_⟩
    conv => whnf
    exact hΦ i false _ _ v2 hB2
set_option maxHeartbeats 8000000 in
theorem ok__law_spec (T : Tx K mg) : FnOk P w K mg base CX0 3 T.a__law_spec T.d__law_spec ["_law_brook_here", "_law_periods", "_law_lots", "_law_ends"] (spD K 1 4 SB__law_spec) := by
  refine fnD T.F__law_spec sc__law_spec fun cdv A outer s H E hr => ⟨_, (psd_cons (psd_set (i := 4) sc__law_spec.nd (pd_add pd_int (pd_callM (ok__law_sip T) (hr.mono (by decide)) T.g__law_sip T.F__law_sip.kp T.b__law_sip pass0 (pds_cons (pd_v 0) (pds_cons (pd_v 1) pds_nil))))) (psd_cons (psd_set (i := 5) sc__law_spec.nd (pd_join pd_str (pd_lc (i := 8) rfl sc__law_spec.nd (pid_range1 (pd_v 4) T.n_range) (by kernel_rfl) (fun _ _ _ _ _ => pg_name (i := 8) sc__law_spec.nd rfl (Or.inl rfl)) (fun _ _ _ _ _ => ptd_nil) (fun _ _ _ _ _ => (pd_ix pd_str (pd_mod (pd_intc (pd_add (pd_v 8) (pd_callM (ok__law_sip T) (hr.mono (by decide)) T.g__law_sip T.F__law_sip.kp T.b__law_sip pass0 (pds_cons (pd_v 0) (pds_cons pd_int pds_nil)))) T.n_int) pd_int)))))) (psd_cons (psd_par (i := 6) (j := 7) rfl sc__law_spec.nd (pd_lstM pds_nil) (pd_lstM pds_nil)) (psd_cons (psd_for PassesOwn.never rfl (pid_range1 (pd_callM (ok__law_sip T) (hr.mono (by decide)) T.g__law_sip T.F__law_sip.kp T.b__law_sip pass0 (pds_cons (pd_v 0) (pds_cons (pd_add (pd_v 2) pd_int) pds_nil))) T.n_range) (pgd_name (i := 8) sc__law_spec.nd) (psd_cons (psd_par (i := 9) (j := 10) rfl sc__law_spec.nd (pd_callM (ok__law_state T) (hr.mono (by decide)) T.g__law_state T.F__law_state.kp T.b__law_state pass0 (pds_cons (pd_v 0) (pds_cons (pd_v 4) pds_nil))) (pd_callM (ok__law_state T) (hr.mono (by decide)) T.g__law_state T.F__law_state.kp T.b__law_state pass0 (pds_cons (pd_v 0) (pds_cons (pd_v 4) pds_nil)))) (psd_cons (psd_set (i := 11) sc__law_spec.nd (pd_tup (pds_cons (pd_ix pd_str (pd_v 8)) (pds_cons (pd_v 9) (pds_cons (pd_v 10) (pds_cons (pd_add pd_int (pd_callM (ok__law_sip T) (hr.mono (by decide)) T.g__law_sip T.F__law_sip.kp T.b__law_sip pass0 (pds_cons (pd_v 0) (pds_cons (pd_ix (pd_lst (pds_cons pd_int (pds_cons pd_int (pds_cons pd_int pds_nil)))) (pd_callM (ok__law_sip T) (hr.mono (by decide)) T.g__law_sip T.F__law_sip.kp T.b__law_sip pass0 (pds_cons (pd_v 0) (pds_cons pd_int pds_nil)))) pds_nil)))) (pds_cons (pd_callM (ok__law_sip T) (hr.mono (by decide)) T.g__law_sip T.F__law_sip.kp T.b__law_sip pass0 (pds_cons (pd_v 0) (pds_cons pd_int pds_nil))) pds_nil))))))) (psd_one (psd_expr (pd_append (pd_v 6) (pd_v 11))))))) (psd_cons (psd_for PassesOwn.never rfl (pid_range1 (pd_add pd_int (pd_callM (ok__law_sip T) (hr.mono (by decide)) T.g__law_sip T.F__law_sip.kp T.b__law_sip pass0 (pds_cons (pd_v 0) (pds_cons (pd_v 3) pds_nil)))) T.n_range) (pgd_name (i := 8) sc__law_spec.nd) (psd_cons (psd_par (i := 9) (j := 10) rfl sc__law_spec.nd (pd_callM (ok__law_state T) (hr.mono (by decide)) T.g__law_state T.F__law_state.kp T.b__law_state pass0 (pds_cons (pd_v 0) (pds_cons (pd_v 4) pds_nil))) (pd_callM (ok__law_state T) (hr.mono (by decide)) T.g__law_state T.F__law_state.kp T.b__law_state pass0 (pds_cons (pd_v 0) (pds_cons (pd_v 4) pds_nil)))) (psd_cons (psd_if (pdt_eq hr (pd_callM (ok__law_sip T) (hr.mono (by decide)) T.g__law_sip T.F__law_sip.kp T.b__law_sip pass0 (pds_cons (pd_v 0) (pds_cons pd_int pds_nil))) pd_int) (psd_one (psd_set (i := 10) sc__law_spec.nd (pd_v 9))) psd_nil) (psd_cons (psd_set (i := 12) sc__law_spec.nd (pd_ix (pd_lst (pds_cons pd_str (pds_cons pd_str (pds_cons pd_str pds_nil)))) (pd_callM (ok__law_sip T) (hr.mono (by decide)) T.g__law_sip T.F__law_sip.kp T.b__law_sip pass0 (pds_cons (pd_v 0) (pds_cons pd_int pds_nil))))) (psd_cons (psd_par (i := 13) (j := 14) rfl sc__law_spec.nd (pd_ix (pd_lst (pds_cons pd_str (pds_cons pd_str (pds_cons pd_str pds_nil)))) (pd_callM (ok__law_sip T) (hr.mono (by decide)) T.g__law_sip T.F__law_sip.kp T.b__law_sip pass0 (pds_cons (pd_v 0) (pds_cons pd_int pds_nil)))) (pd_callM (ok__law_sip T) (hr.mono (by decide)) T.g__law_sip T.F__law_sip.kp T.b__law_sip pass0 (pds_cons (pd_v 0) (pds_cons (pd_ix (pd_lst (pds_cons pd_int (pds_cons pd_int pds_nil))) (pd_callM (ok__law_sip T) (hr.mono (by decide)) T.g__law_sip T.F__law_sip.kp T.b__law_sip pass0 (pds_cons (pd_v 0) (pds_cons pd_int pds_nil)))) pds_nil)))) (psd_cons (psd_set (i := 11) sc__law_spec.nd (pd_tup (pds_cons (pd_v 13) (pds_cons (pd_v 12) (pds_cons (pd_v 9) (pds_cons (pd_v 10) (pds_cons (pd_v 14) pds_nil))))))) (psd_one (psd_if (pdt_nin hr (pd_v 11) (pd_v 7)) (psd_one (psd_expr (pd_append (pd_v 7) (pd_v 11)))) psd_nil)))))))) (psd_one (psd_ret (pd_tup (pds_cons (pd_v 5) (pds_cons (pd_tuplec (pd_v 6) T.n_tuple) (pds_cons (pd_tuplec (pd_v 7) T.n_tuple) pds_nil))))))))))), ?_⟩
  rintro c ds Φ hc - ⟨a, b, P, T', E', rfl, rfl, hP, hT, hE, hB, hΦ⟩
  conv => whnf
  refine ⟨rfl, ?_⟩
  refine sip_call (rest := []) hB ⟨by omega, by omega⟩ fun n a1 b1 n1 n2 hB1 => ?_
  conv => whnf
  refine ⟨_, rfl, ?_⟩
  conv => whnf
  refine ⟨by omega, ?_⟩
  refine lc_inv (fun rest acc c => ∃ (ks : List Nat) (a b : Int), acc = ks.map (fun q => D.str (one q)) ∧ (∀ q ∈ ks, lower q = true) ∧ c = [brk a b] ∧ BR a b ∧ ks.length + rest.length = (1 + n).toNat ∧ ∀ d ∈ rest, ∃ j : Int, d = .int j) ?_ ?_ _ _ _ ⟨[], a1, b1, rfl, (by intro _ h; cases h), rfl, hB1, (by show 0 + _ = _; rw [rng_len, Nat.zero_add]), (by
    intro d hd
    obtain ⟨j, hj, rfl⟩ := List.mem_map.mp hd
    exact ⟨_, rfl⟩)⟩
  case refine_2 =>
    rintro d ds acc c F hF ⟨ks, a, b, rfl, h1, rfl, hB, h2, h3⟩
    obtain ⟨j, rfl⟩ := h3 d List.mem_cons_self
    rw [List.length_cons] at h2
    conv => whnf
    refine ⟨rfl, ?_⟩
    refine sip_call (rest := [.lst (ks.map fun q => D.str (one q))]) hB (by decide) fun v a' b' v1 v2 hB' => ?_
    conv => whnf
    refine ⟨by decide, ?_⟩
    conv => whnf
    obtain ⟨q, e1, e2⟩ := at5 ⟨Int.emod_nonneg (j + v) (show (5 : Int) ≠ 0 by decide), Int.emod_lt_of_pos (j + v) (show (0 : Int) < 5 by decide)⟩
    refine ⟨by decide, ?_⟩
    rw [e1]
    conv => whnf
    refine ⟨by rw [List.length_map]; exact Nat.lt_of_lt_of_le (show ks.length < 100 by omega) (by decide), rfl, ?_⟩
    exact hF _ _ ⟨ks ++ [q], a', b', by rw [List.map_append]; rfl, fun x hx => (List.mem_append.mp hx).elim (h1 x) fun e => by rw [List.mem_singleton.mp e]; exact e2, rfl, hB', by rw [List.length_append]; show ks.length + 1 + _ = _; omega, fun d hd => h3 d (List.mem_cons_of_mem _ hd)⟩
  rintro acc c ⟨ks, a2, b2, rfl, h1, rfl, hB2, h2, -⟩
  have h2 : ks.length = (1 + n).toNat := h2
  have hM := let_mk (n := 5) (List.all_eq_true.mpr h1) (by omega) (by omega)
  have lM : (⟨ks.toArray⟩ : Str).length = (1 + n).toNat := by rw [← h2]; show ks.toArray.size = _; simp
  refine ⟨rfl, okDs_map (fun _ => rfl) ks, ?_⟩
  conv => whnf
  refine ⟨ks.map one, txts_of_ones ks, by rw [show ("" : Str).length = 0 by decide, sum_ones]; omega, ?_⟩
  rw [join_ones]
  generalize (⟨ks.toArray⟩ : Str) = M at hM lM
  conv => whnf
  refine ⟨Nat.zero_le _, ?_⟩
  conv => whnf
  refine ⟨Nat.zero_le _, ?_⟩
  conv => whnf
  refine ⟨rfl, ?_⟩
  refine sip_call (rest := [.lst [], .lst []]) hB2 ⟨by omega, by omega⟩ fun v a3 b3 v1 v2 hB3 => ?_
  conv => whnf
  refine ⟨by omega, ?_⟩
  have eN : (1 + n).toNat = M.length := lM.symm
  have hn5 : M.length ≤ 5 := by omega
  have hn1 : (1 : Int) + n = (M.length : Int) := by omega
  rw [hn1]
  refine forD_inv (fun ds ρ c => ∃ (ps : List Part) (a b : Int) (x8 x9 x10 x11 : Option D), ρ = [some (.cell 0), some (.int P), some (.int T'), some (.int E'), some (.int M.length), some (.str M), some (.cell 1), some (.cell 2), x8, x9, x10, x11, none, none, none] ∧ c = [brk a b, .lst (ps.map Part.d'), .lst []] ∧ ps.length ≤ v.toNat ∧ ds = ((List.range v.toNat).drop ps.length).map (fun i : Nat => D.int (0 + (i : Int))) ∧ (∀ p ∈ ps, p.ok M.length) ∧ ps.map (·.t) = (List.range ps.length).map nmB ∧ BR a b) ?_ ?_ _ _ _ ⟨[], a3, b3, none, none, none, none, rfl, rfl, Nat.zero_le _, rfl, (by intro _ h; cases h), rfl, hB3⟩
  case refine_2 =>
    rintro d ds ρ c F hF ⟨ps, a, b, x8, x9, x10, x11, rfl, rfl, hl, ed, okp, hnm, hB⟩
    obtain ⟨hk, rfl, e2⟩ := rng_at ed
    conv => whnf
    refine ⟨rfl, ?_⟩
    refine stateB_call (rest := [.lst (ps.map Part.d'), .lst []]) hB ⟨by omega, by omega⟩ fun i d a4 b4 i1 hB4 => ?_
    conv => whnf
    refine ⟨rfl, ?_⟩
    refine stateB_call (rest := [.lst (ps.map Part.d'), .lst []]) hB4 ⟨by omega, by omega⟩ fun j e a5 b5 j1 hB5 => ?_
    conv => whnf
    refine ⟨by decide, ?_⟩
    rw [at8 (by omega)]
    conv => whnf
    refine ⟨by show 3 ≤ sizeLine; decide, ?_⟩
    conv => whnf
    refine ⟨rfl, ?_⟩
    refine sip_call (m := 3) (rest := [.lst (ps.map Part.d'), .lst []]) hB5 (by decide) fun w a6 b6 w1 w2 hB6 => ?_
    have hm : ∃ m : Int, (m = 2 ∨ m = 3 ∨ m = 6) ∧ L2.atI ([.int 2, .int 3, .int 6] : List D) w = some (.int m) := by
      have : w = 0 ∨ w = 1 ∨ w = 2 := by omega
      rcases this with rfl | rfl | rfl
      · exact ⟨2, .inl rfl, rfl⟩
      · exact ⟨3, .inr (.inl rfl), rfl⟩
      · exact ⟨6, .inr (.inr rfl), rfl⟩
    obtain ⟨m, hm, em⟩ := hm
    refine ixB_at em ?_
    conv => whnf
    refine ⟨rfl, ?_⟩
    refine sip_call (m := m) (rest := [.lst (ps.map Part.d'), .lst []]) hB6 (by omega) fun l a7 b7 l1 l2 hB7 => ?_
    obtain ⟨l, rfl⟩ : ∃ n : Nat, l = n := ⟨l.toNat, by omega⟩
    conv => whnf
    refine ⟨rfl, ?_⟩
    refine sip_call (m := 10) (rest := [.lst (ps.map Part.d'), .lst []]) hB7 (by decide) fun cc a8 b8 c1 c2 hB8 => ?_
    obtain ⟨cc, rfl⟩ : ∃ n : Nat, cc = n := ⟨cc.toNat, by omega⟩
    conv => whnf
    rw [show (1 : Int) + (l : Int) = ((1 + l : Nat) : Int) by omega]
    refine ⟨by show 5 ≤ sizeLine; decide, ?_⟩
    conv => whnf
    refine ⟨1, rfl, ⟨_, rfl⟩, ?_⟩
    conv => whnf
    refine ⟨_, rfl, by rw [List.length_map]; exact Nat.lt_of_lt_of_le (show ps.length < 100 by omega) (by decide), ?_⟩
    conv => whnf
    exact hF _ _ ⟨ps ++ [⟨nmB ps.length, i, d, j, e, 1 + l, cc⟩], a8, b8, _, _, _, _, rfl, by rw [List.map_append]; rfl, by rw [List.length_append]; show ps.length + 1 ≤ _; omega, by rw [List.length_append]; exact e2, fun q hq => (List.mem_append.mp hq).elim (okp q) fun z => by rw [List.mem_singleton.mp z]; exact ⟨nmB_let (by omega), ⟨by show i < _; omega, by show j < _; omega⟩, ⟨by show 1 ≤ 1 + l; omega, by show 1 + l ≤ 6; omega⟩, by show cc ≤ 9; omega⟩, by rw [List.map_append, hnm, List.length_append]; show _ = List.map nmB (List.range (ps.length + 1)); rw [List.range_succ, List.map_append]; rfl, hB8⟩
  rintro ρ c ⟨ps, a, b, x8, x9, x10, x11, rfl, rfl, hl, ed, okp, hnm, hB⟩
  have hlv := rng_end hl ed
  conv => whnf
  refine ⟨rfl, ?_⟩
  refine sip_call (m := E') (rest := [.lst (ps.map Part.d'), .lst []]) hB ⟨by omega, by omega⟩ fun u a4 b4 u1 u2 hB4 => ?_
  conv => whnf
  refine ⟨by omega, ?_⟩
  refine forD_inv (fun ds ρ c => ∃ (js : List Joint) (a b : Int) (x8 x9 x10 x11 x12 x13 x14 : Option D), ρ = [some (.cell 0), some (.int P), some (.int T'), some (.int E'), some (.int M.length), some (.str M), some (.cell 1), some (.cell 2), x8, x9, x10, x11, x12, x13, x14] ∧ c = [brk a b, .lst (ps.map Part.d'), .lst (js.map Joint.d')] ∧ (∀ p ∈ js, p.ok M.length) ∧ (∀ p ∈ js, p.t ∈ [Str.ofString "p", Str.ofString "q", Str.ofString "r"]) ∧ (js.map Joint.k).Nodup ∧ js.length + ds.length ≤ 11 ∧ BR a b) ?_ ?_ _ _ _ ⟨[], a4, b4, _, _, _, _, none, none, none, rfl, rfl, (by intro _ h; cases h), (by intro _ h; cases h), List.nodup_nil, (by rw [rng_len]; show 0 + _ ≤ _; omega), hB4⟩
  · rintro ρ c ⟨js, a, b, x8, x9, x10, x11, x12, x13, x14, rfl, rfl, o1, o2, o3, o4, hB⟩
    conv => whnf
    refine ⟨by show (3 : Nat) ≤ sizeLine; decide, ?_⟩
    refine ⟨rfl, ?_, ?_⟩
    · show (true && (okDs 1 (ps.map Part.d') && (okDs 1 (js.map Joint.d') && true))) = true
      rw [okDs_map (fun _ => rfl), okDs_map (fun _ => rfl)]; rfl
    · exact hΦ ⟨M, ps, js⟩ a b ⟨⟨hM, okp, by show ps.length ≤ 8; omega, by show (ps.map (·.t)).Nodup; rw [hnm]; exact nmB_nd _, o1, by have : js.length + 0 ≤ 11 := o4; show js.length ≤ 12; omega, o3, [Str.ofString "p", Str.ofString "q", Str.ofString "r"], by decide, o2⟩, by show (M.length : Int) ≤ P; omega, hnm, by show (ps.length : Int) ≤ T'; omega⟩ hB
  · rintro d ds ρ c F hF ⟨js, a, b, x8, x9, x10, x11, x12, x13, x14, rfl, rfl, o1, o2, o3, o4, hB⟩
    have o4 : js.length + (ds.length + 1) ≤ 11 := o4
    conv => whnf
    refine ⟨rfl, ?_⟩
    refine stateB_call (rest := [.lst (ps.map Part.d'), .lst (js.map Joint.d')]) hB ⟨by omega, by omega⟩ fun i d a5 b5 i1 hB5 => ?_
    conv => whnf
    refine ⟨rfl, ?_⟩
    refine stateB_call (rest := [.lst (ps.map Part.d'), .lst (js.map Joint.d')]) hB5 ⟨by omega, by omega⟩ fun j e a6 b6 j1 hB6 => ?_
    conv => whnf
    refine ⟨rfl, ?_⟩
    refine sip_call (m := 2) (rest := [.lst (ps.map Part.d'), .lst (js.map Joint.d')]) hB6 (by decide) fun w a7 b7 w1 w2 hB7 => ?_
    have hi : i < M.length := by omega
    have hj : j < M.length := by omega
    have tail : ∀ (De : DEnds) (f : Nat) (g : Bool) (x8 x11 x12 x13 x14 : Option D), f < M.length → (∀ ρ c, F ρ c → De.nx ρ c) → (dSeq (dSet 12 (dBin fIx (dLst (dCons (dC (D.str (Str.ofString "out"))) (dCons (dC (D.str (Str.ofString "out"))) (dCons (dC (D.str (Str.ofString "in"))) dNil)))) (dCallM S__law_sip 2 (dCons (dVar 0) (dCons (dC (D.int 3)) dNil))))) (dSeq (dPar 13 14 (dBin fIx (dLst (dCons (dC (D.str (Str.ofString "p"))) (dCons (dC (D.str (Str.ofString "q"))) (dCons (dC (D.str (Str.ofString "r"))) dNil)))) (dCallM S__law_sip 2 (dCons (dVar 0) (dCons (dC (D.int 3)) dNil)))) (dCallM S__law_sip 2 (dCons (dVar 0) (dCons (dBin fIx (dLst (dCons (dC (D.int 1)) (dCons (dC (D.int 10)) dNil))) (dCallM S__law_sip 2 (dCons (dVar 0) (dCons (dC (D.int 2)) dNil)))) dNil)))) (dSeq (dSet 11 (dTup (dCons (dVar 13) (dCons (dVar 12) (dCons (dVar 9) (dCons (dVar 10) (dCons (dVar 14) dNil))))))) (dIfS (dT (dBin (fIn true) (dVar 11) (dVar 7))) (dDrop (dAppend (dVar 7) (dVar 11))) dNext)))) De [some (.cell 0), some (.int P), some (.int T'), some (.int E'), some (.int M.length), some (.str M), some (.cell 1), some (.cell 2), x8, some (.str (stS i d)), some (.str (stS f g)), x11, x12, x13, x14] [brk a7 b7, .lst (ps.map Part.d'), .lst (js.map Joint.d')] := fun De f g x8 x11 x12 x13 x14 hf hDe => by
      conv => whnf
      refine ⟨by show 3 ≤ sizeLine; decide, ?_⟩
      conv => whnf
      refine ⟨rfl, ?_⟩
      refine sip_call (m := 3) (rest := [.lst (ps.map Part.d'), .lst (js.map Joint.d')]) hB7 (by decide) fun v a8 b8 v1 v2 hB8 => ?_
      obtain ⟨o, eo⟩ : ∃ o : Bool, L2.atI ([.str (Str.ofString "out"), .str (Str.ofString "out"), .str (Str.ofString "in")] : List D) v = some (.str (bendS o)) := by
        have : v = 0 ∨ v = 1 ∨ v = 2 := by omega
        rcases this with rfl | rfl | rfl
        · exact ⟨true, rfl⟩
        · exact ⟨true, rfl⟩
        · exact ⟨false, rfl⟩
      refine ixB_at eo ?_
      conv => whnf
      refine ⟨by show 3 ≤ sizeLine; decide, ?_⟩
      conv => whnf
      refine ⟨rfl, ?_⟩
      refine sip_call (m := 3) (rest := [.lst (ps.map Part.d'), .lst (js.map Joint.d')]) hB8 (by decide) fun y a9 b9 y1 y2 hB9 => ?_
      obtain ⟨t, et, tm, tl⟩ : ∃ t : Str, L2.atI ([.str (Str.ofString "p"), .str (Str.ofString "q"), .str (Str.ofString "r")] : List D) y = some (.str t) ∧ t ∈ [Str.ofString "p", Str.ofString "q", Str.ofString "r"] ∧ isLet t 8 = true := by
        have : y = 0 ∨ y = 1 ∨ y = 2 := by omega
        rcases this with rfl | rfl | rfl
        · exact ⟨_, rfl, by simp, by decide +kernel⟩
        · exact ⟨_, rfl, by simp, by decide +kernel⟩
        · exact ⟨_, rfl, by simp, by decide +kernel⟩
      refine ixB_at et ?_
      conv => whnf
      refine ⟨by show 2 ≤ sizeLine; decide, ?_⟩
      conv => whnf
      refine ⟨rfl, ?_⟩
      refine sip_call (m := 2) (rest := [.lst (ps.map Part.d'), .lst (js.map Joint.d')]) hB9 (by decide) fun z a10 b10 z1 z2 hB10 => ?_
      obtain ⟨m, em, hm⟩ : ∃ m : Int, L2.atI ([.int 1, .int 10] : List D) z = some (.int m) ∧ (m = 1 ∨ m = 10) := by
        have : z = 0 ∨ z = 1 := by omega
        rcases this with rfl | rfl
        · exact ⟨1, rfl, .inl rfl⟩
        · exact ⟨10, rfl, .inr rfl⟩
      refine ixB_at em ?_
      conv => whnf
      refine ⟨rfl, ?_⟩
      refine sip_call (m := m) (rest := [.lst (ps.map Part.d'), .lst (js.map Joint.d')]) hB10 (by omega) fun cc a11 b11 c1 c2 hB11 => ?_
      obtain ⟨cc, rfl⟩ : ∃ n : Nat, cc = n := ⟨cc.toNat, by omega⟩
      conv => whnf
      refine ⟨by show 5 ≤ sizeLine; decide, ?_⟩
      conv => whnf
      obtain ⟨p, hp⟩ : ∃ p : Joint, p = ⟨t, o, i, d, f, g, cc⟩ := ⟨_, rfl⟩
      have okq : p.ok M.length := by
        subst hp
        exact ⟨tl, ⟨hi, hf⟩, by show cc ≤ 9; omega⟩
      rw [show D.tup [.str t, .str (bendS o), .str (stS i d), .str (stS f g), .int cc] = p.d' by subst hp; rfl]
      refine .inr ⟨p.py, _, _, d_joint p, rfl, pys_of d_joint js, ?_, shaped_of (fun x hx => Joint.lay (o1 x hx) hn5) (fun x _ => Nat.le_refl _), ?_⟩
      · show (p.py.canLay0 && decide (1 ≤ 64)) = true
        rw [Joint.lay okq hn5]; rfl
      cases hany : (js.map Joint.py).any fun z => PyData.eqv z p.py with
      | true =>
        conv => whnf
        exact hDe _ _ (hF _ _ ⟨js, a11, b11, _, _, _, _, _, _, _, rfl, rfl, o1, o2, o3, by omega, hB11⟩)
      | false =>
        conv => whnf
        refine ⟨2, rfl, ⟨_, rfl⟩, ?_⟩
        conv => whnf
        refine ⟨_, rfl, by rw [List.length_map]; exact Nat.lt_of_lt_of_le (show js.length < 100 by omega) (by decide), ?_⟩
        conv => whnf
        have new : ∀ q ∈ js, q.k ≠ p.k := fun q hq e => by
          have z := List.any_eq_false.mp hany q.py (List.mem_map_of_mem hq)
          exact z (joint_eqv e)
        refine hDe _ _ (hF _ _ ⟨js ++ [p], a11, b11, _, _, _, _, _, _, _, rfl, by rw [List.map_append]; rfl, fun q hq => (List.mem_append.mp hq).elim (o1 q) fun e => by rw [List.mem_singleton.mp e]; exact okq, fun q hq => (List.mem_append.mp hq).elim (o2 q) fun e => by rw [List.mem_singleton.mp e, hp]; exact tm, ?_, by rw [List.length_append]; simp only [List.length_cons, List.length_nil]; omega, hB11⟩)
        rw [List.map_append]
        refine List.nodup_append.mpr ⟨o3, by simp, fun x hx y hy e => ?_⟩
        obtain ⟨q, hq, rfl⟩ := List.mem_map.mp hx
        rw [List.map_cons, List.map_nil, List.mem_singleton] at hy
        subst hy
        exact new q hq e
    have hw : w = 0 ∨ w = 1 := by omega
    rcases hw with rfl | rfl
    · conv => whnf
      exact tail _ i d _ _ _ _ _ hi fun _ _ h => h
    · conv => whnf
      exact tail _ j e _ _ _ _ _ hj fun _ _ h => h
set_option maxHeartbeats 8000000 in
theorem ok__law_lines (T : Tx K mg) : FnOk P w K mg base CX0 1 T.a__law_lines T.d__law_lines ["_law_spec_here"] (spD K 0 1 SB__law_lines) := by
  refine fnD T.F__law_lines sc__law_lines fun cdv A outer s H E hr => ⟨_, (psd_cons (psd_set (i := 1) sc__law_lines.nd (pd_lstM (pds_cons (pd_add pd_str (pd_ix (pd_v 0) pd_int)) pds_nil))) (psd_cons (psd_for PassesOwn.never rfl (pid_tup (pd_ix (pd_v 0) pd_int)) (pgd_tup rfl (pgds_cons (pgd_name (i := 2) sc__law_lines.nd) (pgds_cons (pgd_name (i := 3) sc__law_lines.nd) (pgds_cons (pgd_name (i := 4) sc__law_lines.nd) (pgds_cons (pgd_name (i := 5) sc__law_lines.nd) (pgds_cons (pgd_name (i := 6) sc__law_lines.nd) pgds_nil)))))) (psd_one (psd_expr (pd_append (pd_v 1) (pd_join pd_str (pd_lst (pds_cons pd_str (pds_cons (pd_v 2) (pds_cons (pd_v 3) (pds_cons (pd_v 4) (pds_cons pd_str (pds_cons (pd_strc (pd_v 5) T.n_str) (pds_cons pd_str (pds_cons (pd_strc (pd_v 6) T.n_str) pds_nil)))))))))))))) (psd_cons (psd_for PassesOwn.never rfl (pid_tup (pd_ix (pd_v 0) pd_int)) (pgd_tup rfl (pgds_cons (pgd_name (i := 2) sc__law_lines.nd) (pgds_cons (pgd_name (i := 7) sc__law_lines.nd) (pgds_cons (pgd_name (i := 3) sc__law_lines.nd) (pgds_cons (pgd_name (i := 4) sc__law_lines.nd) (pgds_cons (pgd_name (i := 6) sc__law_lines.nd) pgds_nil)))))) (psd_one (psd_expr (pd_append (pd_v 1) (pd_join pd_str (pd_lst (pds_cons pd_str (pds_cons (pd_v 2) (pds_cons (pd_v 7) (pds_cons (pd_v 3) (pds_cons (pd_v 4) (pds_cons pd_str (pds_cons (pd_strc (pd_v 6) T.n_str) pds_nil))))))))))))) (psd_one (psd_ret (pd_v 1)))))), ?_⟩
  rintro c ds Φ hc - ⟨s, rfl, hs, hΦ⟩
  cases c with
  | cons _ _ => cases hc
  | nil =>
  have hn : s.m.length ≤ 5 := tame_len (let_tame (n := 5) hs.m)
  have np := hs.np
  have nj := hs.nj
  conv => whnf
  refine ⟨short (by rw [show ("signs " : Str).length = 6 by decide]; omega), ?_⟩
  conv => whnf
  refine ⟨by show (1 : Nat) ≤ sizeLine; decide, ?_⟩
  conv => whnf
  refine forD_inv (fun ds ρ c => ∃ (done rest : List Part) (x2 x3 x4 x5 x6 : Option D), s.ps = done ++ rest ∧ ds = rest.map Part.d' ∧ ρ = [some s.d, some (.cell 0), x2, x3, x4, x5, x6, none] ∧ c = [.lst (D.str (Str.ofString "signs " ++ s.m) :: done.map fun p => D.str p.row)]) ?_ ?_ _ _ _ ⟨[], s.ps, none, none, none, none, none, rfl, rfl, rfl, rfl⟩
  case refine_2 =>
    rintro d ds ρ c F hF ⟨done, rest, x2, x3, x4, x5, x6, ep, ed, rfl, rfl⟩
    cases rest with
    | nil => cases ed
    | cons p rest =>
    injection ed with e1 e2
    subst e1; subst e2
    have hp := hs.ps p (by rw [ep]; simp)
    have h6 := hp.2.2.1.2
    have h9 := hp.2.2.2
    conv => whnf
    refine ⟨rfl, ?_⟩
    conv => whnf
    refine ⟨rfl, ?_⟩
    conv => whnf
    refine ⟨0, rfl, ⟨_, rfl⟩, ?_⟩
    conv => whnf
    refine ⟨_, rfl, ?_⟩
    conv => whnf
    refine ⟨dig_small (by omega), ?_⟩
    conv => whnf
    refine ⟨dig_small (by omega), ?_⟩
    conv => whnf
    refine ⟨by show 8 ≤ sizeLine; decide, ?_⟩
    conv => whnf
    have tm := Part.tames hp hn
    refine ⟨p.ws, txts_of' p.ws, ?_, ?_⟩
    · have := sum_le (k := 8) (fun x hx => tame_len (tm x hx))
      have l8 : p.ws.length = 8 := rfl
      have l1 : (" " : Str).length = 1 := by decide
      rw [l1]; omega
    have hl : done.length + (rest.length + 1) ≤ 8 := by
      have := congrArg List.length ep
      rw [List.length_append, List.length_cons] at this; omega
    refine ⟨_, rfl, by rw [List.length_cons, List.length_map]; exact Nat.lt_of_lt_of_le (show done.length + 1 < 100 by omega) (by decide), ?_⟩
    conv => whnf
    exact hF _ _ ⟨done ++ [p], rest, _, _, _, _, _, by rw [ep, List.append_assoc]; rfl, rfl, rfl, by rw [List.map_append]; rfl⟩
  rintro ρ c ⟨done, rest, x2, x3, x4, x5, x6, ep, ed, rfl, rfl⟩
  have er : rest = [] := by
    cases rest with
    | nil => rfl
    | cons _ _ => cases ed
  subst er
  rw [List.append_nil] at ep
  subst ep
  conv => whnf
  refine forD_inv (fun ds ρ c => ∃ (done rest : List Joint) (x2 x3 x4 x5 x6 x7 : Option D), s.js = done ++ rest ∧ ds = rest.map Joint.d' ∧ ρ = [some s.d, some (.cell 0), x2, x3, x4, x5, x6, x7] ∧ c = [.lst ((D.str (Str.ofString "signs " ++ s.m) :: s.ps.map fun p => D.str p.row) ++ done.map fun p => D.str p.row)]) ?_ ?_ _ _ _ ⟨[], s.js, _, _, _, _, _, none, rfl, rfl, rfl, by rw [List.map_nil, List.append_nil]⟩
  case refine_2 =>
    rintro d ds ρ c F hF ⟨done, rest, x2, x3, x4, x5, x6, x7, ep, ed, rfl, rfl⟩
    cases rest with
    | nil => cases ed
    | cons p rest =>
    injection ed with e1 e2
    subst e1; subst e2
    have hp := hs.js p (by rw [ep]; simp)
    have h9 := hp.2.2
    conv => whnf
    refine ⟨rfl, ?_⟩
    conv => whnf
    refine ⟨rfl, ?_⟩
    conv => whnf
    refine ⟨0, rfl, ⟨_, rfl⟩, ?_⟩
    conv => whnf
    refine ⟨_, rfl, ?_⟩
    conv => whnf
    refine ⟨dig_small (by omega), ?_⟩
    conv => whnf
    refine ⟨by show 7 ≤ sizeLine; decide, ?_⟩
    conv => whnf
    have tm := Joint.tames hp hn
    refine ⟨p.ws, txts_of' p.ws, ?_, ?_⟩
    · have := sum_le (k := 8) (fun x hx => tame_len (tm x hx))
      have l8 : p.ws.length = 7 := rfl
      have l1 : (" " : Str).length = 1 := by decide
      rw [l1]; omega
    have hl : done.length + (rest.length + 1) ≤ 12 := by
      have := congrArg List.length ep
      rw [List.length_append, List.length_cons] at this; omega
    refine ⟨_, rfl, by rw [List.length_append, List.length_cons, List.length_map, List.length_map]; exact Nat.lt_of_lt_of_le (show s.ps.length + 1 + done.length < 100 by omega) (by decide), ?_⟩
    conv => whnf
    exact hF _ _ ⟨done ++ [p], rest, _, _, _, _, _, _, by rw [ep, List.append_assoc]; rfl, rfl, rfl, by rw [List.map_append, ← List.append_assoc]; rfl⟩
  rintro ρ c ⟨done, rest, x2, x3, x4, x5, x6, x7, ep, ed, rfl, rfl⟩
  have er : rest = [] := by
    cases rest with
    | nil => rfl
    | cons _ _ => cases ed
  subst er
  rw [List.append_nil] at ep
  subst ep
  have e : (D.str (Str.ofString "signs " ++ s.m) :: s.ps.map fun p => D.str p.row) ++ (s.js.map fun p => D.str p.row) = s.lines.map .str := by
    unfold Sp.lines
    rw [signs_row, List.map_cons, List.map_append, List.map_map, List.map_map]
    rfl
  rw [e]
  conv => whnf
  refine ⟨rfl, ?_⟩
  conv => whnf
  exact ⟨_, rfl, rfl, okDs_map (fun _ => rfl) _, hΦ⟩
set_option maxHeartbeats 8000000 in
theorem ok__law_made (T : Tx K mg) : FnOk P w K mg base CX0 8 T.a__law_made T.d__law_made ["_law_spec_here"] (spD K 0 1 (SB__law_made T.C_Borders)) := by
  refine fnD T.F__law_made sc__law_made fun cdv A outer s H E hr => ⟨_, (psd_one (psd_ret (pd_make T.mk_Borders (ok_Borders___init__ T) (hr.mono (by decide)) T.g_Borders T.b_Borders___init__ pass0 (pds_cons (pd_join pd_str (pd_callP (ok__law_lines T) (hr.mono (by decide)) T.g__law_lines T.F__law_lines.kp T.b__law_lines pass0 (pds_cons (pd_v 0) pds_nil))) pds_nil)))), ?_⟩
  rintro c ds Φ hc - ⟨s, rfl, hs, hΦ⟩
  cases c with
  | cons _ _ => cases hc
  | nil =>
  conv => whnf
  refine ⟨_, rfl, ?_⟩
  conv => whnf
  refine ⟨rfl, sp_ok s, s, rfl, hs, ?_⟩
  have h1 := (Sp.sums hs).1
  have h2 := (Sp.sums hs).2
  conv => whnf
  refine ⟨s.lines, txts_of' _, (by rw [show ("\n" : Str).length = 1 by decide]; omega), ?_⟩
  conv => whnf
  refine ⟨rfl, rfl, s, rfl, rfl, hs, fun zs y1 y2 y3 => ⟨rfl, rfl, flds_ok' s zs, ?_⟩⟩
  conv => whnf
  exact hΦ zs ⟨y1, y2, y3⟩
set_option maxHeartbeats 8000000 in
theorem ok__law_plain (T : Tx K mg) : FnOk P w K mg base CX0 1 T.a__law_plain T.d__law_plain ["_law_spec_here", "_law_here"] (spD K 0 2 SB__law_plain) := by
  refine fnD T.F__law_plain sc__law_plain fun cdv A outer s H E hr => ⟨_, (psd_cons (psd_set (i := 2) sc__law_plain.nd (pd_len (pd_ix (pd_v 0) pd_int) T.n_len)) (psd_cons (psd_set (i := 3) sc__law_plain.nd (pd_if (pdt_eq hr (pd_ix (pd_v 1) (pd_neg pd_int)) pd_str) pd_int (pd_sub (pd_v 2) pd_int))) (psd_one (psd_ret (pd_add (pd_strc (pd_mod (pd_intc (pd_add (pd_intc (pd_sl (pd_v 1) po_no (po_so (pd_neg pd_int))) T.n_int) (pd_v 3)) T.n_int) (pd_v 2)) T.n_str) (pd_ix (pd_v 1) (pd_neg pd_int))))))), ?_⟩
  rintro c ds Φ hc - ⟨s, i, d, rfl, hs, hi, hΦ⟩
  cases c with
  | cons _ _ => cases hc
  | nil =>
  have h5 : s.m.length ≤ 5 := tame_len (let_tame (n := 5) hs.m)
  have sh := st_short d (show i < 10 by omega)
  have ei : ((48 + i : Nat) : Int) - 48 = i := by omega
  have tail : ∀ st : Int, ((i : Int) + st) % (s.m.length : Int) = ((farN s.m.length i d 1 : Nat) : Int) → dRet
      (dBin fAdd (dCB (un1 fStr) (dCons (dBin fMod (dCB (un1 fInt) (dCons (dBin fAdd (dCB (un1 fInt) (dCons (dSl (dVar 1) dNoPart (dPart (dNeg (dC (D.int 1))))) dNil)) (dVar 3)) dNil)) (dVar 2)) dNil)) (dBin fIx (dVar 1) (dNeg (dC (D.int 1)))))
      ⟨fun x c' => retD 0 Φ D.non c', retD 0 Φ, fun _ _ => False, fun _ _ => False⟩ [some s.d, some (.str (stS i d)), some (.int s.m.length), some (.int st)] [] := fun st hx => by
    conv => whnf
    refine ⟨short (by omega), ?_⟩
    rw [show (-1 : Int) = -1 from rfl]
    rw [st_cut d (by omega)]
    conv => whnf
    refine ⟨by show 1 ≤ 640; decide, _, dig_val (by omega), ?_⟩
    rw [ei]
    conv => whnf
    refine ⟨by omega, ?_⟩
    rw [hx]
    have fl := farN_lt (p := s.m.length) (i := i) (d := d) (n := 1) (by omega)
    conv => whnf
    refine ⟨dig_small (by omega), ?_⟩
    conv => whnf
    refine ⟨short (by omega), ?_⟩
    rw [st_last d (by omega)]
    conv => whnf
    have tl : (toString ((farN s.m.length i d 1 : Nat) : Int) : Str).length ≤ 1 := tame_len (dig_tame (by omega))
    refine ⟨short (by show _ + 1 ≤ _; omega), ?_⟩
    have es : (toString ((farN s.m.length i d 1 : Nat) : Int) : Str) ++ (⟨#[if d then 62 else 60]⟩ : Str) = stS (farN s.m.length i d 1) d := by
      unfold stS; cases d <;> rfl
    rw [← es] at hΦ
    exact hΦ
  conv => whnf
  refine ⟨short (by omega), ?_⟩
  conv => whnf
  refine ⟨short (by omega), ?_⟩
  rw [st_last d (by omega)]
  have fi := farN_int (p := s.m.length) (i := i) (d := d) (n := 1) (by omega)
  cases d with
  | true =>
    conv => whnf
    exact tail 1 fi.symm
  | false =>
    conv => whnf
    refine tail ((s.m.length : Int) - 1) ?_
    rw [fi]
    show _ = ((i : Int) + -1) % (s.m.length : Int)
    rw [show (i : Int) + ((s.m.length : Int) - 1) = ((i : Int) + -1) + (s.m.length : Int) by omega, Int.add_emod_right]

end
end K20

namespace K20
open PySem PySem.Spec PyProof.Rows L2 Cw
/-! ### tables: costs by pairs of states -/
abbrev PS := (Nat × Bool) × (Nat × Bool)
def keyP (q : PS) : List Key := [kyS q.1, kyS q.2]
def okP (p : Nat) (q : PS) : Prop := q.1.1 < p ∧ q.2.1 < p
theorem keyP_inj {p : Nat} (h5 : p ≤ 5) {x y : PS} (hx : okP p x) (hy : okP p y) (h : keyP x = keyP y) : x = y := by
  injection h with h1 h2
  injection h2 with h2 _
  have e1 := kyS_inj (by have := hx.1; omega) (by have := hy.1; omega) h1
  have e2 := kyS_inj (by have := hx.2; omega) (by have := hy.2; omega) h2
  exact Prod.ext e1 e2
def lookP : List PS → List Int → PS → Option Int
  | k :: ks, i :: is, q => if k = q then some i else lookP ks is q
  | _, _, _ => none
def repP : List PS → List Int → PS → Int → List Int
  | k :: ks, i :: is, q, v => (if k = q then v else i) :: repP ks is q v
  | _, _, _, _ => []
def inP (t : List PS) (q : PS) : Bool := t.any fun x => decide (x = q)
theorem inP_mem {t : List PS} {q : PS} : inP t q = true ↔ q ∈ t := by
  unfold inP
  rw [List.any_eq_true]
  exact ⟨fun ⟨x, h1, h2⟩ => (by simpa using h2 : x = q) ▸ h1, fun h => ⟨q, h, by simp⟩⟩
def putP (t : List PS) (q : PS) : List PS := if inP t q = true then t else t ++ [q]
def putI (t : List PS) (is : List Int) (q : PS) (v : Int) : List Int := if inP t q = true then repP t is q v else is ++ [v]
def tabD (t : List PS) (is : List Int) : D := .dcT (t.map keyP) (is.map .int)
def tabC (t : List PS) (is : List Int) : Cell := .dcT (t.map keyP) (is.map .int)
structure TabIs (p : Nat) (t : List PS) (is : List Int) (g : PS → Int) : Prop where
  ok : ∀ q ∈ t, okP p q
  nd : t.Nodup
  len : t.length = is.length
  val : ∀ q, okP p q → lookP t is q = if g q < NO then some (g q) else none
theorem TabIs.congr {p : Nat} {t : List PS} {is : List Int} {g g' : PS → Int} (h : TabIs p t is g) (e : ∀ q, okP p q → g q = g' q) : TabIs p t is g' := ⟨h.ok, h.nd, h.len, fun q hq => by rw [← e q hq]; exact h.val q hq⟩
theorem lookT_P {p : Nat} (h5 : p ≤ 5) {q : PS} (hq : okP p q) : ∀ {t : List PS} {is : List Int}, (∀ x ∈ t, okP p x) → lookT (t.map keyP) (is.map D.int) (keyP q) = (lookP t is q).map D.int
  | [], _, _ => by cases ‹List Int› <;> rfl
  | _ :: _, [], _ => rfl
  | x :: t, i :: is, h => by
    show (if keyP x = keyP q then some (D.int i) else lookT (t.map keyP) (is.map D.int) (keyP q)) = (if x = q then some i else lookP t is q).map D.int
    have ih := lookT_P h5 hq (t := t) (is := is) fun y hy => h y (List.mem_cons_of_mem _ hy)
    by_cases e : x = q
    · rw [if_pos e, if_pos (by rw [e])]; rfl
    · rw [if_neg e, if_neg fun z => e (keyP_inj h5 (h x List.mem_cons_self) hq z), ih]
theorem lookTI_P {p : Nat} (h5 : p ≤ 5) {q : PS} (hq : okP p q) : ∀ {t : List PS} {is : List Int}, (∀ x ∈ t, okP p x) → lookTI (t.map keyP) is (keyP q) = lookP t is q
  | [], _, _ => by cases ‹List Int› <;> rfl
  | _ :: _, [], _ => rfl
  | x :: t, i :: is, h => by
    show (if keyP x = keyP q then some i else lookTI (t.map keyP) is (keyP q)) = (if x = q then some i else lookP t is q)
    have ih := lookTI_P h5 hq (t := t) (is := is) fun y hy => h y (List.mem_cons_of_mem _ hy)
    by_cases e : x = q
    · rw [if_pos e, if_pos (by rw [e])]
    · rw [if_neg e, if_neg fun z => e (keyP_inj h5 (h x List.mem_cons_self) hq z), ih]
theorem tab_get {p : Nat} (h5 : p ≤ 5) {t : List PS} {is : List Int} {g : PS → Int} (h : TabIs p t is g) {q : PS} (hq : okP p q) : lookT (t.map keyP) (is.map D.int) (keyP q) = if g q < NO then some (.int (g q)) else none := by
  rw [lookT_P h5 hq h.ok, h.val q hq]
  split <;> rfl
theorem look_in : ∀ {t : List PS} {is : List Int} {q : PS}, t.length = is.length → (q ∈ t ↔ (lookP t is q).isSome = true)
  | [], [], q, _ => by simp [lookP]
  | [], _ :: _, _, h => nomatch h
  | _ :: _, [], _, h => nomatch h
  | x :: t, i :: is, q, h => by
    have ih := look_in (q := q) (t := t) (is := is) (by simpa using h)
    show _ ↔ (if x = q then some i else lookP t is q).isSome = true
    by_cases e : x = q
    · rw [if_pos e]; simp [e]
    · rw [if_neg e, ← ih, List.mem_cons]
      exact ⟨fun z => z.resolve_left fun w => e w.symm, .inr⟩
theorem inK_P {p : Nat} (h5 : p ≤ 5) {q : PS} (hq : okP p q) {t : List PS} (h : ∀ x ∈ t, okP p x) : inK (t.map keyP) (keyP q) = inP t q := by
  by_cases e : q ∈ t
  · rw [inP_mem.mpr e, inK_mem.mpr (List.mem_map_of_mem e)]
  · have h1 : inP t q = false := by
      cases z : inP t q with
      | false => rfl
      | true => exact absurd (inP_mem.mp z) e
    have h2 : inK (t.map keyP) (keyP q) = false := by
      cases z : inK (t.map keyP) (keyP q) with
      | false => rfl
      | true =>
        obtain ⟨x, hx, hk⟩ := List.mem_map.mp (inK_mem.mp z)
        exact absurd ((keyP_inj h5 (h x hx) hq hk) ▸ hx) e
    rw [h1, h2]
theorem repT_P {p : Nat} (h5 : p ≤ 5) {q : PS} (hq : okP p q) {v : Int} : ∀ {t : List PS} {is : List Int}, (∀ x ∈ t, okP p x) → repT (t.map keyP) (is.map D.int) (keyP q) (.int v) = (repP t is q v).map D.int
  | [], _, _ => by cases ‹List Int› <;> rfl
  | _ :: _, [], _ => rfl
  | x :: t, i :: is, h => by
    show (if keyP x = keyP q then D.int v else .int i) :: repT (t.map keyP) (is.map D.int) (keyP q) (.int v) = D.int (if x = q then v else i) :: (repP t is q v).map D.int
    rw [repT_P h5 hq fun y hy => h y (List.mem_cons_of_mem _ hy)]
    by_cases e : x = q
    · rw [if_pos e, if_pos (by rw [e])]
    · rw [if_neg e, if_neg fun z => e (keyP_inj h5 (h x List.mem_cons_self) hq z)]
theorem put_D {p : Nat} (h5 : p ≤ 5) {q : PS} (hq : okP p q) {v : Int} {t : List PS} {is : List Int} (h : ∀ x ∈ t, okP p x) : Cell.dcT (putKs (t.map keyP) (keyP q)) (putDs (t.map keyP) (is.map D.int) (keyP q) (.int v)) = tabC (putP t q) (putI t is q v) := by
  unfold putKs putDs tabC putP putI
  rw [inK_P h5 hq h]
  by_cases e : inP t q = true
  · rw [if_pos e, if_pos e, if_pos e, if_pos e, repT_P h5 hq h]
  · rw [if_neg e, if_neg e, if_neg e, if_neg e, List.map_append, List.map_append]; rfl
theorem rep_look {q : PS} {v : Int} : ∀ {t : List PS} {is : List Int}, t.length = is.length → (repP t is q v).length = t.length ∧ ∀ x, lookP t (repP t is q v) x = if x = q then (if q ∈ t then some v else none) else lookP t is x
  | [], [], _ => ⟨rfl, fun x => by simp [lookP, repP]⟩
  | [], _ :: _, h => nomatch h
  | _ :: _, [], h => nomatch h
  | y :: t, i :: is, h => by
    obtain ⟨l, ih⟩ := rep_look (q := q) (v := v) (t := t) (is := is) (by simpa using h)
    refine ⟨by show (repP t is q v).length + 1 = _; rw [l]; rfl, fun x => ?_⟩
    show (if y = x then some (if y = q then v else i) else lookP t (repP t is q v) x) = if x = q then _ else (if y = x then some i else lookP t is x)
    rw [ih x]
    by_cases e : y = x
    · subst e
      by_cases e2 : y = q
      · subst e2; simp
      · simp [e2]
    · by_cases e2 : x = q
      · subst e2
        rw [if_neg e]
        have : (x ∈ y :: t) ↔ x ∈ t := by rw [List.mem_cons]; exact ⟨fun z => z.resolve_left fun w => e w.symm, .inr⟩
        simp [this]
      · simp [e, e2]
theorem app_look {q : PS} {v : Int} : ∀ {t : List PS} {is : List Int}, t.length = is.length → q ∉ t → ∀ x, lookP (t ++ [q]) (is ++ [v]) x = if x = q then some v else lookP t is x
  | [], [], _, _, x => by
    show (if q = x then some v else none) = if x = q then some v else none
    by_cases e : x = q
    · rw [if_pos e, if_pos e.symm]
    · rw [if_neg e, if_neg fun z => e z.symm]
  | [], _ :: _, h, _, _ => nomatch h
  | _ :: _, [], h, _, _ => nomatch h
  | y :: t, i :: is, h, hn, x => by
    have ih := app_look (v := v) (t := t) (is := is) (by simpa using h) (fun z => hn (List.mem_cons_of_mem _ z)) x
    show (if y = x then some i else lookP (t ++ [q]) (is ++ [v]) x) = if x = q then some v else (if y = x then some i else lookP t is x)
    rw [ih]
    by_cases e : y = x
    · rw [if_pos e, if_pos e, if_neg]
      intro z; subst e; subst z; exact hn List.mem_cons_self
    · rw [if_neg e, if_neg e]
theorem tab_put {p : Nat} {t : List PS} {is : List Int} {g : PS → Int} (h : TabIs p t is g) {q : PS} (hq : okP p q) {v : Int} (hv : v < NO) : TabIs p (putP t q) (putI t is q v) (fun x => if x = q then v else g x) ∧ (putP t q).length ≤ t.length + 1 := by
  unfold putP putI
  by_cases e : inP t q = true
  · rw [if_pos e, if_pos e]
    obtain ⟨l, r⟩ := rep_look (q := q) (v := v) h.len
    refine ⟨⟨h.ok, h.nd, by rw [l], fun x hx => ?_⟩, Nat.le_succ _⟩
    rw [r x]
    by_cases ex : x = q
    · rw [if_pos ex, if_pos ex, if_pos (inP_mem.mp e), if_pos hv]
    · rw [if_neg ex, if_neg ex]; exact h.val x hx
  · rw [if_neg e, if_neg e]
    have hn : q ∉ t := fun z => e (inP_mem.mpr z)
    refine ⟨⟨fun x hx => ?_, ?_, by rw [List.length_append, List.length_append, h.len]; rfl, fun x hx => ?_⟩, by rw [List.length_append]; exact Nat.le_refl _⟩
    · rcases List.mem_append.mp hx with z | z
      · exact h.ok x z
      · rw [List.mem_singleton.mp z]; exact hq
    · rw [List.nodup_append]
      exact ⟨h.nd, by simp, fun a ha b hb z => hn (by rw [List.mem_singleton.mp hb] at z; exact z ▸ ha)⟩
    · rw [app_look h.len hn x]
      by_cases ex : x = q
      · rw [if_pos ex, if_pos ex, if_pos hv]
      · rw [if_neg ex, if_neg ex]; exact h.val x hx
theorem look_none {t : List PS} {is : List Int} {q : PS} (hl : t.length = is.length) (h : q ∉ t) : lookP t is q = none := by
  cases e : lookP t is q with
  | none => rfl
  | some i => exact absurd ((look_in hl).mpr (by rw [e]; rfl)) h
theorem map_look {α : Type} (f : α → PS) (v : α → Int) {x : α} : ∀ {L : List α}, x ∈ L → (∀ y ∈ L, f y = f x → v y = v x) → lookP (L.map f) (L.map v) (f x) = some (v x)
  | y :: L, hx, h => by
    show (if f y = f x then some (v y) else lookP (L.map f) (L.map v) (f x)) = some (v x)
    by_cases e : f y = f x
    · rw [if_pos e, h y List.mem_cons_self e]
    · rw [if_neg e]
      have hx' : x ∈ L := (List.mem_cons.mp hx).resolve_left fun z => e (by rw [z])
      exact map_look f v hx' fun z hz => h z (List.mem_cons_of_mem _ hz)
def sh (p : Nat) (q : PS) : PS := (q.1, nxS p q.2)
theorem sh_inj {p : Nat} (h5 : p ≤ 5) {x y : PS} (hx : okP p x) (hy : okP p y) (h : sh p x = sh p y) : x = y := by
  injection h with h1 h2
  exact Prod.ext h1 (by rw [← bk_nx hx.2 h5, h2, bk_nx hy.2 h5])
theorem tab_shift {p : Nat} (h5 : p ≤ 5) {t : List PS} {is : List Int} {g : PS → Int} (h : TabIs p t is g) : TabIs p (t.map (sh p)) (t.map fun q => (lookP t is q).getD 0) (fun q => g (q.1, bkS p q.2)) := by
  refine ⟨fun q hq => ?_, ?_, by rw [List.length_map, List.length_map], fun q hq => ?_⟩
  · obtain ⟨x, hx, rfl⟩ := List.mem_map.mp hq
    exact ⟨(h.ok x hx).1, nx_lt (h.ok x hx).2⟩
  · exact List.pairwise_map.mpr (List.Pairwise.imp_of_mem (fun ha hb hne e => hne (sh_inj h5 (h.ok _ ha) (h.ok _ hb) e)) h.nd)
  · have hx : okP p (q.1, bkS p q.2) := ⟨hq.1, bk_lt hq.2⟩
    have e : sh p (q.1, bkS p q.2) = q := Prod.ext rfl (nx_bk hq.2 h5)
    have v := h.val _ hx
    by_cases hm : (q.1, bkS p q.2) ∈ t
    · have l := map_look (sh p) (fun q => (lookP t is q).getD 0) hm fun y hy e2 => by rw [sh_inj h5 (h.ok y hy) hx e2]
      rw [e] at l
      rw [l]
      have s := (look_in h.len).mp hm
      by_cases hg : g (q.1, bkS p q.2) < NO
      · rw [if_pos hg] at v ⊢
        rw [v]; rfl
      · rw [if_neg hg] at v
        rw [v] at s; cases s
    · have n := look_none h.len hm
      rw [n] at v
      rw [look_none (by rw [List.length_map, List.length_map]) fun z => ?_]
      · by_cases hg : g (q.1, bkS p q.2) < NO
        · rw [if_pos hg] at v; cases v
        · rw [if_neg hg]
      · obtain ⟨y, hy, ey⟩ := List.mem_map.mp z
        exact hm ((sh_inj h5 (h.ok y hy) hx (ey.trans e.symm)) ▸ hy)
theorem tab_start {p : Nat} (h5 : p ≤ 5) : TabIs p ((ordS p).map fun x => ((x, x) : PS)) ((ordS p).map fun _ => 0) (fun q => row0 q.1 q.2) := by
  refine ⟨fun q hq => ?_, ?_, by rw [List.length_map, List.length_map], fun q hq => ?_⟩
  · obtain ⟨x, hx, rfl⟩ := List.mem_map.mp hq
    exact ⟨mem_ordS.mp hx, mem_ordS.mp hx⟩
  · exact List.pairwise_map.mpr (List.Pairwise.imp (fun hne e => hne (Prod.mk.inj e).1) (ordS_nd h5))
  · show _ = if (if q.2 = q.1 then (0 : Int) else NO) < NO then some (if q.2 = q.1 then (0 : Int) else NO) else none
    by_cases e : q.2 = q.1
    · have eq : q = (q.1, q.1) := Prod.ext rfl e
      have l := map_look (fun x => ((x, x) : PS)) (fun _ => (0 : Int)) (mem_ordS.mpr hq.1) fun _ _ _ => rfl
      rw [← eq] at l
      rw [l, if_pos e, if_pos (by decide)]
    · rw [look_none (by rw [List.length_map, List.length_map]) fun z => ?_, if_neg e, if_neg (by decide)]
      obtain ⟨x, _, ex⟩ := List.mem_map.mp z
      exact e (by rw [← ex])
/-! ### two tables are the same -/
theorem sub_len {t : List PS} : ∀ {u : List PS}, t.Nodup → (∀ x ∈ t, x ∈ u) → t.length ≤ u.length ∧ (u.length ≤ t.length → ∀ y ∈ u, y ∈ t) := by
  induction t with
  | nil => intro u _ _; exact ⟨Nat.zero_le _, fun h y hy => by cases u with | nil => exact hy | cons _ _ => simp at h⟩
  | cons x t ih =>
    intro u nd h
    have nd' := List.nodup_cons.mp nd
    have hx := h x List.mem_cons_self
    have hl := List.length_erase_of_mem hx
    have pos := List.length_pos_of_mem hx
    obtain ⟨i1, i2⟩ := ih (u := u.erase x) nd'.2 fun y hy => (List.mem_erase_of_ne (fun e : y = x => nd'.1 (by rw [← e]; exact hy))).mpr (h y (List.mem_cons_of_mem _ hy))
    refine ⟨by rw [List.length_cons]; omega, fun hle y hy => ?_⟩
    rw [List.length_cons] at hle
    by_cases e : y = x
    · rw [e]; exact List.mem_cons_self
    · exact List.mem_cons_of_mem _ (i2 (by omega) y ((List.mem_erase_of_ne e).mpr hy))
theorem same_all {p : Nat} (h5 : p ≤ 5) {u : List PS} {js : List Int} (hu : ∀ x ∈ u, okP p x) : ∀ {t : List PS} {is : List Int}, t.length = is.length → t.Nodup → (∀ x ∈ t, okP p x) → (sameTI (u.map keyP) js (t.map keyP) is = true ↔ ∀ x ∈ t, lookP u js x = lookP t is x)
  | [], [], _, _, _ => by simp [sameTI]
  | [], _ :: _, h, _, _ => nomatch h
  | _ :: _, [], h, _, _ => nomatch h
  | x :: t, i :: is, hl, nd, ht => by
    have nd' := List.nodup_cons.mp nd
    have ih := same_all h5 hu (js := js) (t := t) (is := is) (by simpa using hl) nd'.2 fun y hy => ht y (List.mem_cons_of_mem _ hy)
    have lx : lookP (x :: t) (i :: is) x = some i := by show (if x = x then some i else _) = _; rw [if_pos rfl]
    have ly : ∀ y ∈ t, lookP (x :: t) (i :: is) y = lookP t is y := fun y hy => by
      show (if x = y then some i else _) = _
      rw [if_neg fun e : x = y => nd'.1 (by rw [e]; exact hy)]
    show (match lookTI (u.map keyP) js (keyP x) with | some j => (i == j) && sameTI (u.map keyP) js (t.map keyP) is | none => false) = true ↔ _
    rw [lookTI_P h5 (ht x List.mem_cons_self) hu]
    constructor
    · intro h y hy
      cases e : lookP u js x with
      | none => rw [e] at h; cases h
      | some j =>
        rw [e] at h
        obtain ⟨h1, h2⟩ := Bool.and_eq_true_iff.mp (show ((i == j) && sameTI (u.map keyP) js (t.map keyP) is) = true from h)
        have h1 : i = j := by simpa using h1
        rcases List.mem_cons.mp hy with rfl | hy
        · rw [lx, e, h1]
        · rw [ly y hy]; exact ih.mp h2 y hy
    · intro h
      have e := h x List.mem_cons_self
      rw [lx] at e
      rw [e]
      show ((i == i) && sameTI (u.map keyP) js (t.map keyP) is) = true
      rw [ih.mpr fun y hy => by rw [← ly y hy]; exact h y (List.mem_cons_of_mem _ hy)]
      simp
theorem tab_same {p : Nat} (h5 : p ≤ 5) {t u : List PS} {is js : List Int} {g g' : PS → Int} (ht : TabIs p t is g) (hu : TabIs p u js g') (hg : ∀ q, okP p q → g q ≤ NO) (hg' : ∀ q, okP p q → g' q ≤ NO) :
    ((((t.map keyP).length == (u.map keyP).length) && sameTI (u.map keyP) js (t.map keyP) is) = true) ↔ ∀ q, okP p q → g q = g' q := by
  rw [Bool.and_eq_true_iff, same_all h5 hu.ok ht.len ht.nd ht.ok, List.length_map, List.length_map, beq_iff_eq]
  constructor
  · rintro ⟨hl, h⟩ q hq
    have sub : ∀ x ∈ t, x ∈ u := fun x hx => (look_in hu.len).mpr (by rw [h x hx]; exact (look_in ht.len).mp hx)
    have sup := (sub_len ht.nd sub).2 (by omega)
    have v := ht.val q hq
    have v' := hu.val q hq
    by_cases hm : q ∈ t
    · rw [h q hm, v] at v'
      have s := (look_in ht.len).mp hm
      by_cases h1 : g q < NO
      · rw [if_pos h1] at v'
        by_cases h2 : g' q < NO
        · rw [if_pos h2] at v'; exact Option.some.inj v'
        · rw [if_neg h2] at v'; cases v'
      · rw [if_neg h1] at v; rw [v] at s; cases s
    · rw [look_none ht.len hm] at v
      rw [look_none hu.len fun z => hm (sup q z)] at v'
      have a : ¬ g q < NO := fun z => by rw [if_pos z] at v; cases v
      have b : ¬ g' q < NO := fun z => by rw [if_pos z] at v'; cases v'
      have := hg q hq; have := hg' q hq
      omega
  · intro h
    have same : ∀ q, okP p q → lookP u js q = lookP t is q := fun q hq => by rw [ht.val q hq, hu.val q hq, h q hq]
    have sub : ∀ x ∈ t, x ∈ u := fun x hx => (look_in hu.len).mpr (by rw [same x (ht.ok x hx)]; exact (look_in ht.len).mp hx)
    have sup : ∀ x ∈ u, x ∈ t := fun x hx => (look_in ht.len).mpr (by rw [← same x (hu.ok x hx)]; exact (look_in hu.len).mp hx)
    exact ⟨Nat.le_antisymm (sub_len ht.nd sub).1 (sub_len hu.nd sup).1, fun x hx => same x (ht.ok x hx)⟩
/-! ### rows out of rows -/
def valP (s : Sp) (n : Nat) (q : Part) (b : Nat × Bool) : Int := rowF s b (n - q.l) (q.i, q.d) + (q.c : Int)
def addP (s : Sp) (n : Nat) (g : PS → Int) (q : Part) : PS → Int := fun x => if q.l ≤ n ∧ x.2 = (q.j, q.e) then min (g x) (valP s n q x.1) else g x
def updB (s : Sp) (n : Nat) (q : Part) (g : PS → Int) (b : Nat × Bool) : PS → Int := fun x => if x = (b, (q.j, q.e)) then min (g x) (valP s n q b) else g x
theorem fold_B (s : Sp) (n : Nat) (q : Part) : ∀ (L : List (Nat × Bool)) (g : PS → Int) (x : PS), L.foldl (updB s n q) g x = if x.2 = (q.j, q.e) ∧ x.1 ∈ L then min (g x) (valP s n q x.1) else g x
  | [], g, x => by simp
  | b :: L, g, x => by
    rw [List.foldl_cons, fold_B s n q L]
    show (if _ then min (if x = (b, (q.j, q.e)) then min (g x) (valP s n q b) else g x) _ else (if x = (b, (q.j, q.e)) then min (g x) (valP s n q b) else g x)) = _
    by_cases e : x.2 = (q.j, q.e)
    · by_cases e2 : x.1 = b
      · have ex : x = (b, (q.j, q.e)) := Prod.ext e2 e
        rw [if_pos ex, if_pos (show x.2 = (q.j, q.e) ∧ x.1 ∈ b :: L from ⟨e, by rw [e2]; exact List.mem_cons_self⟩), e2]
        split
        · rw [Int.min_assoc, Int.min_self]
        · rfl
      · have ex : ¬ x = (b, (q.j, q.e)) := fun z => e2 (by rw [z])
        rw [if_neg ex]
        by_cases hm : x.1 ∈ L
        · rw [if_pos ⟨e, hm⟩, if_pos ⟨e, List.mem_cons_of_mem _ hm⟩]
        · rw [if_neg fun z => hm z.2, if_neg fun z => hm ((List.mem_cons.mp z.2).resolve_left e2)]
    · have ex : ¬ x = (b, (q.j, q.e)) := fun z => e (by rw [z])
      rw [if_neg ex, if_neg fun z => e z.1, if_neg fun z => e z.1]
theorem add_B {s : Sp} {n : Nat} {q : Part} {g : PS → Int} (hl : q.l ≤ n) {x : PS} (hx : okP s.m.length x) : (ordS s.m.length).foldl (updB s n q) g x = addP s n g q x := by
  rw [fold_B]
  unfold addP
  have := mem_ordS.mpr hx.1
  by_cases e : x.2 = (q.j, q.e)
  · rw [if_pos ⟨e, this⟩, if_pos ⟨hl, e⟩]
  · rw [if_neg fun z => e z.1, if_neg fun z => e z.2]
theorem fold_P (s : Sp) (n : Nat) (x : PS) : ∀ (L : List Part) (g : PS → Int), g x ≤ NO → L.foldl (addP s n) g x = min (g x) ((((L.filter fun q => decide ((q.j, q.e) = x.2)).filter fun q => decide (q.l ≤ n)).map fun q => valP s n q x.1).foldr min NO)
  | [], g, h => by show g x = min (g x) NO; exact (Int.min_eq_left h).symm
  | q :: L, g, h => by
    have hle : addP s n g q x ≤ NO := by
      unfold addP
      split
      · exact Int.le_trans (Int.min_le_left _ _) h
      · exact h
    rw [List.foldl_cons, fold_P s n x L _ hle]
    unfold addP
    by_cases e : (q.j, q.e) = x.2
    · rw [List.filter_cons_of_pos (by simpa using e)]
      by_cases e2 : q.l ≤ n
      · rw [List.filter_cons_of_pos (by simpa using e2), if_pos ⟨e2, e.symm⟩, List.map_cons, List.foldr_cons, Int.min_assoc]
      · rw [List.filter_cons_of_neg (by simpa using e2), if_neg fun z => e2 z.1]
    · rw [List.filter_cons_of_neg (by simpa using e), if_neg fun z => e z.2.symm]
theorem row_fold {s : Sp} (hs : s.ok) (m : Nat) {x : PS} (hx : okP s.m.length x) : s.ps.foldl (addP s (m + 1)) (fun q => rowF s q.1 m (bkS s.m.length q.2)) x = rowF s x.1 (m + 1) x.2 := by
  rw [fold_P s (m + 1) x _ _ (row_NO _), rowF_next]
  unfold nextF stepsF
  rw [rowsF_len, List.filter_cons_of_pos (by simp), List.map_cons, List.foldr_cons]
  have e1 : getR (rowsF s x.1 m) (m + 1 - 1) (bkS s.m.length x.2) + ((0 : Nat) : Int) = rowF s x.1 m (bkS s.m.length x.2) := by
    rw [Nat.add_sub_cancel, rowsF_get s x.1 (Nat.le_refl m)]; simp
  rw [e1]
  congr 1
  unfold pieF
  rw [List.filter_map, List.map_map]
  congr 1
  apply List.map_congr_left
  intro q hq
  have hq1 := (List.mem_filter.mp (List.mem_filter.mp hq).1).1
  have hl := (hs.ps q hq1)
  have h2 := (List.mem_filter.mp hq).2
  have h2 : q.l ≤ m + 1 := by simpa using h2
  show valP s (m + 1) q x.1 = getR (rowsF s x.1 m) (m + 1 - q.l) (q.i, q.d) + (q.c : Int)
  have one : 1 ≤ q.l := hl.2.2.1.1
  rw [rowsF_get s x.1 (by omega)]
  rfl
abbrev Tabs := List (List PS × List Int)
structure TabsOk (s : Sp) (T : Tabs) : Prop where
  is : ∀ (k : Nat) (h : k < T.length), TabIs s.m.length T[k].1 T[k].2 fun q => rowF s q.1 k q.2
  sz : ∀ (k : Nat) (h : k < T.length), T[k].1.length ≤ 10 + 80 * k
def SB__law_rows : Pm := fun c ds Φ => ∃ (s : Sp) (M : Nat), ds = [s.d, .int M] ∧ s.ok ∧ M ≤ 1000 ∧ ∀ T : Tabs, T.length = M + 1 → TabsOk s T → Φ (.lst (T.map fun u => tabD u.1 u.2)) c
def SB__law_begin : Pm := fun c ds Φ => ∃ (s : Sp) (T : Tabs), ds = [s.d, .lst (T.map fun u => tabD u.1 u.2)] ∧ s.ok ∧ TabsOk s T ∧ s.m.length ≤ T.length ∧ T.length ≤ 1001 ∧ ∀ f : Nat, f ≤ T.length - s.m.length → (∀ k q, f ≤ k → k + s.m.length < T.length → okP s.m.length q → rowF s q.1 k q.2 = rowF s q.1 (k + s.m.length) q.2) → (0 < f → ∃ q, okP s.m.length q ∧ rowF s q.1 (f - 1) q.2 ≠ rowF s q.1 (f - 1 + s.m.length) q.2) → Φ (.int f) c
theorem pc_map {α : Type} {i : Nat} {ta tb tv : TD} {ρ : Cw.Env} {c : List Cell} {Φ : List (List Key × D) → List Cell → Prop} (d : α → D) (k l : α → Key) (v : α → D) (hc : okCs c.length c = true) : ∀ (xs : List α) (acc : List (List Key × D)),
    (∀ x ∈ xs, okD c.length (v x) = true ∧ ∀ (L : List V) (Ψ : D → List Cell → Prop), (Ψ (kD (k x)) (c ++ [rawC L]) → ta (ρ.set i (some (d x))) (c ++ [rawC L]) Ψ) ∧ (Ψ (kD (l x)) (c ++ [rawC L]) → tb (ρ.set i (some (d x))) (c ++ [rawC L]) Ψ) ∧ (Ψ (v x) (c ++ [rawC L]) → tv (ρ.set i (some (d x))) (c ++ [rawC L]) Ψ)) →
    okDs c.length (acc.map (·.2)) = true → acc.length + xs.length ≤ sizeLine → Φ (acc ++ xs.map fun x => ([k x, l x], v x)) c → pcD i ta tb tv (xs.map d) acc ρ c Φ
  | [], acc, _, h, _, q => ⟨hc, h, by simpa using q⟩
  | x :: xs, acc, he, h, hl, q => by
    intro L
    obtain ⟨hv, he'⟩ := he x List.mem_cons_self
    have h1 := fun Ψ => (he' L Ψ).1
    have h2 := fun Ψ => (he' L Ψ).2.1
    have h3 := fun Ψ => (he' L Ψ).2.2
    have hl' : acc.length + (xs.length + 1) ≤ sizeLine := hl
    refine h1 _ (h2 _ (h3 _ ⟨k x, l x, rfl, rfl, by omega, inner_same ?_⟩))
    refine pc_map d k l v hc xs _ (fun y hy => he y (List.mem_cons_of_mem _ hy)) (by rw [List.map_append]; exact okDs_app h (okDs_one hv)) (by rw [List.length_append]; show acc.length + 1 + xs.length ≤ _; omega) ?_
    rw [List.append_assoc]
    exact q
theorem big_line : 1000000 ≤ sizeLine := by decide
theorem keyP_nd {p : Nat} (h5 : p ≤ 5) {t : List PS} (ok : ∀ q ∈ t, okP p q) (nd : t.Nodup) : (t.map keyP).Nodup :=
  List.pairwise_map.mpr (List.Pairwise.imp_of_mem (fun ha hb hne e => hne (keyP_inj h5 (ok _ ha) (ok _ hb) e)) nd)
abbrev Tab := List PS × List Int
def tabU (u : Tab) : D := tabD u.1 u.2
def cellU (u : Tab) : Cell := tabC u.1 u.2
def rowE (u : Tab) (r : Tabs) : List D := tabU u :: (List.range r.length).map fun k => .cell (k + 1)
theorem rowE_len (u : Tab) (r : Tabs) : (rowE u r).length = r.length + 1 := by
  unfold rowE; rw [List.length_cons, List.length_map, List.length_range]
theorem vw_T {c : List Cell} {k : Nat} {u : Tab} (h : c[k]? = some (cellU u)) : vw c (.cell k) = tabU u := by
  have h' : c[k]? = some (.dcT (u.1.map keyP) (u.2.map .int)) := h
  have e : vw c (.cell k) = .dcT (u.1.map keyP) (u.2.map .int) := by simp [Cw.vw, h']
  exact e
theorem rowE_get (u : Tab) (r : Tabs) {k : Nat} (hk : k < (u :: r).length) : ∃ x, (rowE u r)[k]? = some x ∧ ∀ ext : List Cell, vw (.lst (rowE u r) :: (r.map cellU ++ ext)) x = tabU (u :: r)[k] := by
  cases k with
  | zero => exact ⟨tabU u, rfl, fun _ => rfl⟩
  | succ k =>
    have hk' : k < r.length := by simpa using hk
    refine ⟨.cell (k + 1), ?_, fun ext => ?_⟩
    · show ((List.range r.length).map fun k => D.cell (k + 1))[k]? = _
      rw [List.getElem?_map, List.getElem?_range hk']; rfl
    · have e : (Cell.lst (rowE u r) :: (r.map cellU ++ ext))[k + 1]? = some (cellU r[k]) := by
        rw [List.getElem?_cons_succ, List.getElem?_append_left (by rw [List.length_map]; exact hk'), List.getElem?_map, List.getElem?_eq_getElem hk']; rfl
      exact vw_T e
theorem ok_tabU (n : Nat) (u : Tab) : okD n (tabU u) = true := by
  show okDs n (u.2.map D.int) = true
  exact okDs_map (fun _ => rfl) _
theorem ok_rowE {n : Nat} (u : Tab) (r : Tabs) (h : r.length < n) : okDs n (rowE u r) = true := okDs_of fun d hd => by
  rcases List.mem_cons.mp hd with rfl | hd
  · exact ok_tabU n u
  · obtain ⟨k, hk, rfl⟩ := List.mem_map.mp hd
    have := List.mem_range.mp hk
    show Nat.blt (k + 1) n = true
    exact Nat.ble_eq_true_of_le (by omega)
theorem ok_cellsU (n : Nat) : ∀ r : Tabs, okCs n (r.map cellU) = true
  | [] => rfl
  | u :: r => by
    show (okDs n (u.2.map D.int) && okCs n (r.map cellU)) = true
    rw [okDs_map (fun _ => rfl), ok_cellsU n r]; rfl
theorem ok_all (u : Tab) (r : Tabs) : okCs (Cell.lst (rowE u r) :: r.map cellU).length (Cell.lst (rowE u r) :: r.map cellU) = true := by
  rw [List.length_cons, List.length_map]
  show (okDs (r.length + 1) (rowE u r) && okCs (r.length + 1) (r.map cellU)) = true
  rw [ok_rowE u r (Nat.lt_succ_self _), ok_cellsU]; rfl
theorem rng1_at {m k : Nat} {d : D} {ds : List D} (h : d :: ds = ((List.range m).drop k).map fun i : Nat => D.int (1 + (i : Int))) : k < m ∧ d = .int (1 + (k : Int)) ∧ ds = ((List.range m).drop (k + 1)).map fun i : Nat => D.int (1 + (i : Int)) := by
  have hk : k < m := by
    have := congrArg List.length h
    rw [List.length_map, List.length_drop, List.length_range, List.length_cons] at this
    omega
  rw [List.drop_eq_getElem_cons (by rw [List.length_range]; exact hk), List.map_cons, List.getElem_range] at h
  injection h with e1 e2
  exact ⟨hk, e1, e2⟩
theorem tab_val {p : Nat} (h5 : p ≤ 5) {t : List PS} {is : List Int} {g : PS → Int} (h : TabIs p t is g) {q : PS} (hq : q ∈ t) : lookT (t.map keyP) (is.map D.int) (keyP q) = some (.int ((lookP t is q).getD 0)) := by
  rw [lookT_P h5 (h.ok q hq) h.ok]
  cases e : lookP t is q with
  | none => have := (look_in h.len).mp hq; rw [e] at this; cases this
  | some i => rfl
theorem ix_pos {xs : List D} {n : Nat} (h : n < xs.length) : L2.atI xs (n : Int) = xs[n]? := by
  unfold L2.atI L2.ixN
  rw [if_pos (by omega), if_pos (by omega)]
  rfl
theorem ix_neg {xs : List D} (h : 0 < xs.length) : L2.atI xs (-1) = xs[xs.length - 1]? := by
  obtain ⟨q, l, rfl⟩ : ∃ q l, xs = q ++ [l] := ⟨xs.dropLast, xs.getLast (by intro e; rw [e] at h; cases h), (List.dropLast_concat_getLast _).symm⟩
  rw [at_last, List.length_append, List.getElem?_append_right (by simp)]
  simp
theorem melt_rows {u : Tab} : ∀ (r : Tabs) (pre : List Cell), meltTs 0 (pre ++ r.map cellU) ((List.range' pre.length r.length).map fun k => D.cell k) = some (r.map tabU)
  | [], _ => rfl
  | z :: r, pre => by
    have e : (pre ++ (z :: r).map cellU)[pre.length]? = some (.dcT (z.1.map keyP) (z.2.map .int)) := by
      rw [List.getElem?_append_right (Nat.le_refl _), Nat.sub_self]; rfl
    have ih := melt_rows (u := u) r (pre ++ [cellU z])
    rw [List.append_assoc, List.length_append] at ih
    have ih : meltTs 0 (pre ++ (z :: r).map cellU) ((List.range' (pre.length + 1) r.length).map fun k => D.cell k) = some (r.map tabU) := ih
    have one : meltT 0 (pre ++ (z :: r).map cellU) (.cell pre.length) = some (tabU z) := by
      show (match (pre ++ (z :: r).map cellU)[pre.length]? with
        | some (.dcT ks es) => if Nat.ble 0 pre.length && okDs 0 es then some (D.dcT ks es) else none
        | _ => none) = _
      rw [e]
      show (if Nat.ble 0 pre.length && okDs 0 (z.2.map D.int) then some (tabU z) else none) = _
      rw [okDs_map (fun _ => rfl), Nat.ble_eq_true_of_le (Nat.zero_le _)]; rfl
    rw [List.length_cons, List.range'_succ, List.map_cons]
    show (match meltT 0 (pre ++ (z :: r).map cellU) (.cell pre.length), meltTs 0 (pre ++ (z :: r).map cellU) ((List.range' (pre.length + 1) r.length).map fun k => D.cell k) with
      | some e, some es => some (e :: es)
      | _, _ => none) = _
    rw [one, ih]; rfl
theorem melt_all (u : Tab) (r : Tabs) : meltTs 0 (.lst (rowE u r) :: r.map cellU) (rowE u r) = some ((u :: r).map tabU) := by
  have h := melt_rows (u := u) r [.lst (rowE u r)]
  have e : ((List.range' 1 r.length).map fun k => D.cell k) = (List.range r.length).map fun k => D.cell (k + 1) := by
    rw [List.range_eq_range', List.range'_eq_map_range, List.range'_eq_map_range, List.map_map, List.map_map]
    apply List.map_congr_left
    intro k _
    show D.cell (1 + k) = D.cell (0 + k + 1)
    congr 1; omega
  have h : meltTs 0 (.lst (rowE u r) :: r.map cellU) ((List.range' 1 r.length).map fun k => D.cell k) = some (r.map tabU) := h
  rw [e] at h
  show (match meltT 0 (.lst (rowE u r) :: r.map cellU) (tabU u), meltTs 0 (.lst (rowE u r) :: r.map cellU) ((List.range r.length).map fun k => .cell (k + 1)) with
      | some e, some es => some (e :: es)
      | _, _ => none) = _
  rw [h]
  have one : meltT 0 (.lst (rowE u r) :: r.map cellU) (tabU u) = some (tabU u) := by
    show (if okDs 0 (u.2.map D.int) then some (tabU u) else none) = _
    rw [okDs_map (fun _ => rfl)]; rfl
  rw [one]; rfl
theorem tabs_snoc {s : Sp} {T : Tabs} (h : TabsOk s T) {z : Tab} (hz : TabIs s.m.length z.1 z.2 fun q => rowF s q.1 T.length q.2) (sz : z.1.length ≤ 10 + 80 * T.length) : TabsOk s (T ++ [z]) := by
  refine ⟨fun k hk => ?_, fun k hk => ?_⟩
  · by_cases e : k < T.length
    · rw [List.getElem_append_left e]; exact h.is k e
    · have ek : k = T.length := by rw [List.length_append] at hk; simp at hk; omega
      subst ek
      rw [List.getElem_append_right (Nat.le_refl _)]
      simpa using hz
  · by_cases e : k < T.length
    · rw [List.getElem_append_left e]; exact h.sz k e
    · have ek : k = T.length := by rw [List.length_append] at hk; simp at hk; omega
      subst ek
      rw [List.getElem_append_right (Nat.le_refl _)]
      simpa using sz
theorem rowE_snoc (u : Tab) (r : Tabs) (z : Tab) : rowE u r ++ [.cell (Cell.lst (rowE u r) :: r.map cellU).length] = rowE u (r ++ [z]) := by
  unfold rowE
  rw [List.length_append, List.length_cons, List.length_map, List.cons_append]
  show _ = tabU u :: (List.range (r.length + 1)).map _
  rw [List.range_succ, List.map_append]; rfl
theorem last_cell (u : Tab) (r : Tabs) (z : Tab) : (Cell.lst (rowE u r) :: (r.map cellU ++ [cellU z]))[(Cell.lst (rowE u r) :: r.map cellU).length]? = some (cellU z) := by
  rw [List.length_cons, List.getElem?_cons_succ, List.getElem?_append_right (Nat.le_refl _), Nat.sub_self]; rfl
theorem last_set (u : Tab) (r : Tabs) (z z' : Tab) : (Cell.lst (rowE u r) :: (r.map cellU ++ [cellU z])).set (Cell.lst (rowE u r) :: r.map cellU).length (cellU z') = Cell.lst (rowE u r) :: (r.map cellU ++ [cellU z']) := by
  rw [List.length_cons, List.set_cons_succ, List.set_append_right _ _ (Nat.le_refl _), Nat.sub_self]; rfl
theorem foldB_NO (s : Sp) (n : Nat) (q : Part) : ∀ (L : List (Nat × Bool)) (g : PS → Int), (∀ x, g x ≤ NO) → ∀ x, L.foldl (updB s n q) g x ≤ NO
  | [], g, h, x => h x
  | b :: L, g, h, x => foldB_NO s n q L _ (fun x => by
      show (if x = (b, (q.j, q.e)) then min (g x) (valP s n q b) else g x) ≤ NO
      split
      · exact Int.le_trans (Int.min_le_left _ _) (h x)
      · exact h x) x
theorem foldP_NO (s : Sp) (n : Nat) : ∀ (L : List Part) (g : PS → Int), (∀ x, g x ≤ NO) → ∀ x, L.foldl (addP s n) g x ≤ NO
  | [], g, h, x => h x
  | q :: L, g, h, x => foldP_NO s n L _ (fun x => by
      show (if _ then min (g x) (valP s n q x.1) else g x) ≤ NO
      split
      · exact Int.le_trans (Int.min_le_left _ _) (h x)
      · exact h x) x
section
variable {P : Program} {w : World} {K : PySem.W.Frag} {mg : Str → Option Value} {base : Heap}
set_option maxHeartbeats 8000000 in
theorem ok__law_rows (T : Tx K mg) : FnOk P w K mg base CX0 2 T.a__law_rows T.d__law_rows ["_law_spec_here", "_law_most_here"] (spD K 0 2 SB__law_rows) := by
  refine fnDL T.F__law_rows sc__law_rows fun cdv A outer s H E hr => ⟨_, (psd_cons (psd_set (i := 2) sc__law_rows.nd (pd_lstM (pds_cons (pd_dictP (i := 12) rfl hr sc__law_rows.nd (pid_list (pd_callP (ok__law_states T) (hr.mono (by decide)) T.g__law_states T.F__law_states.kp T.b__law_states pass0 (pds_cons (pd_v 0) pds_nil))) (by kernel_rfl) (fun _ _ _ _ _ => pg_name (i := 12) sc__law_rows.nd rfl (Or.inl rfl)) (fun _ _ _ _ _ => pk_pr (pd_v 12) (pd_v 12) pd_int) T.n_dict) pds_nil))) (psd_cons (psd_for PassesOwn.never rfl (pid_range2 pd_int (pd_add (pd_v 1) pd_int) T.n_range) (pgd_name (i := 3) sc__law_rows.nd) (psd_cons (psd_set (i := 4) sc__law_rows.nd (pd_dictPM (i := 13) rfl hr sc__law_rows.nd (pid_list (pd_listT rfl (pd_ix (pd_v 2) (pd_neg pd_int)) T.n_list)) (by kernel_rfl) (fun _ _ _ _ _ => pg_name (i := 13) sc__law_rows.nd rfl (Or.inl rfl)) (fun _ _ _ _ _ => pk_pr (pd_ix (pd_v 13) pd_int) (pd_callP (ok__law_plain T) (hr.mono (by decide)) T.g__law_plain T.F__law_plain.kp T.b__law_plain pass0 (pds_cons (pd_v 0) (pds_cons (pd_ix (pd_v 13) pd_int) pds_nil))) (pd_tget hr (pd_ix (pd_v 2) (pd_neg pd_int)) (pd_v 13))) T.n_dict)) (psd_cons (psd_for PassesOwn.never rfl (pid_tup (pd_ix (pd_v 0) pd_int)) (pgd_tup rfl (pgds_cons (pgd_name (i := 5) sc__law_rows.nd) (pgds_cons (pgd_name (i := 6) sc__law_rows.nd) (pgds_cons (pgd_name (i := 7) sc__law_rows.nd) (pgds_cons (pgd_name (i := 8) sc__law_rows.nd) (pgds_cons (pgd_name (i := 9) sc__law_rows.nd) pgds_nil)))))) (psd_one (psd_if (pdt_le (pd_v 8) (pd_v 3)) (psd_one (psd_for PassesOwn.never rfl (pid_list (pd_callP (ok__law_states T) (hr.mono (by decide)) T.g__law_states T.F__law_states.kp T.b__law_states pass0 (pds_cons (pd_v 0) pds_nil))) (pgd_name (i := 10) sc__law_rows.nd) (psd_cons (psd_set (i := 11) sc__law_rows.nd (pd_tget1 hr (pd_ix (pd_v 2) (pd_sub (pd_v 3) (pd_v 8))) (pk_key (pd_v 10) (pd_v 6))  ⟨rfl, rfl, rfl, rfl⟩)) (psd_one (psd_if (PDw.pt (pdw_and (pdt_isnn (pd_v 11) pd_non) (pdw_and1 (pdt_lt (pd_add (pd_v 11) (pd_v 9)) (pd_tget2 hr (pd_v 4) (pk_key (pd_v 10) (pd_v 7)) (pd_pow pd_int pd_int) ⟨rfl, rfl, rfl, rfl⟩))))) (psd_one (psd_putT hr (pd_v 4) (pk_key (pd_v 10) (pd_v 7)) (pd_add (pd_v 11) (pd_v 9)))) psd_nil))))) psd_nil))) (psd_one (psd_expr (pd_append (pd_v 2) (pd_v 4))))))) (psd_one (psd_ret (pd_v 2))))), ?_⟩
  rintro c ds Φ hc - ⟨s, M, rfl, hs, hM, hΦ⟩
  cases c with
  | cons _ _ => cases hc
  | nil =>
  have h5 : s.m.length ≤ 5 := tame_len (let_tame (n := 5) hs.m)
  have h0 := sp_one' hs
  have np := hs.np
  conv => whnf
  refine ⟨rfl, sp_ok s, s, rfl, hs, ?_⟩
  show pcD 12 _ _ _ ((stL s.m.length).map D.str) [] _ _ _
  rw [ordS_st, List.map_map]
  refine pc_map (fun x => D.str (sS x)) kyS kyS (fun _ => D.int 0) rfl _ _ (fun x hx => ⟨rfl, fun L Ψ => ⟨fun h => ?_, fun h => ?_, fun h => ?_⟩⟩) rfl ?_ ?_
  · exact h
  · exact h
  · exact h
  · have := ordS_len s.m.length; show 0 + _ ≤ _; have := big_line; omega
  have e1 : ((ordS s.m.length).map fun x => (([kyS x, kyS x] : List Key), D.int 0)).map (·.1) = ((ordS s.m.length).map fun x => ((x, x) : PS)).map keyP := by rw [List.map_map, List.map_map]; rfl
  have e2 : ((ordS s.m.length).map fun x => (([kyS x, kyS x] : List Key), D.int 0)).map (·.2) = ((ordS s.m.length).map fun _ => (0 : Int)).map D.int := by rw [List.map_map, List.map_map]; rfl
  have st := tab_start h5
  refine ⟨by rw [List.nil_append, e1]; exact keyP_nd h5 st.ok st.nd, ?_⟩
  rw [List.nil_append, e1, e2]
  generalize hu : (((ordS s.m.length).map fun x => ((x, x) : PS), (ordS s.m.length).map fun _ => (0 : Int)) : Tab) = u
  have st : TabIs s.m.length u.1 u.2 (fun q => row0 q.1 q.2) := by subst hu; exact st
  have sz0 : u.1.length ≤ 10 := by subst hu; rw [List.length_map, ordS_len]; omega
  have eu : D.dcT (((ordS s.m.length).map fun x => ((x, x) : PS)).map keyP) (((ordS s.m.length).map fun _ => (0 : Int)).map D.int) = tabU u := by subst hu; rfl
  rw [eu]
  conv => whnf
  refine ⟨by show 1 ≤ sizeLine; decide, ?_⟩
  conv => whnf
  refine ⟨⟨by omega, by omega⟩, ?_⟩
  refine forD_inv (fun ds ρ c => ∃ (r : Tabs) (x3 x4 x5 x6 x7 x8 x9 x10 x11 x12 x13 : Option D), TabsOk s (u :: r) ∧ r.length ≤ M ∧ ds = ((List.range M).drop r.length).map (fun i : Nat => D.int (1 + (i : Int))) ∧ ρ = [some s.d, some (.int M), some (.cell 0), x3, x4, x5, x6, x7, x8, x9, x10, x11, x12, x13] ∧ c = .lst (rowE u r) :: r.map cellU) ?_ ?_ _ _ _ ⟨[], none, none, none, none, none, none, none, none, none, none, none, ⟨fun k hk => ?_, fun k hk => ?_⟩, Nat.zero_le _, ?_, rfl, rfl⟩
  case refine_1 =>
    rintro ρ c ⟨r, x3, x4, x5, x6, x7, x8, x9, x10, x11, x12, x13, hT, hr, ed, rfl, rfl⟩
    have hl : r.length = M := by
      have := congrArg List.length ed
      rw [List.length_map, List.length_drop, List.length_range] at this
      have : M - r.length = 0 := this.symm
      omega
    conv => whnf
    exact ⟨rfl, 0, _, _, rfl, rfl, rfl, melt_all u r, hΦ (u :: r) (by rw [List.length_cons, hl]) hT⟩
  case refine_2 =>
    rintro d ds ρ c F hF ⟨r, x3, x4, x5, x6, x7, x8, x9, x10, x11, x12, x13, hT, hr, ed, rfl, rfl⟩
    obtain ⟨hlt, rfl, rfl⟩ := rng1_at ed
    have hk : r.length < (u :: r).length := Nat.lt_succ_self _
    obtain ⟨x, hx, hv⟩ := rowE_get u r hk
    have hI := hT.is r.length hk
    have hZ := hT.sz r.length hk
    generalize hti : (u :: r)[r.length] = ti at hv hI hZ
    obtain ⟨t, is⟩ := ti
    have hx' : L2.atI (rowE u r) (-1) = some x := by rw [ix_neg (by rw [rowE_len]; omega), rowE_len]; exact hx
    have bl := big_line
    have ht : t.length ≤ 100000 := by have : t.length ≤ 10 + 80 * r.length := hZ; omega
    conv => whnf
    rw [hx']
    conv => whnf
    refine ⟨t.map keyP, is.map D.int, by have := hv []; rw [List.append_nil] at this; exact this, ?_⟩
    show pcD 13 _ _ _ ((t.map keyP).map keyD) [] _ _ _
    rw [List.map_map]
    refine pc_map (fun q => keyD (keyP q)) (fun q => kyS q.1) (fun q => kyS (nxS s.m.length q.2)) (fun q => D.int ((lookP t is q).getD 0)) (ok_all u r) _ _ (fun q hq => ⟨rfl, fun L Ψ => ⟨fun h => ?_, fun h => ?_, fun h => ?_⟩⟩) rfl (by show 0 + t.length ≤ _; omega) ?_
    · exact h
    · have hq2 := (hI.ok q hq).2
      refine ⟨rfl, (by show (okD 0 s.d && (true && true)) = true; rw [(Bool.and_eq_true_iff.mp (sp_ok s)).1]; rfl), s, q.2.1, q.2.2, rfl, hs, hq2, ?_⟩
      exact h
    · show (match L2.atI (rowE u r) (-1) with | some x => _ | none => False)
      rw [hx']
      exact ⟨t.map keyP, is.map D.int, keyP q, _, hv [rawC L], rfl, tab_val h5 hI hq, h⟩
    have e1 : ((t.map fun q => (([kyS q.1, kyS (nxS s.m.length q.2)] : List Key), D.int ((lookP t is q).getD 0))).map (·.1)) = (t.map (sh s.m.length)).map keyP := by rw [List.map_map, List.map_map]; rfl
    have e2 : ((t.map fun q => (([kyS q.1, kyS (nxS s.m.length q.2)] : List Key), D.int ((lookP t is q).getD 0))).map (·.2)) = (t.map fun q => (lookP t is q).getD 0).map D.int := by rw [List.map_map, List.map_map]; rfl
    have sft := tab_shift h5 hI
    refine ⟨by rw [List.nil_append, e1]; exact keyP_nd h5 sft.ok sft.nd, ?_⟩
    rw [List.nil_append, e1, e2]
    have hz0 : (t.map (sh s.m.length)).length ≤ 10 + 80 * r.length := by rw [List.length_map]; exact hZ
    conv => whnf
    refine forD_inv (fun ds ρ c => ∃ (done rest : List Part) (z : Tab) (x5 x6 x7 x8 x9 x10 x11 x12 x13 : Option D), s.ps = done ++ rest ∧ ds = rest.map Part.d' ∧ TabIs s.m.length z.1 z.2 (done.foldl (addP s (r.length + 1)) fun q => rowF s q.1 r.length (bkS s.m.length q.2)) ∧ z.1.length ≤ 10 + 80 * r.length + 10 * done.length ∧
      ρ = [some s.d, some (.int M), some (.cell 0), some (.int (1 + (r.length : Int))), some (.cell (Cell.lst (rowE u r) :: r.map cellU).length), x5, x6, x7, x8, x9, x10, x11, x12, x13] ∧ c = .lst (rowE u r) :: (r.map cellU ++ [cellU z])) ?_ ?_ _ _ _ ⟨[], s.ps, (t.map (sh s.m.length), t.map fun q => (lookP t is q).getD 0), x5, x6, x7, x8, x9, x10, x11, x12, x13, rfl, rfl, sft, Nat.le_add_right_of_le hz0, rfl, rfl⟩
    case refine_1 =>
      rintro ρ c ⟨done, rest, z, x5, x6, x7, x8, x9, x10, x11, x12, x13, ep, ed, hz, sz, rfl, rfl⟩
      obtain rfl : rest = [] := by cases rest with | nil => rfl | cons _ _ => cases ed
      rw [List.append_nil] at ep
      subst ep
      conv => whnf
      refine ⟨0, rfl, ⟨_, rfl⟩, ?_⟩
      conv => whnf
      refine ⟨_, rfl, by rw [rowE_len]; omega, ?_⟩
      have l1 : (u :: r).length = r.length + 1 := rfl
      refine hF _ _ ⟨r ++ [z], _, _, x5, x6, x7, x8, x9, x10, x11, x12, x13, ?_, by rw [List.length_append]; show r.length + 1 ≤ M; omega, by rw [List.length_append]; rfl, rfl, ?_⟩
      · exact tabs_snoc hT (hz.congr fun q hq => by rw [row_fold hs r.length hq]; rfl) (by rw [l1]; omega)
      · show Cell.lst (rowE u r ++ [.cell (Cell.lst (rowE u r) :: r.map cellU).length]) :: (r.map cellU ++ [cellU z]) = _
        rw [rowE_snoc u r z, List.map_append]; rfl
    case refine_2 =>
      rintro d ds ρ c F2 hF2 ⟨done, rest, z, x5, x6, x7, x8, x9, x10, x11, x12, x13, ep, ed, hz, sz, rfl, rfl⟩
      cases rest with
      | nil => cases ed
      | cons q rest =>
      injection ed with e1 e2
      subst e1; subst e2
      have hq := hs.ps q (by rw [ep]; simp)
      obtain ⟨_, ⟨hqi, hqj⟩, ⟨hl1, hl6⟩, hc9⟩ := hq
      conv => whnf
      refine ⟨rfl, ?_⟩
      conv => whnf
      refine ⟨rfl, ?_⟩
      conv => whnf
      by_cases hle : q.l ≤ r.length + 1
      case neg =>
        rw [show (fun i j : Int => decide (i ≤ j)) (q.l : Int) (1 + (r.length : Int)) = false from decide_eq_false (by omega)]
        refine hF2 _ _ ⟨done ++ [q], rest, z, _, _, _, _, _, x10, x11, x12, x13, by rw [ep, List.append_assoc]; rfl, rfl, ?_, by rw [List.length_append]; omega, rfl, rfl⟩
        refine hz.congr fun x hx => ?_
        rw [List.foldl_append]
        show _ = addP s (r.length + 1) _ q x
        unfold addP
        rw [if_neg fun w => hle w.1]
      rw [show (fun i j : Int => decide (i ≤ j)) (q.l : Int) (1 + (r.length : Int)) = true from decide_eq_true (by omega)]
      conv => whnf
      refine ⟨rfl, sp_ok s, s, rfl, hs, ?_⟩
      show forD _ _ _ ((stL s.m.length).map D.str) _ _
      rw [ordS_st, List.map_map]
      generalize hG : (done.foldl (addP s (r.length + 1)) fun q => rowF s q.1 r.length (bkS s.m.length q.2)) = G at hz
      have hk2 : r.length + 1 - q.l < (u :: r).length := by show r.length + 1 - q.l < r.length + 1; omega
      obtain ⟨y, hy, hw⟩ := rowE_get u r hk2
      have hI2 := hT.is (r.length + 1 - q.l) hk2
      generalize htj : (u :: r)[r.length + 1 - q.l] = tj at hw hI2
      obtain ⟨t2, is2⟩ := tj
      have hy' : L2.atI (rowE u r) (1 + (r.length : Int) - (q.l : Int)) = some y := by
        rw [show (1 + (r.length : Int) - (q.l : Int)) = ((r.length + 1 - q.l : Nat) : Int) by omega, ix_pos (by rw [rowE_len]; omega)]; exact hy
      refine forD_inv (fun ds ρ c => ∃ (dn rs : List (Nat × Bool)) (z : Tab) (x10 x11 x12 x13 : Option D), ordS s.m.length = dn ++ rs ∧ ds = rs.map (fun x => D.str (sS x)) ∧ TabIs s.m.length z.1 z.2 (dn.foldl (updB s (r.length + 1) q) G) ∧ z.1.length ≤ 10 + 80 * r.length + 10 * done.length + dn.length ∧
        ρ = [some s.d, some (.int M), some (.cell 0), some (.int (1 + (r.length : Int))), some (.cell (Cell.lst (rowE u r) :: r.map cellU).length), some (.str q.t), some (.str (stS q.i q.d)), some (.str (stS q.j q.e)), some (.int q.l), some (.int q.c), x10, x11, x12, x13] ∧ c = .lst (rowE u r) :: (r.map cellU ++ [cellU z])) ?_ ?_ _ _ _ ⟨[], ordS s.m.length, z, x10, x11, x12, x13, rfl, rfl, hz, sz, rfl, rfl⟩
      case refine_1 =>
        rintro ρ c ⟨dn, rs, z, x10, x11, x12, x13, ep2, ed2, hz, sz, rfl, rfl⟩
        obtain rfl : rs = [] := by cases rs with | nil => rfl | cons _ _ => cases ed2
        rw [List.append_nil] at ep2
        subst ep2
        have ol := ordS_len s.m.length
        refine hF2 _ _ ⟨done ++ [q], rest, z, _, _, _, _, _, x10, x11, x12, x13, by rw [ep, List.append_assoc]; rfl, rfl, ?_, by rw [List.length_append, List.length_singleton]; omega, rfl, rfl⟩
        refine hz.congr fun x hx => ?_
        rw [add_B hle hx, List.foldl_append, hG]; rfl
      case refine_2 =>
        rintro d ds ρ c F3 hF3 ⟨dn, rs, z, x10, x11, x12, x13, ep2, ed2, hz, sz, rfl, rfl⟩
        cases rs with
        | nil => cases ed2
        | cons b rs =>
        injection ed2 with e3 e4
        subst e3; subst e4
        have hb : b.1 < s.m.length := mem_ordS.mp (by rw [ep2]; simp)
        have hGN : ∀ x, dn.foldl (updB s (r.length + 1) q) G x ≤ NO := fun x => foldB_NO s _ q dn G (fun x => by rw [← hG]; exact foldP_NO s _ done _ (fun x => row_NO _) x) x
        generalize hG' : dn.foldl (updB s (r.length + 1) q) G = G' at hz hGN
        conv => whnf
        rw [hy']
        conv => whnf
        refine ⟨⟨_, _, hw _⟩, ?_⟩
        conv => whnf
        refine ⟨_, _, kyS b, kyS (q.i, q.d), hw _, rfl, rfl, ?_⟩
        rw [show lookT (t2.map keyP) (is2.map D.int) [kyS b, kyS (q.i, q.d)] = _ from tab_get h5 hI2 (q := (b, (q.i, q.d))) ⟨hb, hqi⟩]
        have keep : ∀ x11 : Option D, G' (b, (q.j, q.e)) ≤ valP s (r.length + 1) q b → F3 [some s.d, some (.int M), some (.cell 0), some (.int (1 + (r.length : Int))), some (.cell (Cell.lst (rowE u r) :: r.map cellU).length), some (.str q.t), some (.str (stS q.i q.d)), some (.str (stS q.j q.e)), some (.int q.l), some (.int q.c), some (.str (sS b)), x11, x12, x13] (.lst (rowE u r) :: (r.map cellU ++ [cellU z])) := fun x11 h => by
          refine hF3 _ _ ⟨dn ++ [b], rs, z, _, x11, x12, x13, by rw [ep2, List.append_assoc]; rfl, rfl, ?_, by rw [List.length_append]; omega, rfl, rfl⟩
          rw [List.foldl_append, hG']
          refine hz.congr fun x hx => ?_
          show _ = if x = (b, (q.j, q.e)) then min (G' x) (valP s (r.length + 1) q b) else G' x
          by_cases ex : x = (b, (q.j, q.e))
          · rw [if_pos ex, ex]; exact (Int.min_eq_left h).symm
          · rw [if_neg ex]
        by_cases hv : rowF s b (r.length + 1 - q.l) (q.i, q.d) < NO
        case neg =>
          rw [if_neg hv]
          conv => whnf
          refine keep _ ?_
          have h1 := row_NO b (s := s) (k := r.length + 1 - q.l) (y := (q.i, q.d))
          have h2 := hGN (b, (q.j, q.e))
          show _ ≤ rowF s b (r.length + 1 - q.l) (q.i, q.d) + (q.c : Int)
          omega
        rw [if_pos hv]
        have h810 := row_810 b hs (by omega) h5 hqi hv
        have hnn := row_nn hs (b := b) (r.length + 1 - q.l) (q.i, q.d) hqi
        conv => whnf
        have hvz := vw_T (last_cell u r z)
        refine ⟨⟨_, _, hvz⟩, ?_⟩
        conv => whnf
        refine ⟨⟨by decide, by decide, by decide⟩, ?_⟩
        refine ⟨_, _, kyS b, kyS (q.j, q.e), hvz, rfl, rfl, ?_⟩
        have hN := hGN (b, (q.j, q.e))
        have hW : ∃ W : Int, ((lookT (z.1.map keyP) (z.2.map D.int) [kyS b, kyS (q.j, q.e)]).getD (D.int ((10 : Int) ^ (9 : Int).toNat))) = .int W ∧ (rowF s b (r.length + 1 - q.l) (q.i, q.d) + (q.c : Int) < W ↔ rowF s b (r.length + 1 - q.l) (q.i, q.d) + (q.c : Int) < G' (b, (q.j, q.e))) := by
          rw [show lookT (z.1.map keyP) (z.2.map D.int) [kyS b, kyS (q.j, q.e)] = _ from tab_get h5 hz (q := (b, (q.j, q.e))) ⟨hb, hqj⟩]
          by_cases hg : G' (b, (q.j, q.e)) < NO
          · rw [if_pos hg]; exact ⟨_, rfl, Iff.rfl⟩
          · rw [if_neg hg]
            have eN : NO = 1000000 := rfl
            refine ⟨1000000000, by show D.int _ = D.int _; congr 1, ?_⟩
            omega
        obtain ⟨W, eW, hW⟩ := hW
        rw [eW]
        conv => whnf
        by_cases hlt : rowF s b (r.length + 1 - q.l) (q.i, q.d) + (q.c : Int) < W
        case neg =>
          rw [show (fun i j : Int => decide (i < j)) (rowF s (b, q.i, q.d).fst (r.length + 1 - q.l) (b, q.i, q.d).snd + (q.c : Int)) W = false from decide_eq_false hlt]
          conv => whnf
          refine keep _ ?_
          show _ ≤ rowF s b (r.length + 1 - q.l) (q.i, q.d) + (q.c : Int)
          omega
        rw [show (fun i j : Int => decide (i < j)) (rowF s (b, q.i, q.d).fst (r.length + 1 - q.l) (b, q.i, q.d).snd + (q.c : Int)) W = true from decide_eq_true hlt]
        conv => whnf
        have bl2 := big_line
        refine ⟨_, z.1.map keyP, z.2.map D.int, kyS b, kyS (q.j, q.e), rfl, last_cell u r z, rfl, rfl, ?_, ?_⟩
        · rw [List.length_map]
          have : dn.length ≤ 10 := by
            have ol := ordS_len s.m.length
            rw [ep2, List.length_append] at ol
            omega
          have : done.length ≤ 8 := by
            rw [ep, List.length_append] at np
            omega
          omega
        have okq : okP s.m.length (b, (q.j, q.e)) := ⟨hb, hqj⟩
        obtain ⟨hz', sz'⟩ := tab_put hz okq (v := rowF s b (r.length + 1 - q.l) (q.i, q.d) + (q.c : Int)) (by have eN : NO = 1000000 := rfl; omega)
        have pd := put_D h5 okq (v := rowF s b (r.length + 1 - q.l) (q.i, q.d) + (q.c : Int)) (is := z.2) hz.ok
        have cs := last_set u r z (putP z.1 (b, (q.j, q.e)), putI z.1 z.2 (b, (q.j, q.e)) (rowF s b (r.length + 1 - q.l) (q.i, q.d) + (q.c : Int)))
        refine hF3 _ _ ⟨dn ++ [b], rs, (putP z.1 (b, (q.j, q.e)), putI z.1 z.2 (b, (q.j, q.e)) (rowF s b (r.length + 1 - q.l) (q.i, q.d) + (q.c : Int))), _, _, x12, x13, by rw [ep2, List.append_assoc]; rfl, rfl, ?_, ?_, rfl, ?_⟩
        · rw [List.foldl_append, hG']
          refine hz'.congr fun x hx => ?_
          show _ = if x = (b, (q.j, q.e)) then min (G' x) (rowF s b (r.length + 1 - q.l) (q.i, q.d) + (q.c : Int)) else G' x
          by_cases ex : x = (b, (q.j, q.e))
          · rw [if_pos ex, if_pos ex, ex]; exact (Int.min_eq_right (by omega)).symm
          · rw [if_neg ex, if_neg ex]
        · rw [List.length_append]
          show (putP z.1 (b, (q.j, q.e))).length ≤ _ + (dn.length + 1)
          omega
        · show (Cell.lst (rowE u r) :: (r.map cellU ++ [cellU z])).set (Cell.lst (rowE u r) :: r.map cellU).length (Cell.dcT (putKs (z.1.map keyP) (keyP (b, (q.j, q.e)))) (putDs (z.1.map keyP) (z.2.map D.int) (keyP (b, (q.j, q.e))) (.int (rowF s b (r.length + 1 - q.l) (q.i, q.d) + (q.c : Int))))) = _
          rw [pd]; exact cs
  · obtain rfl : k = 0 := by have : k < 1 := hk; omega
    exact st
  · obtain rfl : k = 0 := by have : k < 1 := hk; omega
    exact sz0
  · show rng 1 (((M : Int) + 1) - 1).toNat = _
    rw [show (((M : Int) + 1) - 1).toNat = M by omega]; rfl
set_option maxHeartbeats 8000000 in
theorem ok__law_begin (T : Tx K mg) : FnOk P w K mg base CX0 1 T.a__law_begin T.d__law_begin ["_law_spec_here", "_law_rows_here"] (spD K 0 2 SB__law_begin) := by
  refine fnD T.F__law_begin sc__law_begin fun cdv A outer s H E hr => ⟨_, (psd_cons (psd_set (i := 2) sc__law_begin.nd (pd_len (pd_ix (pd_v 0) pd_int) T.n_len)) (psd_cons (psd_set (i := 3) sc__law_begin.nd (pd_sub (pd_len (pd_v 1) T.n_len) (pd_v 2))) (psd_cons (psd_while PassesOwn.never (PDw.pt (pdw_and (pdt_gt (pd_v 3) pd_int) (pdw_and1 (pdt_eqDT hr (pd_ix (pd_v 1) (pd_sub (pd_v 3) pd_int)) (pd_ix (pd_v 1) (pd_add (pd_sub (pd_v 3) pd_int) (pd_v 2))))))) (psd_one (psd_set (i := 3) sc__law_begin.nd (pd_sub (pd_v 3) pd_int)))) (psd_one (psd_ret (pd_v 3)))))), ?_⟩
  rintro c ds Φ hc - ⟨s, T, rfl, hs, hT, hm, hlen, hΦ⟩
  cases c with
  | cons _ _ => cases hc
  | nil =>
  have h5 : s.m.length ≤ 5 := tame_len (let_tame (n := 5) hs.m)
  have h0 := sp_one' hs
  have bl := big_line
  conv => whnf
  refine ⟨by omega, ?_⟩
  conv => whnf
  have eL : ((T.map fun u => tabD u.1 u.2).length : Int) = T.length := by rw [List.length_map]
  refine ⟨fun n ρ c => ∃ f : Nat, n = f ∧ f ≤ T.length - s.m.length ∧ (∀ k q, f ≤ k → k + s.m.length < T.length → okP s.m.length q → rowF s q.1 k q.2 = rowF s q.1 (k + s.m.length) q.2) ∧ ρ = [some s.d, some (.lst (T.map fun u => tabD u.1 u.2)), some (.int s.m.length), some (.int f)] ∧ c = [], ⟨_, T.length - s.m.length, rfl, Nat.le_refl _, fun k q h1 h2 => by omega, ?_, rfl⟩, ?_⟩
  · show [some s.d, some (.lst (T.map fun u => tabD u.1 u.2)), some (.int s.m.length), some (.int (((T.map fun u => tabD u.1 u.2).length : Int) - s.m.length))] = _
    rw [eL, show ((T.length : Int) - (s.m.length : Int)) = ((T.length - s.m.length : Nat) : Int) by omega]
  · rintro n ρ c ⟨f, rfl, hf, hk, rfl, rfl⟩
    conv => whnf
    by_cases f0 : n = 0
    case pos =>
      subst f0
      rw [show (fun i j : Int => decide (j < i)) ((0 : Nat) : Int) 0 = false from rfl]
      exact hΦ 0 hf hk (fun z => absurd z (by omega))
    rw [show (fun i j : Int => decide (j < i)) (n : Int) 0 = true from decide_eq_true (by omega)]
    have k1 : n - 1 < T.length := by omega
    have k2 : n - 1 + s.m.length < T.length := by omega
    have a1 : L2.atI (T.map fun u => tabD u.1 u.2) ((n : Int) - 1) = some (tabU T[n - 1]) := by
      rw [show ((n : Int) - 1) = ((n - 1 : Nat) : Int) by omega, ix_pos (by rw [List.length_map]; exact k1), List.getElem?_map, List.getElem?_eq_getElem k1]; rfl
    have a2 : L2.atI (T.map fun u => tabD u.1 u.2) ((n : Int) - 1 + (s.m.length : Int)) = some (tabU T[n - 1 + s.m.length]) := by
      rw [show ((n : Int) - 1 + (s.m.length : Int)) = ((n - 1 + s.m.length : Nat) : Int) by omega, ix_pos (by rw [List.length_map]; exact k2), List.getElem?_map, List.getElem?_eq_getElem k2]; rfl
    have same := tab_same h5 (hT.is _ k1) (hT.is _ k2) (fun q _ => row_NO q.1) (fun q _ => row_NO q.1)
    conv => whnf
    rw [a1]
    conv => whnf
    rw [a2]
    conv => whnf
    refine ⟨_, _, _, _, rfl, rfl, ?_⟩
    generalize hB : (((T[n - 1].1.map keyP).length == (T[n - 1 + s.m.length].1.map keyP).length) && sameTI (T[n - 1 + s.m.length].1.map keyP) T[n - 1 + s.m.length].2 (T[n - 1].1.map keyP) T[n - 1].2) = B at same
    cases B with
    | false =>
      refine hΦ n hf hk fun _ => ?_
      refine Classical.byContradiction fun none_ => ?_
      have all : ∀ q, okP s.m.length q → rowF s q.1 (n - 1) q.2 = rowF s q.1 (n - 1 + s.m.length) q.2 := fun q hq => Classical.byContradiction fun ne => none_ ⟨q, hq, ne⟩
      exact absurd (same.mpr all) (by decide)
    | true =>
      have all := same.mp rfl
      refine ⟨fun ρ c => ρ = [some s.d, some (.lst (T.map fun u => tabD u.1 u.2)), some (.int s.m.length), some (.int ((n : Int) - 1))] ∧ c = [], fun ρ' c' hN => ?_, rfl, rfl⟩
      obtain ⟨rfl, rfl⟩ := hN
      refine ⟨n - 1, by omega, n - 1, rfl, by omega, fun k q h1 h2 hq => ?_, by rw [show ((n : Int) - 1) = ((n - 1 : Nat) : Int) by omega], rfl⟩
      by_cases e : k = n - 1
      · subst e; exact all q hq
      · exact hk k q (by omega) h2 hq

end

end K20

namespace K20
open PySem PySem.Spec PyProof.Rows L2 Cw
theorem spec_call {a b k lim : Int} {rest : List Cell} {Φ : D → List Cell → Prop} (hB : B3 a b k lim) (hl : lim ≤ 2500)
    (h : ∀ (s : Sp) a' b' k', s.ok → B3 a' b' k' (lim + 400) → Φ s.d (spr a' b' k' :: rest)) : callM S__law_spec [.cell 0] (spr a b k :: rest) Φ :=
  ⟨spr a b k, rfl, rfl, rfl, a, b, k, lim, rfl, rfl, hB, hl, fun s a' b' k' h1 h2 => ⟨rfl, (Bool.and_eq_true_iff.mp (sp_ok s)).1, h s a' b' k' h1 h2⟩⟩
def Sp.rev (s : Sp) : Sp := ⟨s.m, s.ps.reverse, s.js.reverse⟩
theorem Sp.rev_ok {s : Sp} (h : s.ok) : s.rev.ok := ⟨h.m, fun p hp => h.ps p (List.mem_reverse.mp hp), by show s.ps.reverse.length ≤ 8; rw [List.length_reverse]; exact h.np,
  by show (s.ps.reverse.map (·.t)).Nodup; rw [List.map_reverse]; exact (List.reverse_perm _).nodup_iff.mpr h.dp, fun p hp => h.js p (List.mem_reverse.mp hp), by show s.js.reverse.length ≤ 12; rw [List.length_reverse]; exact h.nj,
  by show (s.js.reverse.map Joint.k).Nodup; rw [List.map_reverse]; exact (List.reverse_perm _).nodup_iff.mpr h.dj, h.pool.imp fun pool hp => ⟨hp.1, fun p hq => hp.2 p (List.mem_reverse.mp hq)⟩⟩
theorem Sp.rev_d (s : Sp) : s.rev.d = .tup [.str s.m, .tup (s.ps.map Part.d').reverse, .tup (s.js.map Joint.d').reverse] := by
  show D.tup [.str s.m, .tup (s.ps.reverse.map Part.d'), .tup (s.js.reverse.map Joint.d')] = _
  rw [List.map_reverse, List.map_reverse]
theorem flds_ok (s : Sp) (zs : List Str) : okDs 0 [.str s.text, .str s.m, .tup (s.ps.map Part.d'), .tup (s.js.map Joint.d'), stD s.m.length, .tup (zs.map .str)] = true := by
  show (true && (true && (okDs 0 (s.ps.map Part.d') && (okDs 0 (s.js.map Joint.d') && (okDs 0 ((stL s.m.length).map D.str) && (okDs 0 (zs.map D.str) && true)))))) = true
  rw [okDs_map (fun _ => rfl), okDs_map (fun _ => rfl), okDs_map (fun _ => rfl), okDs_map (fun _ => rfl)]; rfl
theorem b2_ok (C : Addr) (s t : Sp) (zs zt : List Str) : okDs 0 [bD C s zs, bD C t zt] = true := by
  have h := b_ok C s zs
  have h2 := b_ok C t zt
  show (okD 0 (bD C s zs) && okDs 0 [bD C t zt]) = true
  rw [h2, (Bool.and_eq_true_iff.mp h).1]; rfl
theorem due_shaped {s : Sp} (h : s.ok) {zs : List Str} (hz : tits s zs) : SeqAt.shaped (duePy s zs) = true := by
  have f := due_fine h hz
  have hd := f.dep
  show ((duePy s zs).canLay0 && decide ((duePy s zs).depth ≤ 64)) = true
  rw [f.lay, decide_eq_true (by omega)]; rfl
theorem due_eqv {s : Sp} (h : s.ok) {zs : List Str} (hz : tits s zs) : PyData.eqv (duePy s zs) (duePy s zs) = true := PySem.SeqAt.eqv_refl _ (due_fine h hz).lay
theorem nd_t {p : Prop} [Decidable p] (h : (if true = true then !decide p else decide p) = true) : ¬ p := by
  simpa using h
def S__law_right : Pm := fun c ds Φ => ∃ a b, c = [brk a b] ∧ ds = [.cell 0] ∧ BR a b ∧ ∀ a' b', Φ (.bl true) [brk a' b']
theorem stL_at {p j : Nat} (hp : p ≤ 5) (hj : j < 2 * p) : L2.atI ((stL p).map D.str) (j : Int) = some (.str (stS (j / 2) (decide (j % 2 = 1)))) := by
  have key : ∀ i : Nat, i < 10 → i < 2 * p → (stL p)[i]? = some (stS (i / 2) (decide (i % 2 = 1))) := by
    intro i hi
    have h : p = 0 ∨ p = 1 ∨ p = 2 ∨ p = 3 ∨ p = 4 ∨ p = 5 := by omega
    rcases h with rfl | rfl | rfl | rfl | rfl | rfl <;> revert i <;> decide +kernel
  have e := key j (by omega) hj
  unfold L2.atI L2.ixN
  have hl := (List.getElem?_eq_some_iff.mp e).1
  rw [if_pos (by omega), if_pos (by rw [List.length_map]; omega)]
  show ((stL p).map D.str)[((j : Int)).toNat]? = _
  rw [Int.toNat_natCast, List.getElem?_map, e]; rfl
theorem sg_ok {s : Sp} (hs : s.ok) (i n : Nat) (d : Bool) : PyData.strOk (sgS s.m i d n) = true := strOk_of fun k hk => by
  have hk : k ∈ (List.range n).map (sg s.m.cps.toList i d) := by
    have e : TL.tl (sgS s.m i d n) = (List.range n).map (sg s.m.cps.toList i d) := by unfold TL.tl sgS; simp
    rw [← e]; exact hk
  obtain ⟨j, _, rfl⟩ := List.mem_map.mp hk
  unfold sg
  rw [List.getD_eq_getElem?_getD]
  generalize (if d = true then i + j else i + (j + 1) * (s.m.cps.toList.length - 1)) % s.m.cps.toList.length = q
  cases e : s.m.cps.toList[q]? with
  | none => exact (by decide : (0 : Nat) < 0x110000)
  | some c =>
    have := List.all_eq_true.mp (Bool.and_eq_true_iff.mp (show (decide _ && s.m.cps.toList.all lower) = true from hs.m)).2 c (List.mem_of_getElem? e)
    have := of_decide_eq_true this
    show c < 0x110000
    omega
theorem sg_len (m : Str) (i n : Nat) (d : Bool) : (sgS m i d n).length = n := by unfold sgS; rw [str_len]; simp
theorem showy2 {x y : Str} (hx : PyData.strOk x = true) (hy : PyData.strOk y = true) (lx : x.length ≤ 1000) (ly : y.length ≤ 1000) : Showy (.list [.str x, .str y]) :=
  (fine_lst (n := 3000) (d := 0) (fines_cons (m := 1500) (fine_str hx lx) (Nat.le_refl _) (fines_cons (m := 0) (fine_str hy ly) (Nat.le_refl _) fines_nil (by decide)) (by decide)) (by decide)).showy (by decide)
def lotD (d : D) : Prop := ∃ n : Int, d = .int n ∧ 0 ≤ n ∧ n ≤ 1000
def S__law_string : Pm := fun c ds Φ => ∃ a b k lim, ∃ s : Sp, ∃ n : Int, c = [spr a b k] ∧ ds = [.cell 0, s.d, .int n] ∧ s.ok ∧ B3 a b k lim ∧ lim ≤ 3900 ∧ ∀ t a' b' k', thing t → B3 a' b' k' (lim + 60) → Φ (.str t) [spr a' b' k']
theorem at_low {s : Sp} (hs : s.ok) {v : Int} (h0 : 0 ≤ v) (h1 : v < s.m.length) : ∃ q, L2.atI s.m.cps.toList v = some q ∧ lower q = true := by
  obtain ⟨n, rfl⟩ : ∃ n : Nat, v = n := ⟨v.toNat, by omega⟩
  have hl : s.m.cps.toList.length = s.m.length := Array.length_toList
  have hn : n < s.m.cps.toList.length := by omega
  refine ⟨s.m.cps.toList[n], ?_, List.all_eq_true.mp (Bool.and_eq_true_iff.mp (show (decide _ && s.m.cps.toList.all lower) = true from hs.m)).2 _ (List.getElem_mem hn)⟩
  rw [at_get hn, List.getD_eq_getElem?_getD, List.getElem?_eq_getElem hn]; rfl
theorem chg {t : Str} {q : Nat} {v : Int} (ht : t.cps.toList.all lower = true) (hq : lower q = true) (h0 : 0 ≤ v) (h1 : v < t.length + 1) :
    ((cutS t none (some v) ++ one q ++ cutS t (some (v + 1)) none).cps.toList.all lower = true) ∧ (cutS t none (some v) ++ one q ++ cutS t (some (v + 1)) none).length ≤ t.length + 1 := by
  obtain ⟨n, rfl⟩ : ∃ n : Nat, v = n := ⟨v.toNat, by omega⟩
  have hl : t.cps.toList.length = t.length := Array.length_toList
  have e : (cutS t none (some (n : Int)) ++ one q ++ cutS t (some ((n : Int) + 1)) none).cps.toList = t.cps.toList.take n ++ [q] ++ t.cps.toList.drop (n + 1) := by
    show ((cutS t none (some (n : Int))).cps ++ (one q).cps ++ (cutS t (some ((n : Int) + 1)) none).cps).toList = _
    rw [Array.toList_append, Array.toList_append, cut_hi]
    have := cut_lo t (n + 1)
    rw [show (((n + 1 : Nat)) : Int) = (n : Int) + 1 by omega] at this
    rw [this]
  constructor
  · rw [e, List.all_append, List.all_append, Bool.and_eq_true_iff, Bool.and_eq_true_iff]
    refine ⟨⟨?_, by show (lower q && true) = true; rw [hq]; rfl⟩, ?_⟩
    · exact List.all_eq_true.mpr fun k hk => List.all_eq_true.mp ht k (List.mem_of_mem_take hk)
    · exact List.all_eq_true.mpr fun k hk => List.all_eq_true.mp ht k (List.mem_of_mem_drop hk)
  · show Array.size _ ≤ _
    rw [← Array.length_toList, e, List.length_append, List.length_append, List.length_take, List.length_drop]
    show min n _ + 1 + (_ - (n + 1)) ≤ _
    omega
theorem sg_low {s : Sp} (hs : s.ok) {i n : Nat} (d : Bool) (hi : i < s.m.length) : (sgS s.m i d n).cps.toList.all lower = true := by
  have hl : s.m.cps.toList.length = s.m.length := Array.length_toList
  have e : (sgS s.m i d n).cps.toList = (List.range n).map (sg s.m.cps.toList i d) := by unfold sgS; simp
  rw [e]
  refine List.all_eq_true.mpr fun k hk => ?_
  obtain ⟨j, _, rfl⟩ := List.mem_map.mp hk
  unfold sg
  have hq : (if d = true then i + j else i + (j + 1) * (s.m.cps.toList.length - 1)) % s.m.cps.toList.length < s.m.cps.toList.length := Nat.mod_lt _ (by omega)
  generalize (if d = true then i + j else i + (j + 1) * (s.m.cps.toList.length - 1)) % s.m.cps.toList.length = q at hq
  rw [List.getD_eq_getElem?_getD, List.getElem?_eq_getElem hq]
  exact List.all_eq_true.mp (Bool.and_eq_true_iff.mp (show (decide _ && s.m.cps.toList.all lower) = true from hs.m)).2 _ (List.getElem_mem hq)
theorem cut_low {t : Str} (ht : t.cps.toList.all lower = true) (n : Nat) : (cutS t none (some (n : Int))).cps.toList.all lower = true ∧ (cutS t none (some (n : Int))).length ≤ n := by
  constructor
  · rw [cut_hi]; exact List.all_eq_true.mpr fun k hk => List.all_eq_true.mp ht k (List.mem_of_mem_take hk)
  · show Array.size _ ≤ _
    rw [← Array.length_toList, cut_hi, List.length_take]; omega
theorem sp_one {s : Sp} (hs : s.ok) : 1 ≤ s.m.length := by
  have := of_decide_eq_true (Bool.and_eq_true_iff.mp (show (decide _ && s.m.cps.toList.all lower) = true from hs.m)).1
  omega
theorem string_call {a b k lim : Int} {n : Int} {s : Sp} {rest : List Cell} {Φ : D → List Cell → Prop} (hs : s.ok) (hB : B3 a b k lim) (hl : lim ≤ 3900)
    (h : ∀ t a' b' k', thing t → B3 a' b' k' (lim + 60) → Φ (.str t) (spr a' b' k' :: rest)) : callM S__law_string [.cell 0, s.d, .int n] (spr a b k :: rest) Φ :=
  ⟨spr a b k, rfl, rfl, (by show (okD 0 s.d && true) = true; rw [(Bool.and_eq_true_iff.mp (sp_ok s)).1]; rfl), a, b, k, lim, s, n, rfl, rfl, hs, hB, hl, fun t a' b' k' h1 h2 => ⟨rfl, rfl, h t a' b' k' h1 h2⟩⟩
def bgnPy (p : Nat) (Q : Str → Bool) : PyData := .list [.tuple (((stL p).filter Q).map .str), .tuple (((stL p).filter Q).map .str)]
theorem bgn_py (p : Nat) (Q : Str → Bool) : D.py (.lst [.tup (((stL p).filter Q).map D.str), .tup (((stL p).filter Q).map D.str)]) = some (bgnPy p Q) := by
  have e : D.py (.tup (((stL p).filter Q).map D.str)) = some (.tuple (((stL p).filter Q).map .str)) := by
    show (D.pys (((stL p).filter Q).map D.str)).map PyData.tuple = _
    rw [pys_of (py := PyData.str) fun _ => rfl]; rfl
  show (D.pys [.tup (((stL p).filter Q).map D.str), .tup (((stL p).filter Q).map D.str)]).map PyData.list = _
  simp only [D.pys, e]
  rfl
theorem bgn_showy {p : Nat} (hp : p ≤ 5) (Q : Str → Bool) : Showy (bgnPy p Q) := by
  have f1 : Fines (((stL p).filter Q).map PyData.str) (3 * ((stL p).filter Q).length) 0 := fines_of (a := 2) fun x hx => by
    obtain ⟨i, d, hi, rfl⟩ := st_of (List.mem_filter.mp hx).1
    exact ⟨fine_str (tame_ok (st_tame _ (by omega))) (st_len _ (by omega)), Nat.le_refl _⟩
  have l1 : ((stL p).filter Q).length ≤ 10 := by
    have := List.length_filter_le Q (stL p)
    rw [stL_len] at this; omega
  have t1 : Fine (.tuple (((stL p).filter Q).map PyData.str)) 30 := (fine_tup f1 (by decide)).up (by omega)
  have d1 : (PyData.tuple (((stL p).filter Q).map PyData.str)).depth ≤ 1 := by show PyData.depthAll _ + 1 ≤ 1; have := f1.dep; omega
  exact (fine_lst (n := 200) (d := 1) (fines_cons (m := 100) t1 d1 (fines_cons (m := 0) t1 d1 fines_nil (by decide)) (by decide)) (by decide)).showy (by decide)
/-- a row in which the loop ends is the first of six that come again -/
theorem ends_ne {s : Sp} {b : Nat × Bool} (h0 : 0 < s.m.length) {N : Nat} (h : endsAt s b N) (hp : s.m.length + 5 < N) : ∃ y : Nat × Bool, y.1 < s.m.length ∧ rowF s b (N - 6 - s.m.length) y ≠ rowF s b (N - 6) y := by
  have down : ∀ j, j ≤ 6 → againF s b (N - j) = 6 - j := by
    intro j
    induction j with
    | zero => intro _; exact h.1
    | succ j ih =>
      intro hj
      have i := ih (by omega)
      obtain ⟨n, hn⟩ : ∃ n, N - j = n + 1 := ⟨N - j - 1, by omega⟩
      rw [hn] at i
      have e : N - (j + 1) = n := by omega
      rw [e]
      rcases again_one s b n with z | z <;> omega
  have z := down 6 (Nat.le_refl _)
  obtain ⟨n, hn⟩ : ∃ n, N - 6 = n + 1 := ⟨N - 7, by omega⟩
  have z : againF s b (n + 1) = 0 := by rw [← hn]; exact z
  refine Classical.byContradiction fun none_ => ?_
  have all : ∀ y : Nat × Bool, y.1 < s.m.length → rowF s b (n + 1 - s.m.length) y = rowF s b (n + 1) y := fun y hy => Classical.byContradiction fun ne => none_ ⟨y, hy, by rw [hn]; exact ne⟩
  have z' : (if s.m.length ≤ n + 1 ∧ eqR s.m.length (rowF s b (n + 1)) (rowF s b (n + 1 - s.m.length)) = true then againF s b n + 1 else 0) = 0 := z
  rw [if_pos ⟨by omega, List.all_eq_true.mpr fun x hx => decide_eq_true (all x (mem_ordS.mp hx)).symm⟩] at z'
  omega
theorem ends_one {s : Sp} {b : Nat × Bool} {N M : Nat} (h : endsAt s b N) (h' : endsAt s b M) : N = M := by
  have h1 := h.2.2 M
  have h2 := h'.2.2 N
  have := h.1; have := h'.1
  omega
/-- from f on all rows come again, and f is the least such number -/
def fromF (s : Sp) (f L : Nat) : Prop := (∀ k q, f ≤ k → k + s.m.length < L → okP s.m.length q → rowF s q.1 k q.2 = rowF s q.1 (k + s.m.length) q.2) ∧ (0 < f → ∃ q, okP s.m.length q ∧ rowF s q.1 (f - 1) q.2 ≠ rowF s q.1 (f - 1 + s.m.length) q.2)
theorem cal_call' {C : Addr} {s : Sp} {zs : List Str} (hs : s.ok) {f L : Nat} (hL : 101 ≤ L) (hf : fromF s f L) {c : List Cell} {Φ : D → List Cell → Prop} (h : Φ (.int f) c) : callP (S_calendar C) [bD C s zs] c Φ := by
  have h5 : s.m.length ≤ 5 := tame_len (let_tame (n := 5) hs.m)
  have h0 := sp_one' hs
  have ex : ∀ b : Nat × Bool, ∃ N, b.1 < s.m.length → N ≤ 95 + s.m.length ∧ endsAt s b N := fun b => by
    by_cases hb : b.1 < s.m.length
    · obtain ⟨N, h1, h2⟩ := ends_ex b hs (by omega) h5
      exact ⟨N, fun _ => ⟨h1, h2⟩⟩
    · exact ⟨0, fun z => absurd z hb⟩
  refine ⟨b_ok C s zs, s, zs, fun b => Classical.choose (ex b), rfl, hs, fun b hb => (Classical.choose_spec (ex b) hb).2, fun T hT1 hT2 => ?_⟩
  obtain ⟨b, hb, hT⟩ := hT1
  have hN := Classical.choose_spec (ex b) hb
  have hge := ends_ge hN.2
  have eT : T = (f : Int) := by
    by_cases lt : (f : Int) < T
    · -- the row before the calendar does not come again
      have hT : T = ((Classical.choose (ex b) : Nat) : Int) - 5 - (s.m.length : Int) := hT
      obtain ⟨y, hy, ne⟩ := ends_ne h0 hN.2 (by omega)
      have e := hf.1 (Classical.choose (ex b) - 6 - s.m.length) (b, y) (by omega) (by omega) ⟨hb, hy⟩
      rw [show Classical.choose (ex b) - 6 - s.m.length + s.m.length = Classical.choose (ex b) - 6 by omega] at e
      exact absurd e ne
    · by_cases gt : T < (f : Int)
      · have hTn : 0 ≤ T := by
          have hT : T = ((Classical.choose (ex b) : Nat) : Int) - 5 - (s.m.length : Int) := hT
          omega
        obtain ⟨q, hq, ne⟩ := hf.2 (by omega)
        have hM := Classical.choose_spec (ex q.1) hq.1
        have hle : ((Classical.choose (ex q.1) : Nat) : Int) - 5 - (s.m.length : Int) ≤ T := hT2 q.1 hq.1
        have per := ends_per hs h0 hM.2 hq.2 1 (f - 1) (by omega)
        rw [Nat.mul_one] at per
        exact absurd per.symm ne
      · omega
  rw [eT]; exact h
/-- without pieces -/
def Sp.bare (s : Sp) : Sp := { s with ps := [] }
theorem bare_ok {s : Sp} (hs : s.ok) : s.bare.ok where
  m := hs.m
  ps := fun p hp => by cases hp
  np := Nat.zero_le _
  dp := List.nodup_nil
  js := hs.js
  nj := hs.nj
  dj := hs.dj
  pool := hs.pool
theorem bare_row {s : Sp} (hs : s.ok) (b : Nat × Bool) : ∀ (j k : Nat) (y : Nat × Bool), b.1 < s.m.length → y.1 < s.m.length → rowF s.bare b (k + j) y = rowF s.bare b k (goS s.m.length y (-(j : Int)))
  | 0, k, y, hb, hy => by rw [Nat.add_zero]; show _ = rowF s.bare b k (goS s.m.length y (-0)); rw [Int.neg_zero, go_0 hy]
  | j + 1, k, y, hb, hy => by
    have h5 : s.m.length ≤ 5 := tame_len (let_tame (n := 5) hs.m)
    have r := row_fold (bare_ok hs) (k + j) (x := (b, y)) ⟨hb, hy⟩
    have r : rowF s.bare b (k + j) (bkS s.m.length y) = rowF s.bare b (k + j + 1) y := r
    rw [← Nat.add_assoc, ← r, bare_row hs b j k _ hb (bk_lt hy), bk_go hy h5, go_add (by omega) h5]
    congr 2; omega
theorem bare_from {s : Sp} (hs : s.ok) (L : Nat) : fromF s.bare 0 L := by
  refine ⟨fun k q _ _ hq => ?_, fun z => absurd z (by omega)⟩
  have h5 : s.m.length ≤ 5 := tame_len (let_tame (n := 5) hs.m)
  have hq : okP s.m.length q := hq
  have h0 : 0 < s.m.length := Nat.lt_of_le_of_lt (Nat.zero_le _) hq.1
  show rowF s.bare q.1 k q.2 = rowF s.bare q.1 (k + s.m.length) q.2
  rw [bare_row hs q.1 s.m.length k q.2 hq.1 hq.2, go_mod (l := 0) h0 h5 (by simp), go_0 hq.2]
theorem bare_d (s : Sp) : D.tup [.str s.m, .tup [], .tup (s.js.map Joint.d')] = s.bare.d := rfl
theorem rows_again {s : Sp} (hs : s.ok) {w f : Nat} (hw : ∀ q ∈ s.ps, q.l ≤ w) (base : ∀ j, j < w → ∀ q, okP s.m.length q → rowF s q.1 (f + j) q.2 = rowF s q.1 (f + j + s.m.length) q.2) (w0 : 0 < w) : ∀ (k : Nat) (q : PS), f ≤ k → okP s.m.length q → rowF s q.1 k q.2 = rowF s q.1 (k + s.m.length) q.2 := by
  intro k
  induction k using Nat.strongRecOn with
  | ind k ih =>
    intro q hk hq
    by_cases hlt : k < f + w
    · have h := base (k - f) (by omega) q hq
      rw [show f + (k - f) = k by omega] at h
      exact h
    · obtain ⟨n, rfl⟩ : ∃ n, k = n + 1 := ⟨k - 1, by omega⟩
      have h1 := row_fold hs n hq
      have h2 := row_fold hs (n + s.m.length) hq
      rw [fold_P s _ _ _ _ (row_NO _)] at h1
      rw [fold_P s _ _ _ _ (row_NO _)] at h2
      rw [show n + 1 + s.m.length = n + s.m.length + 1 by omega, ← h1, ← h2]
      congr 1
      · exact ih n (by omega) (q.1, bkS s.m.length q.2) (by omega) ⟨hq.1, bk_lt hq.2⟩
      · have e1 : ∀ (M : Nat), w ≤ M → ((s.ps.filter fun p => decide ((p.j, p.e) = q.2)).filter fun p => decide (p.l ≤ M)) = s.ps.filter fun p => decide ((p.j, p.e) = q.2) := fun M hM =>
          List.filter_eq_self.mpr fun p hp => decide_eq_true (Nat.le_trans (hw p (List.mem_filter.mp hp).1) hM)
        rw [e1 (n + 1) (by omega), e1 (n + s.m.length + 1) (by omega)]
        congr 1
        apply List.map_congr_left
        intro p hp
        have hp1 := (List.mem_filter.mp hp).1
        have hl := hs.ps p hp1
        have hpw := hw p hp1
        unfold valP
        have one : 1 ≤ p.l := hl.2.2.1.1
        rw [ih (n + 1 - p.l) (by omega) (q.1, (p.i, p.d)) (by omega) ⟨hq.1, hl.2.1.1⟩]
        show rowF s q.1 (n + 1 - p.l + s.m.length) (p.i, p.d) + _ = rowF s q.1 (n + s.m.length + 1 - p.l) (p.i, p.d) + _
        rw [show n + 1 - p.l + s.m.length = n + s.m.length + 1 - p.l by omega]
def kn1 : Sp := ⟨"a", [⟨"b", 0, true, 0, true, 1, 3⟩], []⟩
def kn2 : Sp := ⟨"abc", [⟨"gap", 0, true, 1, true, 2, 5⟩], []⟩
def kn3 : Sp := ⟨"ab", [⟨"b", 0, true, 1, false, 1, 0⟩], []⟩
theorem one_ok {m : Str} {p : Part} (hm : isLet m 5 = true) (hp : p.ok m.length) : (⟨m, [p], []⟩ : Sp).ok where
  m := hm
  ps := fun q hq => by rw [List.mem_singleton.mp hq]; exact hp
  np := by show 1 ≤ 8; decide
  dp := by simp
  js := fun p hp => by cases hp
  nj := by show 0 ≤ 12; decide
  dj := .nil
  pool := ⟨[], by decide, fun p hp => by cases hp⟩
theorem kn1_ok : kn1.ok := one_ok (by decide +kernel) ⟨by decide +kernel, ⟨by decide +kernel, by decide +kernel⟩, ⟨by decide, by decide⟩, by decide⟩
theorem kn2_ok : kn2.ok := one_ok (by decide +kernel) ⟨by decide +kernel, ⟨by decide +kernel, by decide +kernel⟩, ⟨by decide, by decide⟩, by decide⟩
theorem kn3_ok : kn3.ok := one_ok (by decide +kernel) ⟨by decide +kernel, ⟨by decide +kernel, by decide +kernel⟩, ⟨by decide, by decide⟩, by decide⟩
theorem kn1_text : Str.ofString "signs a\npiece b 0> 0> long 1 cost 3" = kn1.text := by decide +kernel
theorem kn2_text : Str.ofString "signs abc\npiece gap 0> 1> long 2 cost 5" = kn2.text := by decide +kernel
theorem kn3_text : Str.ofString "signs ab\npiece b 0> 1< long 1 cost 0" = kn3.text := by decide +kernel
def allEq (s : Sp) (p k l : Nat) : Bool := (ordS p).all fun b => (ordS p).all fun y => decide (rowF s b k y = rowF s b l y)
theorem all_eq {s : Sp} {p k l : Nat} (h : allEq s p k l = true) {q : PS} (hq : okP p q) : rowF s q.1 k q.2 = rowF s q.1 l q.2 :=
  of_decide_eq_true (List.all_eq_true.mp (List.all_eq_true.mp h q.1 (mem_ordS.mpr hq.1)) q.2 (mem_ordS.mpr hq.2))
theorem kn1_len : kn1.m.length = 1 := by decide +kernel
theorem kn2_len : kn2.m.length = 3 := by decide +kernel
theorem kn3_len : kn3.m.length = 2 := by decide +kernel
theorem kn1_from : fromF kn1 0 101 := ⟨fun k q hk _ hq => rows_again kn1_ok (w := 1) (f := 0) (fun q hq => by rw [List.mem_singleton.mp hq]; decide) (fun j hj q hq => by
  obtain rfl : j = 0 := by omega
  rw [kn1_len] at hq ⊢
  exact all_eq (by decide +kernel) hq) (by decide) k q hk hq, fun z => absurd z (by decide)⟩
theorem not_all {s : Sp} {p k l : Nat} (h : allEq s p k l = false) : ∃ q, okP p q ∧ rowF s q.1 k q.2 ≠ rowF s q.1 l q.2 := by
  refine Classical.byContradiction fun none_ => ?_
  have : allEq s p k l = true := List.all_eq_true.mpr fun b hb => List.all_eq_true.mpr fun y hy => decide_eq_true (Classical.byContradiction fun ne => none_ ⟨(b, y), ⟨mem_ordS.mp hb, mem_ordS.mp hy⟩, ne⟩)
  rw [this] at h; cases h
theorem kn3_from : fromF kn3 2 101 := ⟨fun k q hk _ hq => rows_again kn3_ok (w := 1) (f := 2) (fun q hq => by rw [List.mem_singleton.mp hq]; decide) (fun j hj q hq => by
  obtain rfl : j = 0 := by omega
  rw [kn3_len] at hq ⊢
  exact all_eq (by decide +kernel) hq) (by decide) k q hk hq, fun z => by rw [kn3_len]; exact not_all (by decide +kernel)⟩
theorem kn2_from : fromF kn2 8 101 := ⟨fun k q hk _ hq => rows_again kn2_ok (w := 2) (f := 8) (fun q hq => by rw [List.mem_singleton.mp hq]; decide) (fun j hj q hq => by
  have : j = 0 ∨ j = 1 := by omega
  rw [kn2_len] at hq ⊢
  rcases this with rfl | rfl
  · exact all_eq (by decide +kernel) hq
  · exact all_eq (by decide +kernel) hq) (by decide) k q hk hq, fun z => by rw [kn2_len]; exact not_all (by decide +kernel)⟩
theorem okCs_app {n : Nat} : ∀ {a b : List Cell}, okCs n a = true → okCs n b = true → okCs n (a ++ b) = true
  | [], _, _, h => h
  | c :: a, b, h, h2 => by
    have h' : okC n c = true ∧ okCs n a = true := by simpa [okCs] using h
    show (okC n c && okCs n (a ++ b)) = true
    rw [h'.1, okCs_app h'.2 h2]; rfl
theorem inner_moreC {c0 : List Cell} (hc : ∀ n, okCs n c0 = true) {acc : List D} {y : D} {ex : List Cell} {Q : List Cell → Prop} (ha : okDs c0.length acc = true) (hy : okD c0.length y = true) (q : Q c0) : inner c0.length acc y (c0 ++ .lst acc :: ex) Q := by
  refine ⟨by rw [List.getElem?_append_right (Nat.le_refl _), Nat.sub_self]; rfl, ?_⟩
  have t0 : (c0 ++ Cell.lst acc :: ex).take c0.length = c0 := by rw [List.take_left']; rfl
  have t1 : (c0 ++ Cell.lst acc :: ex).take (c0.length + 1) = c0 ++ [.lst acc] := by
    rw [show c0 ++ Cell.lst acc :: ex = (c0 ++ [.lst acc]) ++ ex by rw [List.append_assoc]; rfl, List.take_left' (by rw [List.length_append]; rfl)]
  cases Nat.beq (c0 ++ Cell.lst acc :: ex).length (c0.length + 1) with
  | true => show Q _; rw [t0]; exact q
  | false =>
    show okCs _ _ = true ∧ _ ∧ Q _
    rw [t0, t1]
    refine ⟨okCs_app (hc _) ?_, okD_up _ hy, q⟩
    show (okDs _ acc && true) = true
    rw [okDs_up _ ha]; rfl
theorem lc_freshC {c0 : List Cell} (hc : ∀ n, okCs n c0 = true) {i : Nat} {te : TD} {ρ : Cw.Env} {Φ : List D → List Cell → Prop} (f : D → D) : ∀ (ds acc : List D),
    (∀ d ∈ ds, okD c0.length (f d) = true ∧ ∀ acc (Ψ : D → List Cell → Prop), (∀ ex, Ψ (f d) (c0 ++ .lst acc :: ex)) → te (ρ.set i (some d)) (c0 ++ [.lst acc]) Ψ) →
    okDs c0.length acc = true → acc.length + ds.length ≤ sizeLine → Φ (acc ++ ds.map f) c0 → lcD i dYes te ds acc ρ c0 Φ
  | [], acc, _, h, _, q => ⟨hc _, h, by simpa using q⟩
  | d :: ds, acc, he, h, hl, q => by
    have hl' : acc.length + (ds.length + 1) ≤ sizeLine := hl
    obtain ⟨hk, ht⟩ := he d List.mem_cons_self
    show te _ _ _
    refine ht acc _ fun ex => ⟨by omega, inner_moreC hc h hk ?_⟩
    refine lc_freshC hc f ds _ (fun x hx => he x (List.mem_cons_of_mem _ hx)) (okDs_app h (okDs_one hk)) (by rw [List.length_append]; show acc.length + 1 + ds.length ≤ _; omega) ?_
    simpa using q
section
variable {P : Program} {w : World} {K : PySem.W.Frag} {mg : Str → Option Value} {base : Heap}
set_option maxHeartbeats 8000000 in
theorem ok__law_right (T : Tx K mg) : FnG P w K mg base 9 T.a__law_right T.d__law_right ["_law_brook_here"] (spD K 1 1 S__law_right) := by
  refine fnGD T.F__law_right sc__law_right fun cdv A outer s H E hgu hr => ⟨_, (psd_cons (psd_set (i := 1) sc__law_right.nd (pd_callM (ok__law_spec T) (hr.mono (by decide)) T.g__law_spec T.F__law_spec.kp T.b__law_spec pass0 (pds_cons (pd_v 0) (pds_cons pd_int (pds_cons pd_int (pds_cons pd_int pds_nil)))))) (psd_cons (psd_par (i := 2) (j := 3) rfl sc__law_right.nd (pd_callP (ok__law_made T) (hr.mono (by decide)) T.g__law_made T.F__law_made.kp T.b__law_made pass0 (pds_cons (pd_v 1) pds_nil)) (pd_callP (ok__law_rows T) (hr.mono (by decide)) T.g__law_rows T.F__law_rows.kp T.b__law_rows pass0 (pds_cons (pd_v 1) (pds_cons pd_int pds_nil)))) (psd_cons (psd_set (i := 4) sc__law_right.nd (pd_callP (ok__law_begin T) (hr.mono (by decide)) T.g__law_begin T.F__law_begin.kp T.b__law_begin pass0 (pds_cons (pd_v 1) (pds_cons (pd_v 3) pds_nil)))) (psd_cons (psd_if (pdt_ne hr (pd_reprA hgu hr.units (pd_lst (pds_cons (pd_callP (ok_calendar T) (hr.mono (by decide)) T.g_calendar T.F_calendar.kp T.b_calendar pass0 (pds_cons (pd_v 2) pds_nil)) (pds_cons (pd_callPK (ok_calendar T) (hr.mono (by decide)) T.g_calendar T.F_calendar.kp T.kw_calendar_0 pass0 (pdk_cons (pd_v 2) pdk_nil)) pds_nil))) T.n_repr) (pd_reprA hgu hr.units (pd_lst (pds_cons (pd_v 4) (pds_cons (pd_v 4) pds_nil))) T.n_repr)) (psd_one (psd_ret pd_bl)) psd_nil) (psd_one (psd_ret (pd_eq hr (pd_callP (ok_calendar T) (hr.mono (by decide)) T.g_calendar T.F_calendar.kp T.b_calendar pass0 (pds_cons (pd_callP (ok__law_made T) (hr.mono (by decide)) T.g__law_made T.F__law_made.kp T.b__law_made pass0 (pds_cons (pd_tup (pds_cons (pd_ix (pd_v 1) pd_int) (pds_cons (pd_tup pds_nil) (pds_cons (pd_ix (pd_v 1) pd_int) pds_nil)))) pds_nil)) pds_nil)) pd_int))))))), ?_⟩
  rintro c ds Φ hc - ⟨a, b, rfl, rfl, hB, hΦ⟩
  conv => whnf
  refine ⟨rfl, brk a b, rfl, rfl, rfl, a, b, 5, 3, 2, rfl, rfl, by decide, by decide, by decide, hB, fun s a1 b1 hd hB1 => ⟨rfl, (Bool.and_eq_true_iff.mp (sp_ok s)).1, ?_⟩⟩
  have hs := hd.ok
  have hp : s.m.length ≤ 5 := tame_len (let_tame (n := 5) hs.m)
  have hp1 := sp_one' hs
  conv => whnf
  refine ⟨rfl, sp_ok s, s, rfl, hs, fun zs hz => ?_⟩
  conv => whnf
  refine ⟨rfl, (by show (okD 0 s.d && (true && true)) = true; rw [(Bool.and_eq_true_iff.mp (sp_ok s)).1]; rfl), s, 150, rfl, hs, by decide, fun T hT hok => ?_⟩
  conv => whnf
  refine ⟨rfl, ?_, s, T, rfl, hs, hok, by omega, by omega, fun f hf h1 h2 => ?_⟩
  · show (okD 0 s.d && (okDs 0 (T.map fun u => tabD u.1 u.2) && true)) = true
    rw [(Bool.and_eq_true_iff.mp (sp_ok s)).1, okDs_map (f := fun u : List PS × List Int => tabD u.1 u.2) (fun u => ok_tabU 0 u)]; rfl
  have fr : fromF s f 151 := ⟨fun k q => by rw [hT] at h1; exact h1 k q, h2⟩
  conv => whnf
  refine ⟨rfl, cal_call' hs (by decide) fr ?_⟩
  conv => whnf
  refine ⟨rfl, rfl, cal_call' hs (by decide) fr ?_⟩
  conv => whnf
  have f9 : f ≤ 151 := by omega
  have big : ((f : Int)).natAbs < 10 ^ 44 := Nat.lt_of_le_of_lt (show ((f : Int)).natAbs ≤ 151 by omega) (by decide)
  have sh : Showy (.list [.int f, .int f]) := (fine_lst (d := 0) (fines_cons (d := 0) (n := 1000) (m := 600) (fine_big big) (Nat.le_refl _) (fines_cons (m := 0) (fine_big big) (Nat.le_refl _) fines_nil (by decide)) (by decide)) (by decide)).showy (by decide)
  refine ⟨by show 2 ≤ sizeLine; decide, ?_⟩
  conv => whnf
  refine ⟨.list [.int f, .int f], rfl, sh, ?_⟩
  conv => whnf
  refine ⟨by show 2 ≤ sizeLine; decide, ?_⟩
  conv => whnf
  refine ⟨.list [.int f, .int f], rfl, sh, ?_⟩
  conv => whnf
  split
  · rename_i hh
    exact absurd rfl (nd_t hh)
  conv => whnf
  refine ⟨by show 0 ≤ sizeLine; decide, ?_⟩
  conv => whnf
  refine ⟨by show 3 ≤ sizeLine; decide, ?_⟩
  conv => whnf
  refine ⟨rfl, sp_ok s.bare, s.bare, rfl, bare_ok hs, fun zb hzb => ?_⟩
  conv => whnf
  refine ⟨rfl, cal_call' (bare_ok hs) (L := 151) (by decide) (bare_from hs 151) ?_⟩
  conv => whnf
  exact hΦ a1 b1

end
end K20

namespace K20
open PySem PySem.Spec PyProof.Rows L2 Cw
theorem inner_more {acc : List D} {y : D} {ex : List Cell} {Q : List Cell → Prop} (ha : okDs 0 acc = true) (hy : okD 1 y = true) (q : Q []) : inner 0 acc y (.lst acc :: ex) Q := by
  refine ⟨rfl, ?_⟩
  cases ex with
  | nil => exact q
  | cons e r =>
    refine ⟨?_, hy, q⟩
    show (okDs 1 acc && true) = true
    rw [show okDs 1 acc = true from okDs_up _ ha]; rfl
theorem lc_fresh {i : Nat} {te : TD} {ρ : Cw.Env} {Φ : List D → List Cell → Prop} (f : D → D) : ∀ (ds acc : List D),
    (∀ d ∈ ds, okD 0 (f d) = true ∧ ∀ acc (Ψ : D → List Cell → Prop), (∀ ex, Ψ (f d) (.lst acc :: ex)) → te (ρ.set i (some d)) [.lst acc] Ψ) →
    okDs 0 acc = true → acc.length + ds.length ≤ sizeLine → Φ (acc ++ ds.map f) [] → lcD i dYes te ds acc ρ [] Φ
  | [], acc, _, h, _, q => ⟨rfl, h, by simpa using q⟩
  | d :: ds, acc, he, h, hl, q => by
    have hl' : acc.length + (ds.length + 1) ≤ sizeLine := hl
    obtain ⟨hk, ht⟩ := he d List.mem_cons_self
    show te _ _ _
    refine ht acc _ fun ex => ⟨by omega, inner_more h (okD_up _ hk) ?_⟩
    refine lc_fresh f ds _ (fun x hx => he x (List.mem_cons_of_mem _ hx)) (okDs_app h (okDs_one hk)) (by rw [List.length_append]; show acc.length + 1 + ds.length ≤ _; omega) ?_
    simpa using q
theorem oki : ∀ ns : List Int, okDs 0 (ns.map D.int) = true
  | [] => rfl
  | n :: ns => by
    show (true && okDs 0 (ns.map D.int)) = true
    rw [oki ns]; rfl
theorem bls_true : ∀ ds : List D, Cw.bls (ds.map fun _ => D.bl true) = some (ds.map fun _ => true)
  | [] => rfl
  | d :: ds => by
    have ih := bls_true ds
    show (Cw.bls (D.bl true :: ds.map fun _ => D.bl true)) = _
    simp only [Cw.bls, ih]
    rfl
theorem all_true (ds : List D) : (ds.map fun _ => true).all id = true := by simp
def S_law : Pm := fun c ds Φ => ∃ ns, ds = [intsD ns] ∧ ns.length ≤ 63 ∧ Φ (.bl true) c
section
variable {P : Program} {w : World} {K : PySem.W.Frag} {mg : Str → Option Value} {base : Heap}
set_option maxHeartbeats 8000000 in
theorem ok_law (T : Tx K mg) : FnG P w K mg base 10 T.a_law T.d_law ["_law_cells"] (spD K 0 1 S_law) := by
  refine fnGD T.F_law sc_law fun cdv A outer s H E hgu hr => ⟨_, (psd_cons (psd_set (i := 1) sc_law.nd (pd_lstM (pds_cons pd_str (pds_cons pd_str pds_nil)))) (psd_cons (psd_expr (pd_append (pd_v 1) pd_str)) (psd_cons (psd_if (pdt_ne hr (pd_lcC (i := 2) rfl sc_law.nd (pd_v 1) (by kernel_rfl) (fun _ _ _ _ _ => pg_name (i := 2) sc_law.nd rfl (Or.inl rfl)) (fun _ _ _ _ _ => ptd_nil) (fun _ _ _ _ _ => (pd_callP (ok_calendar T) (hr.mono (by decide)) T.g_calendar T.F_calendar.kp T.b_calendar pass0 (pds_cons (pd_make T.mk_Borders (ok_Borders___init__ T) (hr.mono (by decide)) T.g_Borders T.b_Borders___init__ pass0 (pds_cons (pd_v 2) pds_nil)) pds_nil)))) (pd_lst (pds_cons pd_int (pds_cons pd_int (pds_cons pd_int pds_nil))))) (psd_one (psd_ret pd_bl)) psd_nil) (psd_one (psd_ret (pd_all rfl (pd_lc (i := 3) rfl sc_law.nd (pid_range1 pd_int T.n_range) (by kernel_rfl) (fun _ _ _ _ _ => pg_name (i := 3) sc_law.nd rfl (Or.inl rfl)) (fun _ _ _ _ _ => ptd_nil) (fun _ _ _ _ _ => (pd_callMG (ok__law_right T) hgu (hr.mono (by decide)) T.g__law_right T.F__law_right.kp T.b__law_right pass0 (pds_cons (pd_callN (ok__law_brook T) (hr.mono (by decide)) T.g__law_brook T.F__law_brook.kp T.b__law_brook pass0 (pds_cons (pd_v 0) (pds_cons (pd_v 3) pds_nil))) pds_nil)))) T.n_all)))))), ?_⟩
  rintro c ds Φ hc - ⟨ns, rfl, hl, hΦ⟩
  cases c with
  | cons _ _ => cases hc
  | nil =>
  conv => whnf
  rw [kn1_text, kn2_text, kn3_text]
  refine ⟨by show 2 ≤ sizeLine; decide, ?_⟩
  conv => whnf
  refine ⟨1 - 1, rfl, ⟨_, rfl⟩, ?_⟩
  conv => whnf
  refine ⟨_, rfl, by show 2 < sizeLine; decide, ?_⟩
  conv => whnf
  refine ⟨0, _, rfl, rfl, ?_⟩
  conv => whnf
  refine ⟨rfl, ?_⟩
  conv => whnf
  refine ⟨rfl, rfl, kn1, rfl, rfl, kn1_ok, fun zs y1 y2 y3 => ⟨rfl, rfl, flds_ok _ zs, ?_⟩⟩
  conv => whnf
  refine ⟨rfl, cal_call' kn1_ok (by decide) kn1_from ?_⟩
  refine ⟨by show 0 < sizeLine; decide, inner_same ?_⟩
  conv => whnf
  refine ⟨rfl, ?_⟩
  conv => whnf
  refine ⟨rfl, rfl, kn2, rfl, rfl, kn2_ok, fun zs y1 y2 y3 => ⟨rfl, rfl, flds_ok _ zs, ?_⟩⟩
  conv => whnf
  refine ⟨rfl, cal_call' kn2_ok (by decide) kn2_from ?_⟩
  refine ⟨by show 1 < sizeLine; decide, inner_same ?_⟩
  conv => whnf
  refine ⟨rfl, ?_⟩
  conv => whnf
  refine ⟨rfl, rfl, kn3, rfl, rfl, kn3_ok, fun zs y1 y2 y3 => ⟨rfl, rfl, flds_ok _ zs, ?_⟩⟩
  conv => whnf
  refine ⟨rfl, cal_call' kn3_ok (by decide) kn3_from ?_⟩
  refine ⟨by show 2 < sizeLine; decide, inner_same ?_⟩
  conv => whnf
  refine ⟨rfl, rfl, rfl, ?_⟩
  refine ⟨by show 3 ≤ sizeLine; decide, ?_⟩
  conv => whnf
  refine ⟨.list [.int 0, .int 8, .int 2], .list [.int 0, .int 8, .int 2], rfl, rfl, by decide +kernel, by decide +kernel, ?_⟩
  rw [show (PyData.eqv (.list [.int 0, .int 8, .int 2]) (.list [.int 0, .int 8, .int 2])) = true by decide +kernel]
  conv => whnf
  refine ⟨by decide, ?_⟩
  refine lc_freshC (c0 := [.lst [.str kn1.text, .str kn2.text, .str kn3.text]]) (fun _ => rfl) (fun _ => .bl true) _ [] ?_ rfl ?_ ?_
  · intro d hd
    obtain ⟨j, hj, rfl⟩ := List.mem_map.mp hd
    have hj : j < 3 := List.mem_range.mp hj
    refine ⟨rfl, fun acc Ψ h => ?_⟩
    conv => whnf
    refine ⟨rfl, ?_, ns, _, rfl, ⟨by omega, by omega⟩, hl, fun a b hB => ?_⟩
    · show (okDs 0 (ns.map D.int) && (true && true)) = true
      rw [oki]; rfl
    · conv => whnf
      exact ⟨rfl, brk a b, rfl, rfl, rfl, a, b, rfl, rfl, hB, fun a' b' => ⟨rfl, rfl, h [brk a' b']⟩⟩
  · exact short (by decide)
  · conv => whnf
    refine ⟨_, bls_true _, ?_⟩
    rw [all_true]
    exact ⟨rfl, rfl, hΦ⟩

end
end K20

namespace K20
open PySem PySem.Spec PyProof.Rows L2 Cw
theorem law_in {K : PySem.W.Frag} {H : Hp} {a : Addr} {ns : List Int} (hl : ns.length ≤ 63) (h : SqL K H a (ns.map V.int)) : spD K 0 1 S_law [.ref a] H (fun v _ => v = .bl true) fun _ _ _ => False := by
  have e : hid ⟨[], []⟩ H = H := by funext b; unfold hid; simp
  have ri : ∀ ns : List Int, RL K [] H (ns.map D.int) (ns.map V.int) := fun ns => by
    induction ns with
    | nil => rfl
    | cons n ns ih => exact ⟨_, _, rfl, rfl, ih⟩
  refine ⟨⟨[], []⟩, [], [intsD ns], fun d _ => d = .bl true, rfl, rfl, ⟨rfl, List.nodup_nil, fun k ce e => by simp at e, fun b hb => absurd (show b ∈ ([] : List Addr) from hb) (by simp), fun b hb => absurd (show b ∈ ([] : List Addr) from hb) (by simp)⟩, ?_, ⟨ns, rfl, hl, rfl⟩, fun d c' w H' hd _ r _ => ?_⟩
  · show RL K [] (hid ⟨[], []⟩ H) [intsD ns] [.ref a]
    rw [e]
    exact ⟨.ref a, [], rfl, ⟨a, _, rfl, h, ri ns⟩, rfl⟩
  · subst hd
    exact r
theorem fin {l : PySem.W.OpenLaw} {w : World} {K : PySem.W.Frag} {mg : Str → Option Value} {fa : Addr} (T : Tx K mg) (hb : ∀ (s : Shared) (v : Value), BindsTo s T.d_law ⟨[v], []⟩ [("_law_cells", v)]) (hfa : mg "law" = some (.ref fa)) :
    ∃ fd : FuncData, (∀ (s : Shared) (v : Value), BindsTo s fd ⟨[v], []⟩ [("_law_cells", v)]) ∧ ∀ base : Heap, K.In base → base.Ns mainGlobals mg → FnG l.prog w K mg base 10 fa fd ["_law_cells"] (spD K 0 1 S_law) := by
  have e := hfa.symm.trans T.g_law
  have e : fa = T.a_law := by injection e with e; injection e
  subst e
  exact ⟨T.d_law, hb, fun base _ _ => ok_law T⟩
theorem walkL {l : PySem.W.OpenLaw} {q : Program} {loose : List Str} {XP : (Str → Option Value) → Heap → Prop} {YP : World → Heap → Prop} {d : DefRec} {K : Params → PySem.W.Frag} (hn : l.most = some 63) (hdf : d.params.defaults = [])
    (hY : ∀ (w : World) (h : Heap), YP w h → (K w.params).In h)
    (F : ∀ (w : World) (mg : Str → Option Value) (fa : Addr) (h : Heap), (K w.params).In h → h.Ns mainGlobals mg → mg d.name = some (.ref fa) →
      ∃ fd : FuncData, (∀ (s : Shared) (u : Value), BindsTo s fd ⟨[u], []⟩ [("_law_cells", u)]) ∧ ∀ base : Heap, (K w.params).In base → base.Ns mainGlobals mg → FnG l.prog w (K w.params) mg base 10 fa fd ["_law_cells"] (spD (K w.params) 0 1 S_law)) :
    PySem.W.WalkO q loose XP YP l.row.toRowW d [] (fun f vs => PySem.call f vs) :=
  walkG (n := 63) (k := 10) (x := "_law_cells") (sp := fun w => spD (K w.params) 0 1 S_law) hn (by decide) hdf ⟨rfl, by decide, by decide⟩ hY F fun _ _ _ _ _ hl _ _ hS => law_in hl hS
end K20
open PySem PySem.W PyProof.Rows
set_option maxRecDepth 100000 in
set_option maxHeartbeats 0 in
theorem PySem.Challenge.cw_cornerways_k20_whole_calendars_holds : PySem.Challenge.rw_cornerways_k20_whole_calendars.Holds := by
  w_on; o_law; k_head; (case hw => w_witness2)
  k_fill
  refine K20.walkL (l := PySem.Challenge.rw_cornerways_k20_whole_calendars) rfl rfl (fun w h Y => PySem.W.kIn_of Y) ?F
  case F =>
    intro w mg fa h KX G hmg
    refine' K20.fin (K20.mkTx KX G ?z_all ?z_len ?z_isinstance ?z_str ?z_int ?z_tuple ?z_range ?z_sorted ?z_set ?z_min ?z_max ?z_abs ?z_divmod ?z_dict ?z_list ?z_repr ?s_LETTERS ?s_DIGITS ?s_LONGEST_WORD ?s_MOST_SIGNS ?s_MOST_PIECES ?s_MOST_CORNERS ?s_MOST_NAMES ?s_MOST_LONG ?s_MOST_COST ?s_NO_COST ?s_TURNS ?l_TURNS ?ag_is_letters ?l_is_letters ?c_is_letters ?k_is_letters ?ag_is_word ?l_is_word ?c_is_word ?k_is_word ?ag_number_of ?l_number_of ?c_number_of ?k_number_of ?ag_signs_of ?l_signs_of ?c_signs_of ?k_signs_of ?ag_states_of ?l_states_of ?c_states_of ?k_states_of ?ag_piece_of ?l_piece_of ?c_piece_of ?k_piece_of ?ag_corner_of ?l_corner_of ?c_corner_of ?k_corner_of ?ag_names_of ?l_names_of ?c_names_of ?k_names_of ?ag_pieces_fit ?l_pieces_fit ?c_pieces_fit ?k_pieces_fit ?ag_corners_fit ?l_corners_fit ?c_corners_fit ?k_corners_fit ?ag_parts_of ?l_parts_of ?c_parts_of ?k_parts_of ?ag_check_borders ?l_check_borders ?c_check_borders ?k_check_borders ?ag_state_behind ?l_state_behind ?c_state_behind ?k_state_behind ?ag_steps_into ?l_steps_into ?c_steps_into ?k_steps_into ?ag_next_row ?l_next_row ?c_next_row ?k_next_row ?ag_joined ?l_joined ?c_joined ?k_joined ?ag_calendar ?l_calendar ?c_calendar ?k_calendar ?ag__law_brook ?l__law_brook ?c__law_brook ?k__law_brook ?ag__law_sip ?l__law_sip ?c__law_sip ?k__law_sip ?ag__law_state ?l__law_state ?c__law_state ?k__law_state ?ag__law_spec ?l__law_spec ?c__law_spec ?k__law_spec ?ag__law_lines ?l__law_lines ?c__law_lines ?k__law_lines ?ag__law_made ?l__law_made ?c__law_made ?k__law_made ?ag__law_states ?l__law_states ?c__law_states ?k__law_states ?ag__law_plain ?l__law_plain ?c__law_plain ?k__law_plain ?ag__law_rows ?l__law_rows ?c__law_rows ?k__law_rows ?ag__law_begin ?l__law_begin ?c__law_begin ?k__law_begin ?ag__law_right ?l__law_right ?c__law_right ?k__law_right ?ag_law ?l_law ?c_law ?k_law ?aC_Borders ?pg_Borders ?hd_Borders ?po_Borders ?sa_Borders ?mk_Borders ?kc_Borders ?ne_Borders ?mro_Borders ?bool_Borders ?hcl_Borders ?hsp_Borders ?htk_Borders ?na_whole_Borders ?na_all_states_Borders ?na_corner_names_Borders ?na_motif_Borders ?na_piece_rows_Borders ?na_corner_rows_Borders ?nolen_Borders ?l_Borders___init__ ?c_Borders___init__ ?k_Borders___init__ ?e_Borders___init__ ?i_Borders___init__ ?l_Borders_text ?c_Borders_text ?k_Borders_text ?e_Borders_text ?g_Borders_text ?tk_Borders_text ?r_Borders_text ?l_Borders_signs ?c_Borders_signs ?k_Borders_signs ?e_Borders_signs ?g_Borders_signs ?tk_Borders_signs ?r_Borders_signs ?l_Borders_states ?c_Borders_states ?k_Borders_states ?e_Borders_states ?g_Borders_states ?tk_Borders_states ?r_Borders_states ?l_Borders_pieces ?c_Borders_pieces ?k_Borders_pieces ?e_Borders_pieces ?g_Borders_pieces ?tk_Borders_pieces ?r_Borders_pieces ?l_Borders_corners ?c_Borders_corners ?k_Borders_corners ?e_Borders_corners ?g_Borders_corners ?tk_Borders_corners ?r_Borders_corners ?l_Borders_names ?c_Borders_names ?k_Borders_names ?e_Borders_names ?g_Borders_names ?tk_Borders_names ?r_Borders_names ?l_Borders___eq__ ?c_Borders___eq__ ?k_Borders___eq__ ?e_Borders___eq__ ?i_Borders___eq__ ?l_Borders___str__ ?c_Borders___str__ ?k_Borders___str__ ?e_Borders___str__ ?i_Borders___str__ ?aC_Prices ?pg_Prices ?hd_Prices ?po_Prices ?sa_Prices ?mk_Prices ?kc_Prices ?ne_Prices ?mro_Prices ?bool_Prices ?hcl_Prices ?hsp_Prices ?htk_Prices ?na_period_Prices ?na_steps_Prices ?na_since_Prices ?na_costs_Prices ?nolen_Prices ?l_Prices___init__ ?c_Prices___init__ ?k_Prices___init__ ?e_Prices___init__ ?i_Prices___init__ ?l_Prices_kept_length ?c_Prices_kept_length ?k_Prices_kept_length ?e_Prices_kept_length ?i_Prices_kept_length ?l_Prices_cost ?c_Prices_cost ?k_Prices_cost ?e_Prices_cost ?i_Prices_cost ?l_Prices_last_step ?c_Prices_last_step ?k_Prices_last_step ?e_Prices_last_step ?i_Prices_last_step ?l_Prices_filling ?c_Prices_filling ?k_Prices_filling ?e_Prices_filling ?i_Prices_filling) ?hbb hmg
    (case aC_Borders => k_is)
    (case aC_Prices => k_is)
    (case e_Borders___init__ => k_is)
    (case e_Borders_text => k_is)
    (case e_Borders_signs => k_is)
    (case e_Borders_states => k_is)
    (case e_Borders_pieces => k_is)
    (case e_Borders_corners => k_is)
    (case e_Borders_names => k_is)
    (case e_Borders___eq__ => k_is)
    (case e_Borders___str__ => k_is)
    (case e_Prices___init__ => k_is)
    (case e_Prices_kept_length => k_is)
    (case e_Prices_cost => k_is)
    (case e_Prices_last_step => k_is)
    (case e_Prices_filling => k_is)
    (case r_Borders_text => k_is)
    (case r_Borders_signs => k_is)
    (case r_Borders_states => k_is)
    (case r_Borders_pieces => k_is)
    (case r_Borders_corners => k_is)
    (case r_Borders_names => k_is)
    (case z_all => k_is)
    (case z_len => k_is)
    (case z_isinstance => k_is)
    (case z_str => k_is)
    (case z_int => k_is)
    (case z_tuple => k_is)
    (case z_range => k_is)
    (case z_sorted => k_is)
    (case z_set => k_is)
    (case z_min => k_is)
    (case z_max => k_is)
    (case z_abs => k_is)
    (case z_divmod => k_is)
    (case z_dict => k_is)
    (case z_list => k_is)
    (case z_repr => k_is)
    (case s_LETTERS => k_is)
    (case s_DIGITS => k_is)
    (case s_LONGEST_WORD => k_is)
    (case s_MOST_SIGNS => k_is)
    (case s_MOST_PIECES => k_is)
    (case s_MOST_CORNERS => k_is)
    (case s_MOST_NAMES => k_is)
    (case s_MOST_LONG => k_is)
    (case s_MOST_COST => k_is)
    (case s_NO_COST => k_is)
    (case s_TURNS => k_is)
    (case l_TURNS => k_is)
    (case ag_is_letters => k_is)
    (case l_is_letters => k_is)
    (case c_is_letters => k_is)
    (case k_is_letters => k_is)
    (case ag_is_word => k_is)
    (case l_is_word => k_is)
    (case c_is_word => k_is)
    (case k_is_word => k_is)
    (case ag_number_of => k_is)
    (case l_number_of => k_is)
    (case c_number_of => k_is)
    (case k_number_of => k_is)
    (case ag_signs_of => k_is)
    (case l_signs_of => k_is)
    (case c_signs_of => k_is)
    (case k_signs_of => k_is)
    (case ag_states_of => k_is)
    (case l_states_of => k_is)
    (case c_states_of => k_is)
    (case k_states_of => k_is)
    (case ag_piece_of => k_is)
    (case l_piece_of => k_is)
    (case c_piece_of => k_is)
    (case k_piece_of => k_is)
    (case ag_corner_of => k_is)
    (case l_corner_of => k_is)
    (case c_corner_of => k_is)
    (case k_corner_of => k_is)
    (case ag_names_of => k_is)
    (case l_names_of => k_is)
    (case c_names_of => k_is)
    (case k_names_of => k_is)
    (case ag_pieces_fit => k_is)
    (case l_pieces_fit => k_is)
    (case c_pieces_fit => k_is)
    (case k_pieces_fit => k_is)
    (case ag_corners_fit => k_is)
    (case l_corners_fit => k_is)
    (case c_corners_fit => k_is)
    (case k_corners_fit => k_is)
    (case ag_parts_of => k_is)
    (case l_parts_of => k_is)
    (case c_parts_of => k_is)
    (case k_parts_of => k_is)
    (case ag_check_borders => k_is)
    (case l_check_borders => k_is)
    (case c_check_borders => k_is)
    (case k_check_borders => k_is)
    (case ag_state_behind => k_is)
    (case l_state_behind => k_is)
    (case c_state_behind => k_is)
    (case k_state_behind => k_is)
    (case ag_steps_into => k_is)
    (case l_steps_into => k_is)
    (case c_steps_into => k_is)
    (case k_steps_into => k_is)
    (case ag_next_row => k_is)
    (case l_next_row => k_is)
    (case c_next_row => k_is)
    (case k_next_row => k_is)
    (case ag_joined => k_is)
    (case l_joined => k_is)
    (case c_joined => k_is)
    (case k_joined => k_is)
    (case ag_calendar => k_is)
    (case l_calendar => k_is)
    (case c_calendar => k_is)
    (case k_calendar => k_is)
    (case ag__law_brook => k_is)
    (case l__law_brook => k_is)
    (case c__law_brook => k_is)
    (case k__law_brook => k_is)
    (case ag__law_sip => k_is)
    (case l__law_sip => k_is)
    (case c__law_sip => k_is)
    (case k__law_sip => k_is)
    (case ag__law_state => k_is)
    (case l__law_state => k_is)
    (case c__law_state => k_is)
    (case k__law_state => k_is)
    (case ag__law_spec => k_is)
    (case l__law_spec => k_is)
    (case c__law_spec => k_is)
    (case k__law_spec => k_is)
    (case ag__law_lines => k_is)
    (case l__law_lines => k_is)
    (case c__law_lines => k_is)
    (case k__law_lines => k_is)
    (case ag__law_made => k_is)
    (case l__law_made => k_is)
    (case c__law_made => k_is)
    (case k__law_made => k_is)
    (case ag__law_states => k_is)
    (case l__law_states => k_is)
    (case c__law_states => k_is)
    (case k__law_states => k_is)
    (case ag__law_plain => k_is)
    (case l__law_plain => k_is)
    (case c__law_plain => k_is)
    (case k__law_plain => k_is)
    (case ag__law_rows => k_is)
    (case l__law_rows => k_is)
    (case c__law_rows => k_is)
    (case k__law_rows => k_is)
    (case ag__law_begin => k_is)
    (case l__law_begin => k_is)
    (case c__law_begin => k_is)
    (case k__law_begin => k_is)
    (case ag__law_right => k_is)
    (case l__law_right => k_is)
    (case c__law_right => k_is)
    (case k__law_right => k_is)
    (case ag_law => k_is)
    (case l_law => k_is)
    (case c_law => k_is)
    (case k_law => k_is)
    (case pg_Borders => k_is)
    (case hd_Borders => k_is)
    (case po_Borders => k_is)
    (case sa_Borders => k_is)
    (case mk_Borders => k_is)
    (case kc_Borders => k_is)
    (case ne_Borders => k_is)
    (case mro_Borders => k_is)
    (case bool_Borders => k_is)
    (case hcl_Borders => k_is)
    (case hsp_Borders => k_is)
    (case htk_Borders => k_is)
    (case na_whole_Borders => k_is)
    (case na_all_states_Borders => k_is)
    (case na_corner_names_Borders => k_is)
    (case na_motif_Borders => k_is)
    (case na_piece_rows_Borders => k_is)
    (case na_corner_rows_Borders => k_is)
    (case nolen_Borders => k_is)
    (case l_Borders___init__ => k_is)
    (case c_Borders___init__ => k_is)
    (case k_Borders___init__ => k_is)
    (case i_Borders___init__ => k_is)
    (case l_Borders_text => k_is)
    (case c_Borders_text => k_is)
    (case k_Borders_text => k_is)
    (case g_Borders_text => k_is)
    (case tk_Borders_text => k_is)
    (case l_Borders_signs => k_is)
    (case c_Borders_signs => k_is)
    (case k_Borders_signs => k_is)
    (case g_Borders_signs => k_is)
    (case tk_Borders_signs => k_is)
    (case l_Borders_states => k_is)
    (case c_Borders_states => k_is)
    (case k_Borders_states => k_is)
    (case g_Borders_states => k_is)
    (case tk_Borders_states => k_is)
    (case l_Borders_pieces => k_is)
    (case c_Borders_pieces => k_is)
    (case k_Borders_pieces => k_is)
    (case g_Borders_pieces => k_is)
    (case tk_Borders_pieces => k_is)
    (case l_Borders_corners => k_is)
    (case c_Borders_corners => k_is)
    (case k_Borders_corners => k_is)
    (case g_Borders_corners => k_is)
    (case tk_Borders_corners => k_is)
    (case l_Borders_names => k_is)
    (case c_Borders_names => k_is)
    (case k_Borders_names => k_is)
    (case g_Borders_names => k_is)
    (case tk_Borders_names => k_is)
    (case l_Borders___eq__ => k_is)
    (case c_Borders___eq__ => k_is)
    (case k_Borders___eq__ => k_is)
    (case i_Borders___eq__ => k_is)
    (case l_Borders___str__ => k_is)
    (case c_Borders___str__ => k_is)
    (case k_Borders___str__ => k_is)
    (case i_Borders___str__ => k_is)
    (case pg_Prices => k_is)
    (case hd_Prices => k_is)
    (case po_Prices => k_is)
    (case sa_Prices => k_is)
    (case mk_Prices => k_is)
    (case kc_Prices => k_is)
    (case ne_Prices => k_is)
    (case mro_Prices => k_is)
    (case bool_Prices => k_is)
    (case hcl_Prices => k_is)
    (case hsp_Prices => k_is)
    (case htk_Prices => k_is)
    (case na_period_Prices => k_is)
    (case na_steps_Prices => k_is)
    (case na_since_Prices => k_is)
    (case na_costs_Prices => k_is)
    (case nolen_Prices => k_is)
    (case l_Prices___init__ => k_is)
    (case c_Prices___init__ => k_is)
    (case k_Prices___init__ => k_is)
    (case i_Prices___init__ => k_is)
    (case l_Prices_kept_length => k_is)
    (case c_Prices_kept_length => k_is)
    (case k_Prices_kept_length => k_is)
    (case i_Prices_kept_length => k_is)
    (case l_Prices_cost => k_is)
    (case c_Prices_cost => k_is)
    (case k_Prices_cost => k_is)
    (case i_Prices_cost => k_is)
    (case l_Prices_last_step => k_is)
    (case c_Prices_last_step => k_is)
    (case k_Prices_last_step => k_is)
    (case i_Prices_last_step => k_is)
    (case l_Prices_filling => k_is)
    (case c_Prices_filling => k_is)
    (case k_Prices_filling => k_is)
    (case i_Prices_filling => k_is)
    case hbb => exact fun s v => .of_eq rfl
