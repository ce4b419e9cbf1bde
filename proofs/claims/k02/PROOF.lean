import PyProof.Rows.All
import Wide.All
import OpenK.AllK
import Wide.FinOn
import HandS.ForMost
import HandS.Exc
import HandS.WordsExc
import HandS.TupAny
import HandS.Deep
import HandS.IsInst
import HandS.Walk
import HandS.Zip
import HandS.SetTxt0
import HandS.SetFor
import HandS.Strs
import HandS.List
import HandS.MakeKwOnly
import HandS.Codes
import PySem.Challenge.RW_unseenrest_k02_names_pieces_groups_numbe
set_option Elab.async false
set_option linter.all false
set_option maxRecDepth 100000
set_option maxHeartbeats 4000000
namespace Dn
open PySem PySem.Spec PyProof.Rows L2

/-- a value as plain data; objects by their class and fields; opq: any other value; hnd: what a handle of the world means -/
inductive D where
  | non | bl (b : Bool) | int (i : Int) | str (s : Str) | lst (ds : List D) | tup (ds : List D)
  | obj (C : Addr) (ns : List Str) (ds : List D) | opq (v : V) | hnd (n : Nat)
  deriving Inhabited

def WrT (K : PySem.W.Frag) (a : Addr) (xs : List V) : Prop :=
  ∃ (o : Obj) (its : Array Value) (n : Nat), K.lookup a = some o ∧ o.cls = .type "tuple" ∧ o.data = .seq its n ∧ its.size ≤ sizeLine ∧ Vals xs its.toList

/-- the world: M what may change, N what no plain data leans on, h what the handles mean -/
structure Wd where
  M : Addr → Prop
  N : Addr → Prop
  h : Nat → Option Addr
  sub : ∀ a, M a → N a
mutual
inductive Rp (K : PySem.W.Frag) (W : Wd) (H : Hp) : V → D → Prop
  | non : Rp K W H .non .non
  | bl (b : Bool) : Rp K W H (.bl b) (.bl b)
  | int (i : Int) : Rp K W H (.int i) (.int i)
  | str (x : Str) : Rp K W H (.str x) (.str x)
  | lst {a : Addr} {xs : List V} {ds : List D} : ¬ W.N a → H a = some (.lst xs) → Rps K W H xs ds → Rp K W H (.ref a) (.lst ds)
  | tup {a : Addr} {xs : List V} {ds : List D} : ((¬ W.N a ∧ H a = some (.tup xs)) ∨ WrT K a xs) → Rps K W H xs ds → Rp K W H (.ref a) (.tup ds)
  | obj {a C dx : Addr} {fs : List (Str × V)} {ns : List Str} {ds : List D} : ¬ W.N a → H a = some (.ins C dx fs) → fs.map (·.1) = ns → Rps K W H (fs.map (·.2)) ds → Rp K W H (.ref a) (.obj C ns ds)
  | opq (v : V) : Rp K W H v (.opq v)
  | hnd {a : Addr} (n : Nat) : W.h n = some a → Rp K W H (.ref a) (.hnd n)
inductive Rps (K : PySem.W.Frag) (W : Wd) (H : Hp) : List V → List D → Prop
  | nil : Rps K W H [] []
  | cons {v : V} {vs : List V} {d : D} {ds : List D} : Rp K W H v d → Rps K W H vs ds → Rps K W H (v :: vs) (d :: ds)
end
theorem same_new {H : Hp} {p : Addr} {o : HO} (h : H p = none) : Same H (upd H p o) := fun a u e => by
  rw [upd_ne (ne_of_none e h)]
  exact e
/-- a later world -/
structure Le (W : Wd) (H : Hp) (W' : Wd) (H' : Hp) : Prop where
  ext : ∀ a o, ¬ W.M a → H a = some o → H' a = some o
  newM : ∀ a, W'.M a → W.M a ∨ H a = none
  newN : ∀ a, W'.N a → W.N a ∨ H a = none
  keep : ∀ a, W.N a → W'.N a
  hh : ∀ n a, W.h n = some a → W'.h n = some a
/-- enough for plain data -/
structure Lw (W : Wd) (H : Hp) (W' : Wd) (H' : Hp) : Prop where
  ext : ∀ a o, ¬ W.N a → H a = some o → H' a = some o
  newN : ∀ a, W'.N a → W.N a ∨ H a = none
  hh : ∀ n a, W.h n = some a → W'.h n = some a
theorem Le.w {W W' : Wd} {H H' : Hp} (e : Le W H W' H') : Lw W H W' H' := ⟨fun a o n h => e.ext a o (fun z => n (W.sub a z)) h, e.newN, e.hh⟩
theorem lw_upd {W : Wd} {H : Hp} {p : Addr} {o : HO} (n : W.N p) : Lw W H W (upd H p o) := ⟨fun a u z h => by rw [upd_ne (fun e => z (by rw [e]; exact n))]; exact h, fun _ h => .inl h, fun _ _ h => h⟩
theorem Le.refl (W : Wd) (H : Hp) : Le W H W H := ⟨fun _ _ _ h => h, fun _ h => .inl h, fun _ h => .inl h, fun _ h => h, fun _ _ h => h⟩
theorem Le.of {W : Wd} {H H' : Hp} (h : Same H H') : Le W H W H' := ⟨fun a o _ e => h a o e, fun _ h => .inl h, fun _ h => .inl h, fun _ h => h, fun _ _ h => h⟩

section
variable {K : PySem.W.Frag} {W W' : Wd} {H H' : Hp}
mutual
theorem Rp.lw (e : Lw W H W' H') : ∀ (d : D) (v : V), Rp K W H v d → Rp K W' H' v d
  | .non, _, h => by cases h; exact .non
  | .bl b, _, h => by cases h; exact .bl b
  | .int i, _, h => by cases h; exact .int i
  | .str x, _, h => by cases h; exact .str x
  | .opq v, _, h => by cases h; exact .opq v
  | .hnd n, _, h => by
    cases h with
    | hnd n q => exact .hnd n (e.hh _ _ q)
  | .lst ds, _, h => by
    cases h with
    | lst n s r =>
      refine .lst (fun z => ?_) (e.ext _ _ n s) (Rps.lw e ds _ r)
      rcases e.newN _ z with q | q
      · exact n q
      · rw [s] at q; cases q
  | .tup ds, _, h => by
    cases h with
    | tup s r =>
      refine .tup ?_ (Rps.lw e ds _ r)
      rcases s with ⟨n, s⟩ | s
      · refine .inl ⟨fun z => ?_, e.ext _ _ n s⟩
        rcases e.newN _ z with q | q
        · exact n q
        · rw [s] at q; cases q
      · exact .inr s
  | .obj C ns ds, _, h => by
    cases h with
    | obj n s z r =>
      refine .obj (fun z => ?_) (e.ext _ _ n s) z (Rps.lw e ds _ r)
      rcases e.newN _ z with q | q
      · exact n q
      · rw [s] at q; cases q
theorem Rps.lw (e : Lw W H W' H') : ∀ (ds : List D) (vs : List V), Rps K W H vs ds → Rps K W' H' vs ds
  | [], _, h => by cases h; exact .nil
  | d :: ds, _, h => by
    cases h with
    | cons h1 h2 => exact .cons (Rp.lw e d _ h1) (Rps.lw e ds _ h2)
end
theorem Rp.to {v : V} {d : D} (h : Rp K W H v d) (e : Le W H W' H') : Rp K W' H' v d := Rp.lw e.w d v h
theorem Rp.tow {v : V} {d : D} (h : Rp K W H v d) (e : Lw W H W' H') : Rp K W' H' v d := Rp.lw e d v h
theorem Rps.to {v : List V} {d : List D} (h : Rps K W H v d) (e : Le W H W' H') : Rps K W' H' v d := Rps.lw e.w d v h
theorem Rps.tow {v : List V} {d : List D} (h : Rps K W H v d) (e : Lw W H W' H') : Rps K W' H' v d := Rps.lw e d v h
end
theorem Le.trans {W W1 W2 : Wd} {H H1 H2 : Hp} (a : Le W H W1 H1) (b : Le W1 H1 W2 H2) : Le W H W2 H2 := by
  have key : ∀ x, H1 x = none → H x = none ∨ W.M x := fun x h => by
    by_cases m : W.M x
    · exact .inr m
    · cases q : H x with
      | none => exact .inl rfl
      | some o => rw [a.ext x o m q] at h; cases h
  refine ⟨fun x o n h => ?_, fun x h => ?_, fun x h => ?_, fun x h => b.keep x (a.keep x h), fun n x h => b.hh n x (a.hh n x h)⟩
  · refine b.ext x o (fun z => ?_) (a.ext x o n h)
    rcases a.newM x z with q | q
    · exact n q
    · rw [h] at q; cases q
  · rcases b.newM x h with q | q
    · exact a.newM x q
    · rcases key x q with k | k
      · exact .inr k
      · exact .inl k
  · rcases b.newN x h with q | q
    · exact a.newN x q
    · rcases key x q with k | k
      · exact .inr k
      · exact .inl (W.sub _ k)
section
variable {K : PySem.W.Frag} {W : Wd} {H H' : Hp}
theorem Rps.length : ∀ {vs : List V} {ds : List D}, Rps K W H vs ds → vs.length = ds.length
  | _, _, .nil => rfl
  | _, _, .cons _ t => congrArg (· + 1) (Rps.length t)
theorem Rps.get : ∀ {vs : List V} {ds : List D} {i : Nat} {d : D}, Rps K W H vs ds → ds[i]? = some d → ∃ v, vs[i]? = some v ∧ Rp K W H v d
  | _, _, _, _, .nil, h => by simp at h
  | _, _, 0, _, .cons a t, h => by simp at h; subst h; exact ⟨_, rfl, a⟩
  | _, _, i + 1, d, .cons a t, h => by
    obtain ⟨v, h1, h2⟩ := Rps.get (i := i) (d := d) t (by simpa using h)
    exact ⟨v, by simpa using h1, h2⟩
theorem Rps.get' : ∀ {vs : List V} {ds : List D} {i : Nat} {v : V}, Rps K W H vs ds → vs[i]? = some v → ∃ d, ds[i]? = some d ∧ Rp K W H v d
  | _, _, _, _, .nil, h => by simp at h
  | _, _, 0, _, .cons a t, h => by simp at h; subst h; exact ⟨_, rfl, a⟩
  | _, _, i + 1, d, .cons a t, h => by
    obtain ⟨v, h1, h2⟩ := Rps.get' (i := i) (v := d) t (by simpa using h)
    exact ⟨v, by simpa using h1, h2⟩
theorem Rps.append : ∀ {vs ws : List V} {ds es : List D}, Rps K W H vs ds → Rps K W H ws es → Rps K W H (vs ++ ws) (ds ++ es)
  | _, _, _, _, .nil, h => h
  | _, _, _, _, .cons a t, h => .cons a (Rps.append t h)
theorem Rps.take : ∀ {vs : List V} {ds : List D} (n : Nat), Rps K W H vs ds → Rps K W H (vs.take n) (ds.take n)
  | _, _, 0, _ => .nil
  | _, _, n + 1, .nil => .nil
  | _, _, n + 1, .cons a t => .cons a (Rps.take n t)
theorem Rps.drop : ∀ {vs : List V} {ds : List D} (n : Nat), Rps K W H vs ds → Rps K W H (vs.drop n) (ds.drop n)
  | _, _, 0, h => h
  | _, _, n + 1, .nil => .nil
  | _, _, n + 1, .cons a t => Rps.drop n t
theorem Rps.ints : ∀ {vs : List V} {ns : List Int}, Rps K W H vs (ns.map D.int) → vs = ns.map V.int
  | _, [], h => by cases h; rfl
  | _, n :: ns, h => by
    cases h with
    | cons h1 h2 =>
      cases h1
      rw [Rps.ints h2]
      rfl
theorem Rps.strs : ∀ {vs : List V} {ns : List Str}, Rps K W H vs (ns.map D.str) → vs = ns.map V.str
  | _, [], h => by cases h; rfl
  | _, n :: ns, h => by
    cases h with
    | cons h1 h2 =>
      cases h1
      rw [Rps.strs h2]
      rfl
theorem Rps.bls : ∀ {vs : List V} {ns : List Bool}, Rps K W H vs (ns.map D.bl) → vs = ns.map V.bl
  | _, [], h => by cases h; rfl
  | _, n :: ns, h => by
    cases h with
    | cons h1 h2 =>
      cases h1
      rw [Rps.bls h2]
      rfl
theorem Rps.of_ints : ∀ (ns : List Int), Rps K W H (ns.map V.int) (ns.map D.int)
  | [] => .nil
  | n :: ns => .cons (.int n) (Rps.of_ints ns)
theorem Rps.of_strs : ∀ (ns : List Str), Rps K W H (ns.map V.str) (ns.map D.str)
  | [] => .nil
  | n :: ns => .cons (.str n) (Rps.of_strs ns)
theorem sq_l {a : Addr} {xs : List V} (s : H a = some (.lst xs)) : SqL K H a xs := .inl (.inl s)
theorem sq_t {a : Addr} {xs : List V} (s : (¬ W.N a ∧ H a = some (.tup xs)) ∨ WrT K a xs) : SqT K H a xs := by
  rcases s with ⟨_, s⟩ | s
  · exact .inl (.inl s)
  · exact .inr s
end

/-! ### the state: what a law draws from, and the mutable things -/
structure BagSt where
  cells : List Int
  at_ : Nat
  rest : Int
  seed : Int
  cnt : Int
inductive Cell where
  | lst (ds : List D) | ins (C : Addr) (ns : List Str) (ds : List D)
structure Sta where
  bag : Option BagSt
  scr : Option (Addr × List Int)
  own : List (Nat × Cell)
/-- handle 0: what is drawn from -/
def BagAt (W : Wd) (H : Hp) (b : Addr) (s : BagSt) : Prop :=
  ∃ l, ¬ W.N l ∧ H l = some (.lst (s.cells.map V.int)) ∧ H b = some (.lst [.ref l, .int s.at_, .int s.rest, .int s.seed, .int s.cnt])
def CellAt (K : PySem.W.Frag) (W : Wd) (H : Hp) (p : Addr) : Cell → Prop
  | .lst ds => ∃ vs, H p = some (.lst vs) ∧ Rps K W H vs ds
  | .ins C ns ds => ∃ dx fs, H p = some (.ins C dx fs) ∧ fs.map (·.1) = ns ∧ Rps K W H (fs.map (·.2)) ds
/-- the script: as it was handed in, or an object of the written part -/
def WrL (K : PySem.W.Frag) (a : Addr) (xs : List V) : Prop :=
  ∃ (o : Obj) (its : Array Value) (n : Nat), K.lookup a = some o ∧ o.cls = .type "list" ∧ o.dict = none ∧ o.data = .seq its n ∧ its.size ≤ sizeLine ∧ Vals xs its.toList
def ScrAt (K : PySem.W.Frag) (W : Wd) (H : Hp) (a : Addr) (ns : List Int) : Prop := (¬ W.N a ∧ Rd H a (.lst (ns.map V.int))) ∨ WrL K a (ns.map V.int)
structure Holds (K : PySem.W.Frag) (W : Wd) (H : Hp) (st : Sta) : Prop where
  there : ∀ a, W.N a → H a ≠ none
  inj : ∀ n m a, W.h n = some a → W.h m = some a → n = m
  hdl : ∀ n a, W.h n = some a → H a ≠ none
  dom : st.bag = none → W.h 0 = none
  bag : ∀ s, st.bag = some s → ∃ b, W.h 0 = some b ∧ W.M b ∧ BagAt W H b s
  scr : ∀ a ns, st.scr = some (a, ns) → ScrAt K W H a ns
  own : ∀ n c, (n, c) ∈ st.own → n ≠ 0 ∧ ∃ p, W.h n = some p ∧ W.M p ∧ CellAt K W H p c
section
variable {K : PySem.W.Frag} {W W' : Wd} {H H' : Hp} {st : Sta} {p : Addr}
theorem CellAt.tow {c : Cell} (h : CellAt K W H p c) (e : Lw W H W' H') (hp : H' p = H p) : CellAt K W' H' p c := by
  cases c with
  | lst ds =>
    obtain ⟨vs, h1, h2⟩ := h
    exact ⟨vs, hp.trans h1, h2.tow e⟩
  | ins C ns ds =>
    obtain ⟨dx, fs, h1, h2, h3⟩ := h
    exact ⟨dx, fs, hp.trans h1, h2, h3.tow e⟩
theorem CellAt.there {c : Cell} (h : CellAt K W H p c) : ∃ o, H p = some o := by
  cases c with
  | lst ds => obtain ⟨vs, h1, _⟩ := h; exact ⟨_, h1⟩
  | ins C ns ds => obtain ⟨dx, fs, h1, _⟩ := h; exact ⟨_, h1⟩
/-- from world to world: what the state's own things need -/
theorem Holds.move (I : Holds K W H st) (e : Lw W H W' H') (hM : ∀ a, W.M a → W'.M a) (th : ∀ a, W'.N a → H' a ≠ none) (hW : W'.h = W.h) (hn : ∀ a, H a ≠ none → H' a ≠ none) (hm : ∀ a o, W.M a → H a = some o → H' a = some o) (hs : ∀ a, ¬ W.N a → W'.N a → H a = none) (hq : ∀ a xs, ¬ W.N a → Rd H a xs → Rd H' a xs ∧ ¬ W'.N a) : Holds K W' H' st := by
  refine ⟨th, by rw [hW]; exact I.inj, by rw [hW]; exact fun n a h => hn a (I.hdl n a h), by rw [hW]; exact I.dom, fun s h => ?_, fun a ns h => ?_, fun n c h => ?_⟩
  · obtain ⟨b, h1, h2, l, h3, h4, h5⟩ := I.bag s h
    refine ⟨b, e.hh _ _ h1, hM _ h2, l, fun z => ?_, e.ext _ _ h3 h4, hm _ _ h2 h5⟩
    rw [hs l h3 z] at h4; cases h4
  · rcases I.scr a ns h with ⟨h2, h3⟩ | h3
    · obtain ⟨q1, q2⟩ := hq a _ h2 h3
      exact .inl ⟨q2, q1⟩
    · exact .inr h3
  · obtain ⟨h0, p, h1, h2, h3⟩ := I.own n c h
    obtain ⟨o, ho⟩ := h3.there
    exact ⟨h0, p, e.hh _ _ h1, hM _ h2, h3.tow e ((hm _ _ h2 ho).trans ho.symm)⟩
theorem rd_same {a : Addr} {u : HO} (e : Same H H') (h : Rd H a u) : Rd H' a u := by
  rcases h with h | ⟨o, h⟩
  · exact .inl (e _ _ h)
  · exact .inr ⟨o, e _ _ h⟩
theorem rd_some {a : Addr} {u : HO} (h : Rd H a u) : H a ≠ none := by
  rcases h with h | ⟨o, h⟩ <;> rw [h] <;> exact fun z => nomatch z
theorem ScrAt.sq {a : Addr} {ns : List Int} (h : ScrAt K W H a ns) : SqL K H a (ns.map V.int) := by
  rcases h with ⟨_, h⟩ | h
  · exact .inl h
  · exact .inr h
theorem same_some (e : Same H H') (a : Addr) (h : H a ≠ none) : H' a ≠ none := fun z => by
  cases q : H a with
  | none => exact h q
  | some o => rw [e a o q] at z; cases z
theorem Holds.same (I : Holds K W H st) (e : Same H H') : Holds K W H' st := by
  refine I.move (Le.of e).w (fun _ h => h) (fun a n z => ?_) rfl (same_some e) (fun a o _ h => e a o h) (fun a n z => (n z).elim) fun a xs n h => ⟨rd_same e h, n⟩
  cases q : H a with
  | none => exact I.there a n q
  | some o => rw [e a o q] at z; cases z
theorem not_n (I : Holds K W H st) (n : H p = none) : ¬ W.N p := fun m => I.there p m n
theorem rp_lst {vs : List V} {ds : List D} (I : Holds K W H st) (n : H p = none) (r : Rps K W H vs ds) : Rp K W (upd H p (.lst vs)) (.ref p) (.lst ds) :=
  .lst (not_n I n) upd_same (r.to (Le.of (same_new n)))
theorem rp_tup {vs : List V} {ds : List D} (I : Holds K W H st) (n : H p = none) (r : Rps K W H vs ds) : Rp K W (upd H p (.tup vs)) (.ref p) (.tup ds) :=
  .tup (.inl ⟨not_n I n, upd_same⟩) (r.to (Le.of (same_new n)))
/-- a new thing that no data leans on -/
def Wd.addN (W : Wd) (p : Addr) : Wd := ⟨W.M, fun a => W.N a ∨ a = p, W.h, fun a h => .inl (W.sub a h)⟩
theorem le_addN {o : HO} (n : H p = none) : Le W H (W.addN p) (upd H p o) := by
  refine ⟨fun a u _ e => same_new n a u e, fun a h => .inl h, fun a h => ?_, fun a h => .inl h, fun _ _ h => h⟩
  rcases h with h | rfl
  · exact .inl h
  · exact .inr n
end
section
variable {K : PySem.W.Frag} {W : Wd} {H : Hp} {st : Sta} {p : Addr}
theorem Holds.addN {o : HO} (I : Holds K W H st) (n : H p = none) : Holds K (W.addN p) (upd H p o) st := by
  have e : Same H (upd H p o) := same_new n
  have l : Lw W H (W.addN p) (upd H p o) := (le_addN n).w
  refine ⟨fun a h z => ?_, I.inj, fun m a h => same_some e a (I.hdl m a h), I.dom, fun s h => ?_, fun a ns h => ?_, fun m c h => ?_⟩
  · by_cases hp : a = p
    · subst hp; rw [upd_same] at z; cases z
    · rw [upd_ne hp] at z
      rcases h with h | h
      · exact I.there a h z
      · exact hp h
  · obtain ⟨b, h1, h2, l, h3, h4, h5⟩ := I.bag s h
    refine ⟨b, h1, h2, l, fun z => ?_, e _ _ h4, e _ _ h5⟩
    rcases z with z | rfl
    · exact h3 z
    · rw [n] at h4; cases h4
  · rcases I.scr a ns h with ⟨h2, h3⟩ | h3
    · refine .inl ⟨fun z => ?_, rd_same e h3⟩
      rcases z with z | rfl
      · exact h2 z
      · exact rd_some h3 n
    · exact .inr h3
  · obtain ⟨h0, q, h1, h2, h3⟩ := I.own m c h
    obtain ⟨u, hu⟩ := h3.there
    exact ⟨h0, q, h1, h2, h3.tow l ((e _ _ hu).trans hu.symm)⟩
/-- a thing that no data leans on, and that is none of the state's, changes -/
theorem Holds.off {o : HO} (I : Holds K W H st) (n : W.N p) (m : ¬ W.M p) : Holds K W (upd H p o) st := by
  have some_upd : ∀ a, H a ≠ none → upd H p o a ≠ none := fun a h z => by
    by_cases hp : a = p
    · subst hp; rw [upd_same] at z; cases z
    · rw [upd_ne hp] at z
      exact h z
  refine I.move (lw_upd n) (fun _ h => h) (fun a h z => ?_) rfl some_upd (fun a u ha h => ?_) (fun a h z => (h z).elim) fun a xs h q => ⟨?_, h⟩
  · by_cases hp : a = p
    · subst hp; rw [upd_same] at z; cases z
    · rw [upd_ne hp] at z
      exact I.there a h z
  · rw [upd_ne (fun e => m (by rw [← e]; exact ha))]; exact h
  · have hp : a ≠ p := fun e => h (by rw [e]; exact n)
    rcases q with q | ⟨u, q⟩
    · exact .inl (by rw [upd_ne hp]; exact q)
    · exact .inr ⟨u, by rw [upd_ne hp]; exact q⟩
/-- the thing at p is plain data again -/
def Wd.delN (W : Wd) (p : Addr) (m : ¬ W.M p) : Wd := ⟨W.M, fun a => W.N a ∧ a ≠ p, W.h, fun a h => ⟨W.sub a h, fun e => m (by rw [← e]; exact h)⟩⟩
theorem lw_delN {m : ¬ W.M p} : Lw W H (W.delN p m) H := ⟨fun _ _ _ h => h, fun _ h => .inl h.1, fun _ _ h => h⟩
/-- a thing that came and became plain data -/
theorem Le.delN {W0 : Wd} {H0 : Hp} {m : ¬ W.M p} (e : Le W0 H0 W H) (n : ¬ W0.N p) : Le W0 H0 (W.delN p m) H := ⟨e.ext, e.newM, fun a h => e.newN a h.1, fun a h => ⟨e.keep a h, fun z => n (by rw [← z]; exact h)⟩, e.hh⟩
theorem Holds.delN {m : ¬ W.M p} (I : Holds K W H st) : Holds K (W.delN p m) H st :=
  I.move lw_delN (fun _ h => h) (fun a h => I.there a h.1) rfl (fun _ h => h) (fun _ _ _ h => h) (fun a n z => (n z.1).elim) fun a xs n h => ⟨h, fun z => n z.1⟩
end

/-! ### denotations -/
abbrev Exc := Addr × List Str × List D
abbrev Mo (α : Type) := Option (Except Exc α × Sta)
def bd {α β : Type} (m : Mo α) (k : α → Sta → Mo β) : Mo β :=
  match m with
  | none => none
  | some (.error x, st) => some (.error x, st)
  | some (.ok a, st) => k a st
abbrev Dl := List (Option D)
abbrev Den (α : Type) := Dl → Sta → Mo α
abbrev EDen := Den D
abbrev TDen := Den Bool
abbrev ADen := Den (List D)
inductive Out where
  | nx (Δ : Dl) | rt (d : D) | bk (Δ : Dl) | ct (Δ : Dl)
abbrev SDen := Den Out

def LocD (K : PySem.W.Frag) (W : Wd) (H : Hp) (σ : L2.St) (Δ : Dl) : Prop := σ.length = Δ.length ∧ ∀ (i : Nat) (d : D), Δ[i]? = some (some d) → ∃ v, σ[i]? = some (some v) ∧ Rp K W H v d
def ExcAt (K : PySem.W.Frag) (W : Wd) (H : Hp) (dx : Addr) (x : Exc) : Prop := ¬ W.N dx ∧ ∃ fs : List (Str × V), H dx = some (.xd fs) ∧ fs.map (·.1) = x.2.1 ∧ Rps K W H (fs.map (·.2)) x.2.2
/-- what is wanted behind -/
def Wnt {α : Type} (K : PySem.W.Frag) (W : Wd) (E : XK) (H : Hp) (Q : α → Sta → Wd → Hp → Prop) : Except Exc α → Sta → Prop
  | .ok a, st => ∀ W' H', Le W H W' H' → Holds K W' H' st → Q a st W' H'
  | .error x, st => ∀ W' dx H', Le W H W' H' → Holds K W' H' st → ExcAt K W' H' dx x → E (.ref x.1) (some dx) H'
/-- a piece that gives an α, its reading in the world W and the state st -/
def tGw {α : Type} (K : PySem.W.Frag) (W : Wd) (st : Sta) (E : XK) (τ : Den α) (σ : L2.St) (H : Hp) (Q : α → Sta → Wd → Hp → Prop) : Prop :=
  ∃ Δ r st', LocD K W H σ Δ ∧ Holds K W H st ∧ τ Δ st = some (r, st') ∧ Wnt K W E H Q r st'
def tG {α : Type} (K : PySem.W.Frag) (E : XK) (τ : Den α) (σ : L2.St) (H : Hp) (Q : α → Sta → Wd → Hp → Prop) : Prop := ∃ W st, tGw K W st E τ σ H Q
def tD (K : PySem.W.Frag) (E : XK) (τ : EDen) : TE := fun σ H Q => tG K E τ σ H fun d _ W' H' => ∀ v, Rp K W' H' v d → Q v H'
def tTD (K : PySem.W.Frag) (E : XK) (τ : TDen) : TT := fun σ H Q => tG K E τ σ H fun b _ _ H' => Q b H'
def tAD (K : PySem.W.Frag) (E : XK) (τ : ADen) : TA := fun σ H Q => tG K E τ σ H fun ds _ W' H' => ∀ vs, Rps K W' H' vs ds → Q vs H'
def tSD (K : PySem.W.Frag) (E : XK) (τ : SDen) : TS := fun D σ H => tG K E τ σ H fun o _ W' H' => match o with
  | .nx Δ' => ∀ σ', LocD K W' H' σ' Δ' → D.nx σ' H'
  | .bk Δ' => ∀ σ', LocD K W' H' σ' Δ' → D.bk σ' H'
  | .ct Δ' => ∀ σ', LocD K W' H' σ' Δ' → D.ct σ' H'
  | .rt d => ∀ v, Rp K W' H' v d → D.rt v H'

section
variable {K : PySem.W.Frag} {W W1 : Wd} {E : XK} {σ : L2.St} {H H' H1 : Hp} {Δ : Dl} {α β : Type} {st : Sta}
theorem LocD.to (h : LocD K W H σ Δ) (e : Le W H W1 H1) : LocD K W1 H1 σ Δ := ⟨h.1, fun i d q => by
  obtain ⟨v, h1, h2⟩ := h.2 i d q
  exact ⟨v, h1, h2.to e⟩⟩
theorem LocD.set {i : Nat} {v : V} {d : D} (h : LocD K W H σ Δ) (r : Rp K W H v d) : LocD K W H (σ.set i (some v)) (Δ.set i (some d)) := by
  refine ⟨by rw [List.length_set, List.length_set]; exact h.1, fun j e q => ?_⟩
  by_cases hij : i = j
  · subst hij
    rw [List.getElem?_set] at q
    simp only [if_true] at q
    split at q
    · cases q
      rename_i hl
      exact ⟨v, by rw [List.getElem?_set]; simp [h.1, hl], r⟩
    · cases q
  · rw [List.getElem?_set_ne hij] at q
    obtain ⟨w, h1, h2⟩ := h.2 j e q
    exact ⟨w, by rw [List.getElem?_set_ne hij]; exact h1, h2⟩
theorem Wnt.to {Q : α → Sta → Wd → Hp → Prop} {r : Except Exc α} {st : Sta} (h : Wnt K W E H Q r st) (e : Le W H W1 H1) : Wnt K W1 E H1 Q r st := by
  cases r with
  | ok a => exact fun W' H' e' i => h W' H' (e.trans e') i
  | error x => exact fun W' dx H' e' i z => h W' dx H' (e.trans e') i z
/-- one piece, then another -/
theorem tGw.seq {τ : Den α} {k : α → Den β} {Q : β → Sta → Wd → Hp → Prop}
    (h : tGw K W st E (fun Δ st => bd (τ Δ st) fun a st1 => k a Δ st1) σ H Q) : tGw K W st E τ σ H fun a st1 W1 H1 => Le W H W1 H1 ∧ tGw K W1 st1 E (k a) σ H1 Q := by
  obtain ⟨Δ, r, st', L, I, e, w⟩ := h
  replace e : Dn.bd (τ Δ st) (fun a st1 => k a Δ st1) = some (r, st') := e
  unfold Dn.bd at e
  cases hm : τ Δ st with
  | none => rw [hm] at e; cases e
  | some p =>
    obtain ⟨ra, st1⟩ := p
    rw [hm] at e
    cases ra with
    | error x =>
      simp only at e
      cases e
      exact ⟨Δ, .error x, _, L, I, hm, w⟩
    | ok a =>
      simp only at e
      exact ⟨Δ, .ok a, st1, L, I, hm, fun W1 H1 e1 i1 => ⟨e1, Δ, r, st', L.to e1, i1, e, w.to e1⟩⟩
theorem tGw.mono {τ : Den α} {Q Q' : α → Sta → Wd → Hp → Prop} (h : tGw K W st E τ σ H Q) (q : ∀ a st W' H', Le W H W' H' → Holds K W' H' st → Q a st W' H' → Q' a st W' H') : tGw K W st E τ σ H Q' := by
  obtain ⟨Δ, r, st', L, I, e, w⟩ := h
  refine ⟨Δ, r, st', L, I, e, ?_⟩
  cases r with
  | ok a => exact fun W' H' e i => q _ _ _ _ e i (w W' H' e i)
  | error x => exact w
theorem tGw.val {m : Dl → Option α} {Q : α → Sta → Wd → Hp → Prop} (h : tGw K W st E (fun Δ st => (m Δ).map fun a => (.ok a, st)) σ H Q) :
    ∃ Δ a, LocD K W H σ Δ ∧ Holds K W H st ∧ m Δ = some a ∧ ∀ W' H', Le W H W' H' → Holds K W' H' st → Q a st W' H' := by
  obtain ⟨Δ, r, st', L, I, e, w⟩ := h
  replace e : (m Δ).map (fun a => ((Except.ok a : Except Exc α), st)) = some (r, st') := e
  cases hm : m Δ with
  | none => rw [hm] at e; cases e
  | some a =>
    rw [hm] at e
    cases e
    exact ⟨Δ, a, L, I, hm, w⟩
theorem tGw.ret {a : α} {τ : Den α} {Q : α → Sta → Wd → Hp → Prop} (h : tGw K W st E τ σ H Q) (ht : ∀ Δ, τ Δ st = some (.ok a, st)) : Q a st W H := by
  obtain ⟨Δ, r, st', L, I, e, w⟩ := h
  rw [ht] at e
  cases e
  exact w W H (Le.refl _ _) I
theorem tGw.holds {τ : Den α} {Q : α → Sta → Wd → Hp → Prop} (h : tGw K W st E τ σ H Q) : Holds K W H st := by
  obtain ⟨_, _, _, _, I, _⟩ := h
  exact I
end

/-! ### weakening -/
section
variable {X : Cx}
theorem imE {e : Expr} {t t' : TE} (h : PE X e t) (q : ∀ σ H Q, t' σ H Q → t σ H Q) : PE X e t' := ⟨fun pins s σ H Q I w => h.run pins s σ H Q I (q _ _ _ w)⟩
theorem imT {e : Expr} {t t' : TT} (h : PT X e t) (q : ∀ σ H Q, t' σ H Q → t σ H Q) : PT X e t' := ⟨fun pins s σ H Q I w => h.run pins s σ H Q I (q _ _ _ w)⟩
theorem imW {e : Expr} {t t' : TT} (h : PW X e t) (q : ∀ σ H Q, t' σ H Q → t σ H Q) : PW X e t' := ⟨fun wh pins s σ H Q I w => h.run wh pins s σ H Q I (q _ _ _ w)⟩
theorem imA {es : List Expr} {t t' : TA} (h : PA X es t) (q : ∀ σ H Q, t' σ H Q → t σ H Q) : PA X es t' := ⟨fun pos pins s σ H Q I w => h.run pos pins s σ H Q I (q _ _ _ w)⟩
theorem imS {st : Stmt} {t t' : TS} (h : PS X st t) (q : ∀ D σ H, t' D σ H → t D σ H) : PS X st t' := ⟨fun pins s σ H D I w => h.run pins s σ H D I (q _ _ _ w)⟩
theorem imSs {st : List Stmt} {t t' : TS} (h : PSs X st t) (q : ∀ D σ H, t' D σ H → t D σ H) : PSs X st t' := ⟨fun pins s σ H D I w => h.run pins s σ H D I (q _ _ _ w)⟩
theorem imO {e : Option Expr} {t t' : TO} (h : PO X e t) (q : ∀ σ H Q, t' σ H Q → t σ H Q) : PO X e t' := ⟨fun pins s σ H Q I w => h.run pins s σ H Q I (q _ _ _ w)⟩
theorem imPTs {ifs : List Expr} {t t' : TT} (h : PTs X ifs t) (q : ∀ σ H Q, t' σ H Q → t σ H Q) : PTs X ifs t' := ⟨fun pins s σ H Q I w => h.run pins s σ H Q I (q _ _ _ w)⟩
end
end Dn

set_option Elab.async false
set_option linter.all false
set_option maxRecDepth 100000
set_option maxHeartbeats 4000000
namespace Dn
open PySem PySem.Spec PyProof.Rows L2

def big : Nat := 1000000
theorem big_line {n : Nat} (h : n ≤ big) : n ≤ sizeLine := Nat.le_trans h (by decide)

/-! ### two-place operations -/
def binP (f : D → D → Option D) (ta tb : EDen) : EDen := fun Δ st =>
  bd (ta Δ st) fun x st1 => bd (tb Δ st1) fun y st2 => (f x y).map fun d => (.ok d, st2)
def rBinD (K : PySem.W.Frag) (f : D → D → Option D) : R2 := fun x y H Q =>
  ∃ W st d1 d2 d, Rp K W H x d1 ∧ Rp K W H y d2 ∧ Holds K W H st ∧ f d1 d2 = some d ∧ ∀ v H', Same H H' → Rp K W H' v d → Q v H'
section
variable {K : PySem.W.Frag} {E : XK} {σ : L2.St} {H : Hp} {α β : Type}
theorem tD_bin {f : D → D → Option D} {ta tb : EDen} {Q : VK} (h : tD K E (binP f ta tb) σ H Q) : tOp (rBinD K f) (tD K E ta) (tD K E tb) σ H Q := by
  obtain ⟨W, st, h⟩ := h
  refine ⟨W, st, h.seq.mono fun x st1 W1 H1 e1 i1 q v rv => ⟨W1, st1, q.2.seq.mono fun y st2 W2 H2 e2 i2 q2 u ru => ?_⟩⟩
  obtain ⟨Δ, d, L, I, hf, k⟩ := q2.2.val (m := fun _ => f x y)
  exact ⟨W2, st2, x, y, d, rv.to e2, ru, I, hf, fun v' H' e r => k W2 H' (Le.of e) (I.same e) v' r⟩
end
section
variable {X : Cx} {E : XK} {a b : Expr} {ta tb : EDen} {pos : Pos}
theorem de_bin {op : Operator} {f : D → D → Option D} (ho : OpR X (binaryOp op) (rBinD X.K f)) (ha : PE X a (tD X.K E ta)) (hb : PE X b (tD X.K E tb)) : PE X (.BinOp a op b pos) (tD X.K E (binP f ta tb)) :=
  imE (pe_op ho ha hb) fun _ _ _ => tD_bin
theorem de_cmp {op : CmpOp} {f : D → D → Option D} (ho : OpR X (compareOp op) (rBinD X.K f)) (ha : PE X a (tD X.K E ta)) (hb : PE X b (tD X.K E tb)) (hm : behindInMarks op b = false) : PE X (.Compare a [op] [b] pos) (tD X.K E (binP f ta tb)) :=
  imE (pe_cmpR ho ha hb hm) fun _ _ _ => tD_bin

/-! ### the operators on values -/
def addD : D → D → Option D
  | .int i, .int j => some (.int (i + j))
  | .str x, .str y => if x.length + y.length ≤ big then some (.str (x ++ y)) else none
  | .lst xs, .lst ys => if xs.length + ys.length ≤ big then some (.lst (xs ++ ys)) else none
  | .tup xs, .tup ys => if xs.length + ys.length ≤ big then some (.tup (xs ++ ys)) else none
  | _, _ => none
theorem or_add : OpR X (binaryOp .Add) (rBinD X.K addD) := by
  intro pins s σ H x y v u Q I rx ry h
  obtain ⟨W, st, d1, d2, d, r1, r2, iv, hf, k⟩ := h
  unfold addD at hf
  split at hf
  · cases hf; cases r1; cases r2
    exact op_add pins s σ H _ _ v u Q I rx ry ⟨_, _, rfl, rfl, k _ _ (Same.refl _) (.int _)⟩
  · split at hf
    · rename_i hz
      cases hf; cases r1; cases r2
      exact op_add_str pins s σ H _ _ v u Q I rx ry ⟨_, _, rfl, rfl, big_line hz, k _ _ (Same.refl _) (.str _)⟩
    · cases hf
  · split at hf
    · rename_i hz
      cases hf
      cases r1 with
      | lst n1 s1 q1 =>
        cases r2 with
        | lst n2 s2 q2 =>
          exact op_cat pins s σ H _ _ v u Q I rx ry ⟨_, _, _, _, rfl, rfl, s1, s2, by rw [q1.length, q2.length]; exact big_line hz, fun p np =>
            k _ _ (same_new np) (rp_lst iv np (q1.append q2))⟩
    · cases hf
  · split at hf
    · rename_i hz
      cases hf
      cases r1 with
      | tup s1 q1 =>
        cases r2 with
        | tup s2 q2 =>
          refine op_catA pins s σ H _ _ v u Q I rx ry ⟨_, _, _, _, rfl, rfl, sq_t s1, sq_t s2, by rw [q1.length, q2.length]; exact big_line hz, fun e => ?_, fun _ e => ?_, fun _ _ p np => ?_⟩
          · subst e; cases q1
            exact k _ _ (Same.refl _) (.tup s2 q2)
          · subst e; cases q2
            rw [List.append_nil] at k
            exact k _ _ (Same.refl _) (.tup s1 q1)
          · exact k _ _ (same_new np) (rp_tup iv np (q1.append q2))
    · cases hf
  · cases hf
/-- an operation on two ints -/
def intD (g : Int → Int → Option Int) : D → D → Option D
  | .int i, .int j => (g i j).map .int
  | _, _ => none
theorem or_int {op : Operator} {C : Int → Int → Prop} {g' : Int → Int → Int} {g : Int → Int → Option Int} (h : OpR X (binaryOp op) (rI C fun i j => .int (g' i j))) (hg : ∀ i j k, g i j = some k → C i j ∧ k = g' i j) : OpR X (binaryOp op) (rBinD X.K (intD g)) := by
  intro pins s σ H x y v u Q I rx ry q
  obtain ⟨W, st, d1, d2, d, r1, r2, iv, hf, k⟩ := q
  unfold intD at hf
  split at hf
  · rename_i i j
    cases r1; cases r2
    cases e : g i j with
    | none => rw [e] at hf; cases hf
    | some z =>
      rw [e] at hf
      cases hf
      obtain ⟨c, rfl⟩ := hg _ _ _ e
      exact h pins s σ H _ _ v u Q I rx ry ⟨_, _, rfl, rfl, c, k _ _ (Same.refl _) (.int _)⟩
  · cases hf
theorem or_int0 {op : Operator} {g : Int → Int → Int} (h : OpR X (binaryOp op) (rI0 fun i j => .int (g i j))) : OpR X (binaryOp op) (rBinD X.K (intD fun i j => some (g i j))) := by
  refine or_int (C := fun _ _ => True) (g' := g) (fun pins s σ H x y v u Q I rx ry q => ?_) fun i j k e => ⟨trivial, (Option.some.inj e).symm⟩
  obtain ⟨i, j, rfl, rfl, _, q⟩ := q
  exact h pins s σ H _ _ v u Q I rx ry ⟨i, j, rfl, rfl, q⟩
abbrev subD := intD fun i j => some (i - j)
theorem or_sub : OpR X (binaryOp .Sub) (rBinD X.K subD) := or_int0 op_sub
def two64 : Int := 18446744073709551616
def mulI (i j : Int) : Option Int := if (-two64 < i ∧ i < two64) ∨ (-two64 < j ∧ j < two64) then some (i * j) else none
def mulD : D → D → Option D
  | .int i, .int j => (mulI i j).map .int
  | .lst xs, .int k => if -1000000 ≤ k ∧ k ≤ 1000000 ∧ xs.length * k.toNat ≤ big then some (.lst (List.replicate k.toNat xs).flatten) else none
  | _, _ => none
theorem rps_rep {K : PySem.W.Frag} {W : Wd} {H : Hp} {vs : List V} {ds : List D} (r : Rps K W H vs ds) : ∀ n : Nat, Rps K W H (List.replicate n vs).flatten (List.replicate n ds).flatten
  | 0 => .nil
  | n + 1 => by
    rw [List.replicate_succ, List.replicate_succ, List.flatten_cons, List.flatten_cons]
    exact r.append (rps_rep r n)
theorem or_mul : OpR X (binaryOp .Mult) (rBinD X.K mulD) := by
  intro pins s σ H x y v u Q I rx ry q
  obtain ⟨W, st, d1, d2, d, r1, r2, iv, hf, k⟩ := q
  unfold mulD at hf
  split at hf
  · rename_i i j
    cases r1; cases r2
    unfold mulI at hf
    split at hf
    · rename_i c
      cases hf
      exact op_mul pins s σ H _ _ v u Q I rx ry ⟨_, _, rfl, rfl, c, k _ _ (Same.refl _) (.int _)⟩
    · cases hf
  · split at hf
    · rename_i c
      cases hf
      cases r2
      cases r1 with
      | lst n1 s1 q1 =>
        exact op_rep pins s σ H _ _ v u Q I rx ry ⟨_, _, _, rfl, rfl, s1, by omega, by omega, by rw [q1.length]; exact big_line c.2.2, fun p np => k _ _ (same_new np) (rp_lst iv np (rps_rep q1 _))⟩
    · cases hf
  · cases hf
def fdivI (i j : Int) : Option Int := if 0 < j ∧ j < 1073741824 then some (i / j) else none
def modI (i j : Int) : Option Int := if 0 < j then some (i % j) else none
def shlI (i j : Int) : Option Int := if 0 ≤ j ∧ j ≤ 1000000 ∧ i.natAbs < 2 ^ 64 then some (i * 2 ^ j.toNat) else none
def powI (i j : Int) : Option Int := if 0 ≤ j ∧ j ≤ 1000000 ∧ i.natAbs < 2 ^ 64 then some (i ^ j.toNat) else none
def shrI (i j : Int) : Option Int := if 0 ≤ j then some (i / 2 ^ j.toNat) else none
theorem ite_some {c : Prop} [Decidable c] {a k : Int} (h : (if c then some a else none) = some k) : c ∧ k = a := by
  split at h
  · exact ⟨by assumption, (Option.some.inj h).symm⟩
  · cases h
theorem or_fdiv : OpR X (binaryOp .FloorDiv) (rBinD X.K (intD fdivI)) := or_int op_fdiv fun i j _ e => ite_some (c := 0 < j ∧ j < 1073741824) e
theorem or_mod : OpR X (binaryOp .Mod) (rBinD X.K (intD modI)) := or_int op_mod fun _ _ _ e => ite_some e
theorem or_shl : OpR X (binaryOp .LShift) (rBinD X.K (intD shlI)) := or_int op_shl fun i j _ e => ite_some (c := 0 ≤ j ∧ j ≤ 1000000 ∧ i.natAbs < 2 ^ 64) e
theorem or_pow : OpR X (binaryOp .Pow) (rBinD X.K (intD powI)) := or_int op_pow fun i j _ e => ite_some (c := 0 ≤ j ∧ j ≤ 1000000 ∧ i.natAbs < 2 ^ 64) e
theorem or_shr : OpR X (binaryOp .RShift) (rBinD X.K (intD shrI)) := or_int op_shr fun _ _ _ e => ite_some e
theorem or_and : OpR X (binaryOp .BitAnd) (rBinD X.K (intD fun i j => some (Builtin.bitAnd i j))) := or_int0 op_and
theorem or_or : OpR X (binaryOp .BitOr) (rBinD X.K (intD fun i j => some (Builtin.bitOr i j))) := or_int0 op_or
theorem or_xor : OpR X (binaryOp .BitXor) (rBinD X.K (intD fun i j => some (Builtin.bitXor i j))) := or_int0 op_xor

/-! ### comparisons -/
def sLt (x y : Str) : Bool := decide (x.cps.toList < y.cps.toList)
def ordD (fi : Int → Int → Bool) (fs : Str → Str → Bool) : D → D → Option D
  | .int i, .int j => some (.bl (fi i j))
  | .str x, .str y => some (.bl (fs x y))
  | _, _ => none
theorem or_ord {op : CmpOp} {fi : Int → Int → Bool} {fs : Str → Str → Bool} (h1 : OpR X (compareOp op) (rI0 fun i j => .bl (fi i j))) (h2 : OpR X (compareOp op) (fun x y H Q => ∃ i j, x = .str i ∧ y = .str j ∧ Q (.bl (fs i j)) H)) :
    OpR X (compareOp op) (rBinD X.K (ordD fi fs)) := by
  intro pins s σ H x y v u Q I rx ry q
  obtain ⟨W, st, d1, d2, d, r1, r2, iv, hf, k⟩ := q
  unfold ordD at hf
  split at hf
  · cases hf; cases r1; cases r2
    exact h1 pins s σ H _ _ v u Q I rx ry ⟨_, _, rfl, rfl, k _ _ (Same.refl _) (.bl _)⟩
  · cases hf; cases r1; cases r2
    exact h2 pins s σ H _ _ v u Q I rx ry ⟨_, _, rfl, rfl, k _ _ (Same.refl _) (.bl _)⟩
  · cases hf
abbrev ltD := ordD (fun i j => decide (i < j)) sLt
abbrev leD := ordD (fun i j => decide (i ≤ j)) (fun x y => !sLt y x)
abbrev gtD := ordD (fun i j => decide (j < i)) (fun x y => sLt y x)
abbrev geD := ordD (fun i j => decide (j ≤ i)) (fun x y => !sLt x y)
theorem or_lt : OpR X (compareOp .Lt) (rBinD X.K ltD) := or_ord op_lt op_lt_str
theorem or_le : OpR X (compareOp .LtE) (rBinD X.K leD) := or_ord op_le op_le_str
theorem or_gt : OpR X (compareOp .Gt) (rBinD X.K gtD) := or_ord op_gt op_gt_str
theorem or_ge : OpR X (compareOp .GtE) (rBinD X.K geD) := or_ord op_ge op_ge_str

mutual
def toPy : D → Option PyData
  | .non => some .none
  | .bl b => some (.bool b)
  | .int i => some (.int i)
  | .str x => some (.str x)
  | .lst ds => (toPys ds).map .list
  | .tup ds => (toPys ds).map .tuple
  | _ => none
def toPys : List D → Option (List PyData)
  | [] => some []
  | d :: ds => (toPy d).bind fun a => (toPys ds).map fun r => a :: r
end
section
variable {K : PySem.W.Frag} {W : Wd} {H : Hp}
mutual
theorem Rp.dp : ∀ (d : D) (v : V) (p : PyData), Rp K W H v d → toPy d = some p → Dp K H v p
  | .non, _, _, h, e => by cases h; simp only [toPy] at e; cases e; exact .non
  | .bl b, _, _, h, e => by cases h; simp only [toPy] at e; cases e; exact .bl b
  | .int i, _, _, h, e => by cases h; simp only [toPy] at e; cases e; exact .int i
  | .str x, _, _, h, e => by cases h; simp only [toPy] at e; cases e; exact .str x
  | .lst ds, _, _, h, e => by
    cases h with
    | lst n s r =>
      simp only [toPy] at e
      cases q : toPys ds with
      | none => rw [q] at e; cases e
      | some ps =>
        rw [q] at e
        cases e
        exact .lst (sq_l s) (Rps.dp ds _ _ r q)
  | .tup ds, _, _, h, e => by
    cases h with
    | tup s r =>
      simp only [toPy] at e
      cases q : toPys ds with
      | none => rw [q] at e; cases e
      | some ps =>
        rw [q] at e
        cases e
        exact .tup (sq_t s) (Rps.dp ds _ _ r q)
  | .obj _ _ _, _, _, _, e => by simp only [toPy] at e; cases e
  | .opq _, _, _, _, e => by simp only [toPy] at e; cases e
theorem Rps.dp : ∀ (ds : List D) (vs : List V) (ps : List PyData), Rps K W H vs ds → toPys ds = some ps → DpAll K H vs ps
  | [], _, _, h, e => by cases h; simp only [toPys] at e; cases e; exact .nil
  | d :: ds, _, _, h, e => by
    cases h with
    | cons h1 h2 =>
      simp only [toPys] at e
      cases q : toPy d with
      | none => rw [q] at e; cases e
      | some p =>
        rw [q] at e
        cases q2 : toPys ds with
        | none => rw [q2] at e; cases e
        | some ps =>
          rw [q2] at e
          cases e
          exact .cons (Rp.dp d _ _ h1 q) (Rps.dp ds _ _ h2 q2)
end
end
/-- data that may be compared -/
def shP (d : D) : Option PyData := (toPy d).bind fun p => if SeqAt.shaped p = true then some p else none
theorem shP_of {d : D} {p : PyData} (h : shP d = some p) : toPy d = some p ∧ SeqAt.shaped p = true := by
  unfold shP at h
  cases e : toPy d with
  | none => rw [e] at h; cases h
  | some q =>
    rw [e] at h
    simp only [Option.bind] at h
    split at h
    · cases h; exact ⟨rfl, by assumption⟩
    · cases h
def eqB (x y : D) : Option Bool := (shP x).bind fun a => (shP y).map fun b => PyData.eqv a b
def eqD (x y : D) : Option D := (eqB x y).map .bl
def neD (x y : D) : Option D := (eqB x y).map fun b => .bl (!b)
theorem eqB_of {x y : D} {b : Bool} (h : eqB x y = some b) : ∃ p q, toPy x = some p ∧ toPy y = some q ∧ SeqAt.shaped p = true ∧ SeqAt.shaped q = true ∧ b = PyData.eqv p q := by
  unfold eqB at h
  cases e : shP x with
  | none => rw [e] at h; cases h
  | some p =>
    rw [e] at h
    cases e2 : shP y with
    | none => rw [e2] at h; cases h
    | some q =>
      rw [e2] at h
      cases h
      exact ⟨p, q, (shP_of e).1, (shP_of e2).1, (shP_of e).2, (shP_of e2).2, rfl⟩
theorem or_eq (hu : X.A.units + 64 < cLine) : OpR X (compareOp .Eq) (rBinD X.K eqD) := by
  intro pins s σ H x y v u Q I rx ry q
  obtain ⟨W, st, d1, d2, d, r1, r2, iv, hf, k⟩ := q
  unfold eqD at hf
  cases e : eqB d1 d2 with
  | none => rw [e] at hf; cases hf
  | some b =>
    rw [e] at hf
    cases hf
    obtain ⟨p, q, h1, h2, h3, h4, rfl⟩ := eqB_of e
    exact op_eqD hu pins s σ H _ _ v u Q I rx ry ⟨p, q, r1.dp _ _ _ h1, r2.dp _ _ _ h2, h3, h4, k _ _ (Same.refl _) (.bl _)⟩
theorem or_ne (hu : X.A.units + 64 < cLine) : OpR X (compareOp .NotEq) (rBinD X.K neD) := by
  intro pins s σ H x y v u Q I rx ry q
  obtain ⟨W, st, d1, d2, d, r1, r2, iv, hf, k⟩ := q
  unfold neD at hf
  cases e : eqB d1 d2 with
  | none => rw [e] at hf; cases hf
  | some b =>
    rw [e] at hf
    cases hf
    obtain ⟨p, q, h1, h2, h3, h4, rfl⟩ := eqB_of e
    exact op_neD hu pins s σ H _ _ v u Q I rx ry ⟨p, q, r1.dp _ _ _ h1, r2.dp _ _ _ h2, h3, h4, k _ _ (Same.refl _) (.bl _)⟩
end
end Dn

set_option Elab.async false
set_option linter.all false
set_option maxRecDepth 100000
set_option maxHeartbeats 4000000
namespace Dn
open PySem PySem.Spec PyProof.Rows L2

/-! ### leaves, truth, and, or, not, if else -/
def cstP (d : D) : EDen := fun _ st => some (.ok d, st)
def varP (i : Nat) : EDen := fun Δ st => (match Δ[i]? with | some (some d) => some d | _ => none).map fun d => (.ok d, st)
section
variable {X : Cx} {E : XK} {a b c : Expr} {ta tb tc : EDen} {pos : Pos} {σ : L2.St} {H : Hp} {Q : VK}
theorem tD_cst {v : V} {d : D} (h : tD X.K E (cstP d) σ H Q) (r : ∀ W H', Rp X.K W H' v d) : Q v H := by
  obtain ⟨W, st0, h⟩ := h
  obtain ⟨Δ, x, L, I, e, k⟩ := h.val (m := fun _ => some d)
  cases e
  exact k W H (Le.refl _ _) I v (r _ _)
theorem de_int {i : Int} {j : Nat} : PE X (.Constant (.int i) j pos) (tD X.K E (cstP (.int i))) := imE pe_int fun _ _ _ h => tD_cst h fun _ _ => .int i
theorem de_bl {i : Bool} {j : Nat} : PE X (.Constant (.bool i) j pos) (tD X.K E (cstP (.bl i))) := imE pe_bl fun _ _ _ h => tD_cst h fun _ _ => .bl i
theorem de_non {j : Nat} : PE X (.Constant .none j pos) (tD X.K E (cstP .non)) := imE pe_non fun _ _ _ h => tD_cst h fun _ _ => .non
theorem de_str {x : Str} {j : Nat} : PE X (.Constant (.str x) j pos) (tD X.K E (cstP (.str x))) := imE pe_str fun _ _ _ h => tD_cst h fun _ _ => .str x
theorem tD_var {i : Nat} (h : tD X.K E (varP i) σ H Q) : tVar i σ H Q := by
  obtain ⟨W, st0, h⟩ := h
  obtain ⟨Δ, x, L, I, e, k⟩ := h.val (m := fun Δ => match Δ[i]? with | some (some d) => some d | _ => none)
  split at e
  · rename_i d hd
    cases e
    obtain ⟨v, hv, rv⟩ := L.2 i _ hd
    exact ⟨v, hv, k W H (Le.refl _ _) I v rv⟩
  · cases e
theorem de_var (i : Nat) {x : Str} (hN : X.N[i]? = some x := by rfl) (hv : Vis X.env.scope x := by first | exact Or.inl rfl | exact Or.inr (Or.inl rfl) | exact Or.inr (Or.inr rfl)) (hd : (x == ("__debug__" : Str)) = false := by decide)
    (hcd : (x == ("__classdict__" : Str)) = false := by decide) : PE X (.Name x pos) (tD X.K E (varP i)) := imE (pe_var hN hv hd hcd) fun _ _ _ => tD_var
/-- a constant of the module: an int, a text, None, a bool -/
theorem de_glob {x : Str} {u : Value} {v : V} {d : D} (hg : Gl X x) (hm : X.mg x = some u) (r : RelV v u) (rd : ∀ W H', Rp X.K W H' v d) (hd : (x == ("__debug__" : Str)) = false := by decide) : PE X (.Name x pos) (tD X.K E (cstP d)) :=
  imE (pe_glob hg hm r hd) fun _ _ _ h => tD_cst h rd
/-- a builtin's name as a value -/
theorem de_bltn {x : Str} {u : Value} {v : V} (hg : Gl X x) (hm : X.mg x = none) (hv : bootBuiltins x = some u) (r : RelV v u) (hn : x ≠ "__name__" := by decide) (hd : (x == ("__debug__" : Str)) = false := by decide) : PE X (.Name x pos) (tD X.K E (cstP (.opq v))) :=
  imE (pe_bltn hg hm hv r hn hd) fun _ _ _ h => tD_cst h fun _ _ => .opq v

def truD : D → Option Bool
  | .non => some false
  | .bl b => some b
  | .int i => some (i != 0)
  | .str y => if y.length ≤ big then some ((y.length : Int) != 0) else none
  | .lst ds => some (!ds.isEmpty)
  | .tup ds => some (!ds.isEmpty)
  | _ => none
theorem rps_empty {K : PySem.W.Frag} {W : Wd} {H : Hp} {vs : List V} {ds : List D} (r : Rps K W H vs ds) : vs.isEmpty = ds.isEmpty := by cases r <;> rfl
theorem tru_of {K : PySem.W.Frag} {W : Wd} {H : Hp} {v : V} {d : D} {b : Bool} (r : Rp K W H v d) (h : truD d = some b) : TruV K v H b := by
  cases r with
  | non => cases h; rfl
  | bl b => cases h; rfl
  | int i => cases h; rfl
  | str x =>
    simp only [truD] at h
    split at h
    · cases h
      exact ⟨big_line (by assumption), rfl⟩
    · cases h
  | lst n s r =>
    cases h
    exact .inl ⟨_, sq_l s, by rw [rps_empty r]⟩
  | tup s r =>
    cases h
    exact .inr (.inl ⟨_, sq_t s, by rw [rps_empty r]⟩)
  | obj _ _ _ _ => cases h
  | opq _ => cases h
  | hnd _ _ => cases h
def truP (ta : EDen) : TDen := fun Δ st => bd (ta Δ st) fun d st1 => (truD d).map fun b => (.ok b, st1)
theorem tTD_tru {Q : Bool → Hp → Prop} (h : tTD X.K E (truP ta) σ H Q) : tD X.K E ta σ H fun x H' => ∃ k, TruV X.K x H' k ∧ Q k H' := by
  obtain ⟨W, st0, h⟩ := h
  refine ⟨W, st0, h.seq.mono fun d st1 W1 H1 e1 i1 q v rv => ?_⟩
  obtain ⟨Δ, b, L, I, e, k⟩ := q.2.val (m := fun _ => truD d)
  exact ⟨b, tru_of rv e, k W1 H1 (Le.refl _ _) I⟩
/-- a name, a call, an attribute, a subscript as a test -/
theorem dt_tru (ha : PE X a (tD X.K E ta)) (he : ∀ whole, isTrue a X.env whole = (do let v ← whole; standAt a.pos; holding [v] (truthy v)) := by intro _; rfl) : PT X a (tTD X.K E (truP ta)) :=
  imT (pt_truth ha he) fun _ _ _ => tTD_tru
def blOf (d : D) : Option Bool := match d with | .bl b => some b | _ => none
def tstP (ta : EDen) : TDen := fun Δ st => bd (ta Δ st) fun d st1 => (blOf d).map fun b => (.ok b, st1)
theorem tTD_tst {Q : Bool → Hp → Prop} (h : tTD X.K E (tstP ta) σ H Q) : tD X.K E ta σ H fun x H' => ∃ k, x = .bl k ∧ Q k H' := by
  obtain ⟨W, st0, h⟩ := h
  refine ⟨W, st0, h.seq.mono fun d st1 W1 H1 e1 i1 q v rv => ?_⟩
  obtain ⟨Δ, b, L, I, e, k⟩ := q.2.val (m := fun _ => blOf d)
  cases rv <;> simp only [blOf] at e <;> cases e
  exact ⟨_, rfl, k W1 H1 (Le.refl _ _) I⟩
/-- a comparison as a test -/
theorem dt_cmp {op : CmpOp} {f : D → D → Option D} (ho : OpR X (compareOp op) (rBinD X.K f)) (ha : PE X a (tD X.K E ta)) (hb : PE X b (tD X.K E tb)) (hm : behindInMarks op b = false) : PT X (.Compare a [op] [b] pos) (tTD X.K E (tstP (binP f ta tb))) :=
  imT (pt_cmpR ho ha hb hm) fun σ H Q h => by
    show tOp (rBinD X.K f) (tD X.K E ta) (tD X.K E tb) σ H _
    exact tD_bin (tTD_tst h)
/-- a op b op' c -/
def chP (f g : D → D → Option D) (ta tb tc : EDen) : EDen := fun Δ st =>
  bd (ta Δ st) fun x st1 => bd (tb Δ st1) fun y st2 => bd (((f x y).bind blOf).map fun b => (.ok b, st2)) fun b st3 =>
    if b = true then bd (tc Δ st3) fun z st4 => (g y z).map fun d => (.ok d, st4) else some (.ok (.bl false), st3)
theorem tD_ch {f g : D → D → Option D} (h : tD X.K E (chP f g ta tb tc) σ H Q) : tChain (rBinD X.K f) (rBinD X.K g) (tD X.K E ta) (tD X.K E tb) (tD X.K E tc) σ H Q := by
  obtain ⟨W, st0, h⟩ := h
  refine ⟨W, st0, h.seq.mono fun x st1 W1 H1 e1 i1 q v rv => ?_⟩
  refine ⟨W1, st1, q.2.seq.mono fun y st2 W2 H2 e2 i2 q2 u ru => ?_⟩
  obtain ⟨e2', q3⟩ := q2
  obtain ⟨Δ, b, L, I, hf, k⟩ := q3.seq.val (m := fun _ => (f x y).bind blOf)
  cases hd : f x y with
  | none => rw [hd] at hf; cases hf
  | some d =>
    rw [hd] at hf
    refine ⟨W2, st2, x, y, d, rv.to e2, ru, I, hd, fun w H3 e3 rw' => ?_⟩
    cases rw' <;> simp only [Option.bind, blOf] at hf <;> cases hf
    obtain ⟨_, q5⟩ := k W2 H3 (Le.of e3) (I.same e3)
    refine ⟨_, rfl, ?_⟩
    split
    · rename_i hb
      subst hb
      simp only [if_true] at q5
      refine ⟨W2, st2, q5.seq.mono fun z st4 W4 H4 e4 i4 q6 w' rz => ?_⟩
      obtain ⟨Δ', d', L', I', hg, k'⟩ := q6.2.val (m := fun _ => g y z)
      exact ⟨W4, st4, y, z, d', (ru.to (Le.of e3)).to e4, rz, I', hg, fun v' H' e r => k' W4 H' (Le.of e) (I'.same e) v' r⟩
    · rename_i hb
      simp only [hb] at q5
      exact tD_cst (d := .bl false) ⟨W2, st2, q5⟩ fun _ _ => .bl false
theorem de_ch {op op' : CmpOp} {f g : D → D → Option D} (ho : OpR X (compareOp op) (rBinD X.K f)) (ho' : OpR X (compareOp op') (rBinD X.K g)) (ha : PE X a (tD X.K E ta)) (hb : PE X b (tD X.K E tb)) (hc : PE X c (tD X.K E tc))
    (hm : lastMarks [op, op'] [b, c] = false := by with_unfolding_all rfl) : PE X (.Compare a [op, op'] [b, c] pos) (tD X.K E (chP f g ta tb tc)) := imE (pe_chain ho ho' ha hb hc hm) fun _ _ _ => tD_ch
theorem dt_ch {op op' : CmpOp} {f g : D → D → Option D} (ho : OpR X (compareOp op) (rBinD X.K f)) (ho' : OpR X (compareOp op') (rBinD X.K g)) (ha : PE X a (tD X.K E ta)) (hb : PE X b (tD X.K E tb)) (hc : PE X c (tD X.K E tc))
    (hm : lastMarks [op, op'] [b, c] = false := by with_unfolding_all rfl) : PT X (.Compare a [op, op'] [b, c] pos) (tTD X.K E (tstP (chP f g ta tb tc))) := imT (pt_chain ho ho' ha hb hc hm) fun σ H Q h => tD_ch (tTD_tst h)

def andT (ta tb : TDen) : TDen := fun Δ st => bd (ta Δ st) fun b st1 => if b = true then tb Δ st1 else some (.ok false, st1)
def orT (ta tb : TDen) : TDen := fun Δ st => bd (ta Δ st) fun b st1 => if b = true then some (.ok true, st1) else tb Δ st1
def notT (ta : TDen) : TDen := fun Δ st => bd (ta Δ st) fun b st1 => some (.ok (!b), st1)
variable {tA tB : TDen} {rest : List Expr}
theorem dw_and1 (ha : PT X a (tTD X.K E tA)) : PW X (.BoolOp .And [a] pos) (tTD X.K E tA) := pw_and1 ha
theorem dw_or1 (ha : PT X a (tTD X.K E tA)) : PW X (.BoolOp .Or [a] pos) (tTD X.K E tA) := pw_or1 ha
theorem dw_and (ha : PT X a (tTD X.K E tA)) (hb : PW X (.BoolOp .And (b :: rest) pos) (tTD X.K E tB)) : PW X (.BoolOp .And (a :: b :: rest) pos) (tTD X.K E (andT tA tB)) :=
  imW (pw_and ha hb) fun σ H Q h => by
    obtain ⟨W, st0, h⟩ := h
    refine ⟨W, st0, (h.seq (k := fun b Δ st1 => if b = true then tB Δ st1 else some (.ok false, st1))).mono fun c st1 W1 H1 e1 i1 q => ?_⟩
    obtain ⟨_, q⟩ := q
    cases c with
    | true => exact iteT ⟨W1, st1, q⟩
    | false =>
      exact iteF (q.ret fun _ => rfl)
theorem dw_or (ha : PT X a (tTD X.K E tA)) (hb : PW X (.BoolOp .Or (b :: rest) pos) (tTD X.K E tB)) : PW X (.BoolOp .Or (a :: b :: rest) pos) (tTD X.K E (orT tA tB)) :=
  imW (pw_or ha hb) fun σ H Q h => by
    obtain ⟨W, st0, h⟩ := h
    refine ⟨W, st0, (h.seq (k := fun b Δ st1 => if b = true then some (.ok true, st1) else tB Δ st1)).mono fun c st1 W1 H1 e1 i1 q => ?_⟩
    obtain ⟨_, q⟩ := q
    cases c with
    | false => exact iteF ⟨W1, st1, q⟩
    | true =>
      exact iteT (q.ret fun _ => rfl)
theorem dt_w {e : Expr} (h : PW X e (tTD X.K E tA)) : PT X e (tTD X.K E tA) := h.pt
theorem dt_not (ha : PT X a (tTD X.K E tA)) : PT X (.UnaryOp .Not a pos) (tTD X.K E (notT tA)) :=
  imT (pt_not ha) fun σ H Q h => by
    obtain ⟨W, st0, h⟩ := h
    refine ⟨W, st0, (h.seq (k := fun b _ st1 => some (.ok (!b), st1))).mono fun c st1 W1 H1 e1 i1 q => ?_⟩
    exact q.2.ret fun _ => rfl
/-- as values: all but the last are bools -/
def andV (ta tb : EDen) : EDen := fun Δ st => bd (ta Δ st) fun d st1 => bd ((blOf d).map fun b => (.ok b, st1)) fun b st2 => if b = true then tb Δ st2 else some (.ok (.bl false), st2)
def orV (ta tb : EDen) : EDen := fun Δ st => bd (ta Δ st) fun d st1 => bd ((blOf d).map fun b => (.ok b, st1)) fun b st2 => if b = true then some (.ok (.bl true), st2) else tb Δ st2
def notV (ta : EDen) : EDen := fun Δ st => bd (ta Δ st) fun d st1 => (blOf d).map fun b => (.ok (.bl (!b)), st1)
theorem de_one {op : BoolOp} (ha : PE X a (tD X.K E ta)) : PE X (.BoolOp op [a] pos) (tD X.K E ta) := pe_one ha
theorem de_and (ha : PE X a (tD X.K E ta)) (hb : PE X (.BoolOp .And (b :: rest) pos) (tD X.K E tb)) : PE X (.BoolOp .And (a :: b :: rest) pos) (tD X.K E (andV ta tb)) :=
  imE (pe_and ha hb) fun σ H Q h => by
    obtain ⟨W, st0, h⟩ := h
    refine ⟨W, st0, h.seq.mono fun d st1 W1 H1 e1 i1 q v rv => ?_⟩
    obtain ⟨Δ, b, L, I, e, k⟩ := q.2.seq.val (m := fun _ => blOf d)
    cases rv <;> simp only [blOf] at e <;> cases e
    obtain ⟨_, q3⟩ := k W1 H1 (Le.refl _ _) I
    refine ⟨_, rfl, ?_⟩
    split
    · rename_i hb; subst hb; exact ⟨W1, st1, q3⟩
    · rename_i hb; simp only [hb] at q3
      exact tD_cst (d := .bl false) ⟨W1, st1, q3⟩ fun _ _ => .bl false
theorem de_or (ha : PE X a (tD X.K E ta)) (hb : PE X (.BoolOp .Or (b :: rest) pos) (tD X.K E tb)) : PE X (.BoolOp .Or (a :: b :: rest) pos) (tD X.K E (orV ta tb)) :=
  imE (pe_or ha hb) fun σ H Q h => by
    obtain ⟨W, st0, h⟩ := h
    refine ⟨W, st0, h.seq.mono fun d st1 W1 H1 e1 i1 q v rv => ?_⟩
    obtain ⟨Δ, b, L, I, e, k⟩ := q.2.seq.val (m := fun _ => blOf d)
    cases rv <;> simp only [blOf] at e <;> cases e
    obtain ⟨_, q3⟩ := k W1 H1 (Le.refl _ _) I
    refine ⟨_, rfl, ?_⟩
    split
    · rename_i hb; subst hb
      exact tD_cst (d := .bl true) ⟨W1, st1, q3⟩ fun _ _ => .bl true
    · rename_i hb; simp only [hb] at q3
      exact ⟨W1, st1, q3⟩
theorem de_not (ha : PE X a (tD X.K E ta)) : PE X (.UnaryOp .Not a pos) (tD X.K E (notV ta)) :=
  imE (pe_not ha) fun σ H Q h => by
    obtain ⟨W, st0, h⟩ := h
    refine ⟨W, st0, h.seq.mono fun d st1 W1 H1 e1 i1 q v rv => ?_⟩
    obtain ⟨Δ, r, st', L, I, e, k⟩ := q.2
    cases rv <;> simp only [blOf] at e <;> cases e
    exact ⟨_, rfl, k W1 H1 (Le.refl _ _) I _ (.bl _)⟩
def ifP {α : Type} (tc : TDen) (ta tb : Den α) : Den α := fun Δ st => bd (tc Δ st) fun b st1 => if b = true then ta Δ st1 else tb Δ st1
theorem de_if (hc : PT X c (tTD X.K E tA)) (ha : PE X a (tD X.K E ta)) (hb : PE X b (tD X.K E tb)) : PE X (.IfExp c a b pos) (tD X.K E (ifP tA ta tb)) :=
  imE (pe_ifExp hc ha hb) fun σ H Q h => by
    obtain ⟨W, st0, h⟩ := h
    refine ⟨W, st0, (h.seq (k := fun b Δ st1 => if b = true then ta Δ st1 else tb Δ st1)).mono fun k st1 W1 H1 e1 i1 q => ?_⟩
    obtain ⟨_, q⟩ := q
    cases k with
    | true => exact iteT ⟨W1, st1, q⟩
    | false => exact iteF ⟨W1, st1, q⟩

/-! ### arguments, displays -/
def nilP : ADen := fun _ st => some (.ok [], st)
def consP (ta : EDen) (tr : ADen) : ADen := fun Δ st => bd (ta Δ st) fun d st1 => bd (tr Δ st1) fun ds st2 => some (.ok (d :: ds), st2)
variable {es : List Expr} {tr : ADen}
theorem da_nil : PA X [] (tAD X.K E nilP) := by
  refine imA pa_nil fun σ H Q h => ?_
  obtain ⟨W, st0, h⟩ := h
  exact h.ret (fun _ => rfl) [] .nil
theorem da_cons (ha : PE X a (tD X.K E ta)) (hr : PA X es (tAD X.K E tr)) (hs : starEach (a :: es) X.env = (false, eval a X.env) :: starEach es X.env := by rfl) : PA X (a :: es) (tAD X.K E (consP ta tr)) := by
  refine imA (pa_cons ha hr hs) fun σ H Q h => ?_
  obtain ⟨W, st0, h⟩ := h
  refine ⟨W, st0, h.seq.mono fun d st1 W1 H1 e1 i1 q v rv => ?_⟩
  refine ⟨W1, st1, q.2.seq.mono fun ds st2 W2 H2 e2 i2 q2 vs rs => ?_⟩
  exact q2.2.ret (fun _ => rfl) _ (.cons (rv.to e2) rs)
def lstP (tr : ADen) : EDen := fun Δ st => bd (tr Δ st) fun ds st1 => if ds.length ≤ big then some (.ok (.lst ds), st1) else none
def tupP (tr : ADen) : EDen := fun Δ st => bd (tr Δ st) fun ds st1 => if ds.length ≤ big then some (.ok (.tup ds), st1) else none
theorem de_lst (h : PA X es (tAD X.K E tr)) : PE X (.List es pos) (tD X.K E (lstP tr)) := by
  refine imE (pe_lst h) fun σ H Q h => ?_
  obtain ⟨W, st0, h⟩ := h
  refine ⟨W, st0, h.seq.mono fun ds st1 W1 H1 e1 i1 q vs rs => ?_⟩
  obtain ⟨Δ, r, st', L, I, e, k⟩ := q.2
  simp only at e
  split at e
  · cases e
    exact ⟨by rw [rs.length]; exact big_line (by assumption), fun p np => k W1 _ (Le.of (same_new np)) (I.same (same_new np)) _ (rp_lst I np rs)⟩
  · cases e
theorem de_tup {x1 : Nat} (h : PA X es (tAD X.K E tr)) : PE X (.Tuple es x1 pos) (tD X.K E (tupP tr)) := by
  refine imE (pe_tup h) fun σ H Q h => ?_
  obtain ⟨W, st0, h⟩ := h
  refine ⟨W, st0, h.seq.mono fun ds st1 W1 H1 e1 i1 q vs rs => ?_⟩
  obtain ⟨Δ, r, st', L, I, e, k⟩ := q.2
  simp only at e
  split at e
  · cases e
    exact ⟨by rw [rs.length]; exact big_line (by assumption), fun p np => k W1 _ (Le.of (same_new np)) (I.same (same_new np)) _ (rp_tup I np rs)⟩
  · cases e

/-! ### subscripts -/
def ixD : D → D → Option D
  | .lst ds, .int i => atI ds i
  | .tup ds, .int i => atI ds i
  | .str z, .int i => if z.length ≤ big then (atI z.cps.toList i).map fun c => .str ⟨#[c]⟩ else none
  | _, _ => none
theorem rps_at {K : PySem.W.Frag} {W : Wd} {H : Hp} {vs : List V} {ds : List D} {i : Int} {d : D} (r : Rps K W H vs ds) (h : atI ds i = some d) : ∃ v, atI vs i = some v ∧ Rp K W H v d := by
  unfold atI at h ⊢
  rw [r.length]
  cases e : ixN ds.length i with
  | none => rw [e] at h; cases h
  | some j =>
    rw [e] at h
    obtain ⟨v, h1, h2⟩ := r.get h
    exact ⟨v, h1, h2⟩
theorem ir_ix : IxR X (rBinD X.K ixD) := by
  intro value slice pins s σ H x y v u Q I rx ry q hs
  obtain ⟨W, st, d1, d2, d, r1, r2, iv, hf, k⟩ := q
  unfold ixD at hf
  split at hf
  · cases r2
    cases r1 with
    | lst n1 s1 q1 =>
      obtain ⟨w, h1, h2⟩ := rps_at q1 hf
      exact ix_list value slice pins s σ H _ _ v u Q I rx ry ⟨_, _, _, w, rfl, rfl, sq_l s1, h1, k _ _ (Same.refl _) h2⟩ hs
  · cases r2
    cases r1 with
    | tup s1 q1 =>
      obtain ⟨w, h1, h2⟩ := rps_at q1 hf
      exact ix_tup value slice pins s σ H _ _ v u Q I rx ry ⟨_, _, _, w, rfl, rfl, sq_t s1, h1, k _ _ (Same.refl _) h2⟩ hs
  · cases r1; cases r2
    split at hf
    · rename_i z i hz
      cases e : atI z.cps.toList i with
      | none => rw [e] at hf; cases hf
      | some c =>
        rw [e] at hf
        cases hf
        exact ix_str value slice pins s σ H _ _ v u Q I rx ry ⟨_, _, c, rfl, rfl, big_line hz, e, k _ _ (Same.refl _) (.str _)⟩ hs
    · cases hf
  · cases hf
theorem de_ix (ha : PE X a (tD X.K E ta)) (hb : PE X b (tD X.K E tb)) (hs : PlainIx b := by exact fun _ _ => rfl) : PE X (.Subscript a b pos) (tD X.K E (binP ixD ta tb)) :=
  imE (pe_ix ir_ix ha hb hs) fun _ _ _ => tD_bin
abbrev ODen := Den (Option Int)
def tOD (K : PySem.W.Frag) (E : XK) (τ : ODen) : TO := fun σ H Q => tG K E τ σ H fun o _ _ H' => Q o H'
def noP : ODen := fun _ st => some (.ok none, st)
def intOf (d : D) : Option Int := match d with | .int i => some i | _ => none
def soP (ta : EDen) : ODen := fun Δ st => bd (ta Δ st) fun d st1 => (intOf d).map fun i => (.ok (some i), st1)
theorem do_no : PO X none (tOD X.K E noP) := by
  refine imO po_none fun σ H Q h => ?_
  obtain ⟨W, st0, h⟩ := h
  exact h.ret fun _ => rfl
theorem do_so (ha : PE X a (tD X.K E ta)) : PO X (some a) (tOD X.K E (soP ta)) := by
  refine imO (po_some ha) fun σ H Q h => ?_
  obtain ⟨W, st0, h⟩ := h
  refine ⟨W, st0, h.seq.mono fun d st1 W1 H1 e1 i1 q v rv => ?_⟩
  obtain ⟨Δ, r, st', L, I, e, k⟩ := q.2
  cases rv <;> simp only [intOf] at e <;> cases e
  exact ⟨_, rfl, k W1 H1 (Le.refl _ _) I⟩
def cutL (ds : List D) (lo hi : Option Int) : List D := (ds.drop (HT.sIx ds.length 0 lo)).take (HT.sIx ds.length ds.length hi - HT.sIx ds.length 0 lo)
def slD (d : D) (lo hi : Option Int) : Option D := match d with
  | .lst ds => some (.lst (cutL ds lo hi))
  | .tup ds => some (.tup (cutL ds lo hi))
  | .str z => if z.length ≤ big then some (.str (cutS z lo hi)) else none
  | _ => none
theorem rps_cut {K : PySem.W.Frag} {W : Wd} {H : Hp} {vs : List V} {ds : List D} (r : Rps K W H vs ds) (lo hi : Option Int) : Rps K W H (cutV vs lo hi) (cutL ds lo hi) := by
  unfold cutV cutL
  rw [r.length]
  exact (r.drop _).take _
theorem cutL_whole {ds : List D} {lo hi : Option Int} (h1 : HT.sIx ds.length 0 lo = 0) (h2 : HT.sIx ds.length ds.length hi = ds.length) : cutL ds lo hi = ds := by
  unfold cutL
  rw [h1, h2, List.drop_zero, Nat.sub_zero, List.take_length]
def rSlD (K : PySem.W.Frag) : V → Option Int → Option Int → Hp → VK → Prop := fun x lo hi H Q => ∃ W st d1 d, Rp K W H x d1 ∧ Holds K W H st ∧ slD d1 lo hi = some d ∧ ∀ v H', Same H H' → Rp K W H' v d → Q v H'
theorem sr_sl : SlR X (rSlD X.K) := by
  intro pins s σ H x v vl vu lo hi sl Q I rx hs pl pu h
  obtain ⟨W, st, d1, d, r1, iv, hf, k⟩ := h
  unfold slD at hf
  split at hf
  · cases hf
    cases r1 with
    | lst n1 s1 q1 => exact sl_list pins s σ H _ v vl vu lo hi sl Q I rx hs pl pu ⟨_, _, rfl, sq_l s1, fun p np => k _ _ (same_new np) (rp_lst iv np (rps_cut q1 lo hi))⟩
  · cases hf
    cases r1 with
    | tup s1 q1 =>
      refine sl_tupA pins s σ H _ v vl vu lo hi sl Q I rx hs pl pu ⟨_, _, rfl, sq_t s1, fun w => ?_, fun _ p np => k _ _ (same_new np) (rp_tup iv np (rps_cut q1 lo hi))⟩
      rw [cutL_whole (by rw [← q1.length]; exact w.1) (by rw [← q1.length]; exact w.2)] at k
      exact k _ _ (Same.refl _) (.tup s1 q1)
  · cases r1
    split at hf
    · cases hf
      exact sl_str pins s σ H _ v vl vu lo hi sl Q I rx hs pl pu ⟨_, rfl, big_line (by assumption), k _ _ (Same.refl _) (.str _)⟩
    · cases hf
  · cases hf
def slP (ta : EDen) (tl th : ODen) : EDen := fun Δ st => bd (ta Δ st) fun d st1 => bd (tl Δ st1) fun lo st2 => bd (th Δ st2) fun hi st3 => (slD d lo hi).map fun r => (.ok r, st3)
theorem de_sl {lo hi : Option Expr} {tl th : ODen} {p2 : Pos} (ha : PE X a (tD X.K E ta)) (hl : PO X lo (tOD X.K E tl)) (hh : PO X hi (tOD X.K E th)) : PE X (.Subscript a (.Slice lo hi none p2) pos) (tD X.K E (slP ta tl th)) := by
  refine imE (pe_slice sr_sl ha hl hh) fun σ H Q h => ?_
  obtain ⟨W, st0, h⟩ := h
  refine ⟨W, st0, h.seq.mono fun d st1 W1 H1 e1 i1 q v rv => ?_⟩
  refine ⟨W1, st1, q.2.seq.mono fun lo st2 W2 H2 e2 i2 q2 => ?_⟩
  refine ⟨W2, st2, q2.2.seq.mono fun hi st3 W3 H3 e3 i3 q3 => ?_⟩
  obtain ⟨Δ, r, L, I, e, k⟩ := q3.2.val (m := fun _ => slD d lo hi)
  exact ⟨W3, st3, d, r, (rv.to e2).to e3, I, e, fun v' H' e r => k W3 H' (Le.of e) (I.same e) v' r⟩
end
end Dn

set_option Elab.async false
set_option linter.all false
set_option maxRecDepth 100000
set_option maxHeartbeats 4000000
namespace Dn
open PySem PySem.Spec PyProof.Rows L2

/-! ### what a def promises: a function of the values and the state -/
abbrev FDen := List D → Sta → Mo D
def spF (K : PySem.W.Frag) (F : FDen) : Sp := fun vs H Q E => ∃ (W : Wd) (ds : List D) (st : Sta) (r : Except Exc D) (st' : Sta),
  Rps K W H vs ds ∧ Holds K W H st ∧ F ds st = some (r, st') ∧ Wnt K W E H (fun d _ W' H' => ∀ v, Rp K W' H' v d → Q v H') r st'
/-- a def that looks at the values alone -/
def purF (f : List D → Option (Except Exc D)) : FDen := fun ds st => (f ds).map fun r => (r, st)
/-- a def that gives a value, and raises nothing -/
def valF (f : List D → Option D) : FDen := fun ds st => (f ds).map fun r => (.ok r, st)
def outR : Except Exc Out → Option (Except Exc D)
  | .ok (.rt d) => some (.ok d)
  | .ok (.nx _) => some (.ok .non)
  | .error x => some (.error x)
  | _ => none
/-- a body run from its arguments -/
def runD (τ : SDen) (n : Nat) (ds : List D) (st : Sta) : Mo D :=
  (τ (ds.map some ++ List.replicate (n - ds.length) none) st).bind fun p => (outR p.1).map fun r => (r, p.2)
theorem start_loc {K : PySem.W.Frag} {W : Wd} {H : Hp} {vs : List V} {ds : List D} (r : Rps K W H vs ds) (N : List Str) : LocD K W H (L2.start N vs) (ds.map some ++ List.replicate (N.length - ds.length) none) := by
  unfold L2.start
  rw [r.length]
  refine ⟨by rw [List.length_append, List.length_append, List.length_map, List.length_map, List.length_replicate, List.length_replicate, r.length], fun i d e => ?_⟩
  by_cases hi : i < ds.length
  · rw [List.getElem?_append_left (by rw [List.length_map]; exact hi), List.getElem?_map] at e
    rw [List.getElem?_append_left (by rw [List.length_map, r.length]; exact hi), List.getElem?_map]
    cases q : ds[i]? with
    | none => rw [q] at e; cases e
    | some d' =>
      rw [q] at e
      cases e
      obtain ⟨v, h1, h2⟩ := r.get q
      exact ⟨v, by rw [h1]; rfl, h2⟩
  · rw [List.getElem?_append_right (by rw [List.length_map]; omega)] at e
    rw [List.getElem?_replicate] at e
    split at e <;> cases e
section
variable {P : Program} {w : World} {K : PySem.W.Frag} {mg : Str → Option Value} {base : Heap}
/-- THE RULE for a def -/
theorem fn_den {x qual : Str} {st : Stmt} {f : Addr} {fd : FuncData} {N ps : List Str} {k : Nat} {F : FDen} (τ : SDen) (G : Fun K x qual st f fd) (S : FnScope N ps (defScope st)) (hlen : ∀ ds st r, F ds st = some r → ds.length = ps.length)
    (hden : ∀ ds st p, F ds st = some p → runD τ N.length ds st = some p)
    (hbody : ∀ (cdv : Value) (A : Around) (outer : List Env) (s : Shared) (H : Hp) (E : XK), Room k (A.deeper (envOfC qual (defScope st) s.heap.objs.size f cdv)) →
      Passes (L2.CX P w) (cxOf (L2.CX P w) P w K mg base N qual (defScope st) f cdv A outer s H E) E →
      PassesOwn (model P w) (A.deeper (envOfC qual (defScope st) s.heap.objs.size f cdv)) (envOfC qual (defScope st) s.heap.objs.size f cdv) (cxOf (L2.CX P w) P w K mg base N qual (defScope st) f cdv A outer s H E).xe →
      PSs (cxOf (L2.CX P w) P w K mg base N qual (defScope st) f cdv A outer s H E) (defBody st) (tSD K E τ)) : FnOk P w K mg base (L2.CX P w) (k + 1) f fd ps (spF K F) := by
  refine G.okX S (fun vs H Q E h => ?_) (fun cdv A outer s H vs Q E hr h => ?_)
  · obtain ⟨W, ds, st, r, st', rs, iv, e, _⟩ := h
    rw [rs.length]
    exact hlen ds st _ e
  · obtain ⟨W, ds, st0, r, st', rs, iv, e, wn⟩ := h
    have hp : Passes (L2.CX P w) (cxOf (L2.CX P w) P w K mg base N qual (defScope st) f cdv A outer s H E) E := passes_call (takes_of rfl rfl rfl rfl) fun _ _ _ _ e => e
    refine ⟨tSD K E τ, hbody cdv A outer s H E hr hp (passes_of rfl), ?_⟩
    have q := hden ds st0 _ e
    unfold runD at q
    cases hm : τ (ds.map some ++ List.replicate (N.length - ds.length) none) st0 with
    | none => rw [hm] at q; cases q
    | some p =>
      obtain ⟨ro, st1⟩ := p
      rw [hm] at q
      simp only [Option.bind] at q
      refine ⟨W, st0, _, ro, st1, start_loc rs N, iv, hm, ?_⟩
      cases ro with
      | error z =>
        simp only [outR, Option.map] at q
        cases q
        exact wn
      | ok o =>
        cases o with
        | rt d =>
          simp only [outR, Option.map] at q
          cases q
          exact wn
        | nx Δ =>
          simp only [outR, Option.map] at q
          cases q
          exact fun W' H' e i σ' _ => wn W' H' e i .non .non
        | bk Δ => simp only [outR, Option.map] at q; cases q
        | ct Δ => simp only [outR, Option.map] at q; cases q
end

/-! ### calls -/
section
variable {X : Cx} {E : XK} {a : Expr} {es : List Expr} {tr : ADen} {pos p : Pos} {σ : L2.St} {H : Hp} {Q : VK} {x : Str}
def callP (f : FDen) (tr : ADen) : EDen := fun Δ st => bd (tr Δ st) f
theorem tD_call {F : FDen} {dvs : List V} {dd : List D} (rd : ∀ W H, Rps X.K W H dvs dd) (h : tD X.K E (callP (fun as st => F (as ++ dd) st) tr) σ H Q) : tCall (spF X.K F) dvs E (tAD X.K E tr) σ H Q := by
  obtain ⟨W, st0, h⟩ := h
  refine ⟨W, st0, (h.seq (k := fun as _ st => F (as ++ dd) st)).mono fun ds st1 W1 H1 e1 i1 q vs rs => ?_⟩
  obtain ⟨Δ, r, st', L, I, e, k⟩ := q.2
  exact ⟨W1, ds ++ dd, st1, r, st', rs.append (rd _ H1), I, e, k⟩
section
variable {f : Addr} {fd : FuncData} {ps : List Str} {F : FDen} {k : Nat} {ds : List Value} {dvs : List V} {dd : List D}
theorem de_call (G : FnOk X.prog X.w X.K X.mg X.base (L2.CX X.prog X.w) k f fd ps (spF X.K F)) (hr : Room k X.A) (hm : X.mg x = some (.ref f)) (hk : PySem.W.keepIn X.K (.ref f) = true) (hb : Binds X.K fd ps ds) (hd : Vals dvs ds) (rd : ∀ W H, Rps X.K W H dvs dd)
    (hx : Passes (L2.CX X.prog X.w) X E) (ha : PA X (a :: es) (tAD X.K E tr)) (hg : Gl X x := by rfl) (hdb : (x == ("__debug__" : Str)) = false := by decide) (he : starEach (a :: es) X.env = (false, eval a X.env) :: starEach es X.env := by rfl)
    (hpl : (backTo pos (starEach es X.env)).any (·.1) = false := by rfl) : PE X (.Call (.Name x p) (a :: es) [] pos) (tD X.K E (callP (fun as st => F (as ++ dd) st) tr)) :=
  imE (pe_call G hr hg hm hk hb hd hx ha hdb he hpl) fun _ _ _ h => tD_call rd h
/-- no defaults -/
theorem de_call' (G : FnOk X.prog X.w X.K X.mg X.base (L2.CX X.prog X.w) k f fd ps (spF X.K F)) (hr : Room k X.A) (hm : X.mg x = some (.ref f)) (hk : PySem.W.keepIn X.K (.ref f) = true) (hb : Binds X.K fd ps [])
    (hx : Passes (L2.CX X.prog X.w) X E) (ha : PA X (a :: es) (tAD X.K E tr)) (hg : Gl X x := by rfl) (hdb : (x == ("__debug__" : Str)) = false := by decide) (he : starEach (a :: es) X.env = (false, eval a X.env) :: starEach es X.env := by rfl)
    (hpl : (backTo pos (starEach es X.env)).any (·.1) = false := by rfl) : PE X (.Call (.Name x p) (a :: es) [] pos) (tD X.K E (callP F tr)) :=
  imE (pe_call G hr hg hm hk hb .nil hx ha hdb he hpl) fun σ H Q h => by
    have e : (fun as st => F (as ++ []) st) = F := by funext as st; rw [List.append_nil]
    exact tD_call (dd := []) (fun _ _ => .nil) (by rw [e]; exact h)
end
/-- a builtin called: a function of the values -/
def rCD (K : PySem.W.Frag) (f : List D → Option D) : List V → Hp → VK → Prop := fun vs H Q => ∃ W st ds d, Rps K W H vs ds ∧ Holds K W H st ∧ f ds = some d ∧ ∀ v H', Same H H' → Rp K W H' v d → Q v H'
def bltP (f : List D → Option D) (tr : ADen) : EDen := fun Δ st => bd (tr Δ st) fun ds st1 => (f ds).map fun d => (.ok d, st1)
theorem tD_blt {f : List D → Option D} (h : tD X.K E (bltP f tr) σ H Q) : tCB (rCD X.K f) (tAD X.K E tr) σ H Q := by
  obtain ⟨W, st0, h⟩ := h
  refine ⟨W, st0, h.seq.mono fun ds st1 W1 H1 e1 i1 q vs rs => ?_⟩
  obtain ⟨Δ, d, L, I, e, k⟩ := q.2.val (m := fun _ => f ds)
  exact ⟨W1, st1, ds, d, rs, I, e, fun v H' e' r => k W1 H' (Le.of e') (I.same e') v r⟩
theorem de_blt {id : String} {f : List D → Option D} (hc : CallR X (.builtin id) (rCD X.K f)) (hm : X.mg x = none) (hv : bootBuiltins x = some (.builtin id)) (ha : PA X (a :: es) (tAD X.K E tr)) (hg : Gl X x := by rfl) (hn : x ≠ "__name__" := by decide) (hdb : (x == ("__debug__" : Str)) = false := by decide)
    (he : starEach (a :: es) X.env = (false, eval a X.env) :: starEach es X.env := by rfl) (hpl : (backTo pos (starEach es X.env)).any (·.1) = false := by rfl) : PE X (.Call (.Name x p) (a :: es) [] pos) (tD X.K E (bltP f tr)) :=
  imE (pe_callB hc hg hm hv ha hn hdb he hpl) fun _ _ _ => tD_blt
theorem de_ty {T : String} {f : List D → Option D} (hc : CallR X (.type T) (rCD X.K f)) (hm : X.mg x = none) (hv : bootBuiltins x = some (.type T)) (ha : PA X (a :: es) (tAD X.K E tr)) (hg : Gl X x := by rfl) (hn : x ≠ "__name__" := by decide) (hdb : (x == ("__debug__" : Str)) = false := by decide)
    (he : starEach (a :: es) X.env = (false, eval a X.env) :: starEach es X.env := by rfl) (hpl : (backTo pos (starEach es X.env)).any (·.1) = false := by rfl) : PE X (.Call (.Name x p) (a :: es) [] pos) (tD X.K E (bltP f tr)) :=
  imE (pe_callTy hc hg hm hv ha hn hdb he hpl) fun _ _ _ => tD_blt

def lenF : List D → Option D
  | [.lst ds] => some (.int ds.length)
  | [.tup ds] => some (.int ds.length)
  | [.str z] => if z.length ≤ big then some (.int z.length) else none
  | _ => none
theorem rps1 {K : PySem.W.Frag} {W : Wd} {H : Hp} {vs : List V} {d : D} (r : Rps K W H vs [d]) : ∃ v, vs = [v] ∧ Rp K W H v d := by
  cases r with
  | cons h t => cases t; exact ⟨_, rfl, h⟩
theorem cr_len : CallR X (.builtin "len") (rCD X.K lenF) := by
  intro pins s σ H xs us Q I r h
  obtain ⟨W, st, ds, d, rs, iv, hf, k⟩ := h
  unfold lenF at hf
  split at hf
  · cases hf
    obtain ⟨v, rfl, rv⟩ := rps1 rs
    cases rv with
    | lst n1 s1 q1 => exact call_len_seq pins s σ H _ us Q I r ⟨_, _, rfl, .inl (sq_l s1), by rw [q1.length]; exact k _ _ (Same.refl _) (.int _)⟩
  · cases hf
    obtain ⟨v, rfl, rv⟩ := rps1 rs
    cases rv with
    | tup s1 q1 => exact call_len_seq pins s σ H _ us Q I r ⟨_, _, rfl, .inr (sq_t s1), by rw [q1.length]; exact k _ _ (Same.refl _) (.int _)⟩
  · split at hf
    · cases hf
      obtain ⟨v, rfl, rv⟩ := rps1 rs
      cases rv
      exact call_len_str pins s σ H _ us Q I r ⟨_, rfl, big_line (by assumption), k _ _ (Same.refl _) (.int _)⟩
    · cases hf
  · cases hf
def listF : List D → Option D
  | [.lst ds] => some (.lst ds)
  | [.tup ds] => some (.lst ds)
  | _ => none
theorem cr_list : CallR X (.type "list") (rCD X.K listF) := by
  intro pins s σ H xs us Q I r h
  obtain ⟨W, st, ds, d, rs, iv, hf, k⟩ := h
  unfold listF at hf
  split at hf
  · cases hf
    obtain ⟨v, rfl, rv⟩ := rps1 rs
    cases rv with
    | lst n1 s1 q1 => exact call_list_of pins s σ H _ us Q I r ⟨_, _, rfl, .inl (sq_l s1), fun p np => k _ _ (same_new np) (rp_lst iv np q1)⟩
  · cases hf
    obtain ⟨v, rfl, rv⟩ := rps1 rs
    cases rv with
    | tup s1 q1 => exact call_list_of pins s σ H _ us Q I r ⟨_, _, rfl, .inr (sq_t s1), fun p np => k _ _ (same_new np) (rp_lst iv np q1)⟩
  · cases hf
def tupleF : List D → Option D
  | [.lst ds] => some (.tup ds)
  | [.tup ds] => some (.tup ds)
  | _ => none
theorem cr_tuple : CallR X (.type "tuple") (rCD X.K tupleF) := by
  intro pins s σ H xs us Q I r h
  obtain ⟨W, st, ds, d, rs, iv, hf, k⟩ := h
  unfold tupleF at hf
  split at hf
  · cases hf
    obtain ⟨v, rfl, rv⟩ := rps1 rs
    cases rv with
    | lst n1 s1 q1 => exact call_tuple_of pins s σ H _ us Q I r ⟨_, _, rfl, .inl ⟨sq_l s1, fun p np => k _ _ (same_new np) (rp_tup iv np q1)⟩⟩
  · cases hf
    obtain ⟨v, rfl, rv⟩ := rps1 rs
    cases rv with
    | tup s1 q1 => exact call_tuple_of pins s σ H _ us Q I r ⟨_, _, rfl, .inr ⟨sq_t s1, k _ _ (Same.refl _) (.tup s1 q1)⟩⟩
  · cases hf
def intF : List D → Option D
  | [.int i] => some (.int i)
  | _ => none
theorem cr_int : CallR X (.type "int") (rCD X.K intF) := by
  intro pins s σ H xs us Q I r h
  obtain ⟨W, st, ds, d, rs, iv, hf, k⟩ := h
  unfold intF at hf
  split at hf
  · cases hf
    obtain ⟨v, rfl, rv⟩ := rps1 rs
    cases rv
    exact call_int1 pins s σ H _ us Q I r (.inl ⟨_, rfl, k _ _ (Same.refl _) (.int _)⟩)
  · cases hf
def strF : List D → Option D
  | [.int i] => if i.natAbs.log2 < 1920 then some (.str (toString i)) else none
  | _ => none
theorem cr_str : CallR X (.type "str") (rCD X.K strF) := by
  intro pins s σ H xs us Q I r h
  obtain ⟨W, st, ds, d, rs, iv, hf, k⟩ := h
  unfold strF at hf
  split at hf
  · split at hf
    · cases hf
      obtain ⟨v, rfl, rv⟩ := rps1 rs
      cases rv
      exact call_str_int pins s σ H _ us Q I r ⟨_, rfl, by assumption, k _ _ (Same.refl _) (.str _)⟩
    · cases hf
  · cases hf
def bls : List D → Option (List Bool)
  | [] => some []
  | .bl b :: ds => (bls ds).map fun r => b :: r
  | _ => none
theorem bls_of : ∀ {ds : List D} {bs : List Bool}, bls ds = some bs → ds = bs.map D.bl
  | [], bs, h => by cases h; rfl
  | d :: ds, bs, h => by
    cases d with
    | bl b =>
      simp only [bls] at h
      cases e : bls ds with
      | none => rw [e] at h; cases h
      | some r => rw [e] at h; cases h; rw [bls_of e]; rfl
    | _ => simp only [bls] at h; cases h
def intsD : List D → Option (List Int)
  | [] => some []
  | .int b :: ds => (intsD ds).map fun r => b :: r
  | _ => none
theorem intsD_of : ∀ {ds : List D} {bs : List Int}, intsD ds = some bs → ds = bs.map D.int
  | [], bs, h => by cases h; rfl
  | d :: ds, bs, h => by
    cases d with
    | int b =>
      simp only [intsD] at h
      cases e : intsD ds with
      | none => rw [e] at h; cases h
      | some r => rw [e] at h; cases h; rw [intsD_of e]; rfl
    | _ => simp only [intsD] at h; cases h
def strsD : List D → Option (List Str)
  | [] => some []
  | .str b :: ds => (strsD ds).map fun r => b :: r
  | _ => none
theorem strsD_of : ∀ {ds : List D} {bs : List Str}, strsD ds = some bs → ds = bs.map D.str
  | [], bs, h => by cases h; rfl
  | d :: ds, bs, h => by
    cases d with
    | str b =>
      simp only [strsD] at h
      cases e : strsD ds with
      | none => rw [e] at h; cases h
      | some r => rw [e] at h; cases h; rw [strsD_of e]; rfl
    | _ => simp only [strsD] at h; cases h
def allF : List D → Option D
  | [.lst ds] => (bls ds).map fun bs => .bl (bs.all id)
  | _ => none
def anyF : List D → Option D
  | [.lst ds] => (bls ds).map fun bs => .bl (bs.any id)
  | _ => none
def sumF : List D → Option D
  | [.lst ds] => (intsD ds).map fun ns => .int ns.sum
  | _ => none
theorem cr_all (hc : X.calm = true) : CallR X (.builtin "all") (rCD X.K allF) := by
  intro pins s σ H xs us Q I r h
  obtain ⟨W, st, ds, d, rs, iv, hf, k⟩ := h
  unfold allF at hf
  split at hf
  · rename_i ds
    cases e : bls ds with
    | none => rw [e] at hf; cases hf
    | some bs =>
      rw [e] at hf
      cases hf
      obtain ⟨v, rfl, rv⟩ := rps1 rs
      cases rv with
      | lst n1 s1 q1 =>
        rw [bls_of e] at q1
        rw [q1.bls] at s1
        exact L2.cr_all hc pins s σ H _ us Q I r ⟨_, bs, rfl, sq_l s1, k _ _ (Same.refl _) (.bl _)⟩
  · cases hf
theorem cr_any (hc : X.calm = true) : CallR X (.builtin "any") (rCD X.K anyF) := by
  intro pins s σ H xs us Q I r h
  obtain ⟨W, st, ds, d, rs, iv, hf, k⟩ := h
  unfold anyF at hf
  split at hf
  · rename_i ds
    cases e : bls ds with
    | none => rw [e] at hf; cases hf
    | some bs =>
      rw [e] at hf
      cases hf
      obtain ⟨v, rfl, rv⟩ := rps1 rs
      cases rv with
      | lst n1 s1 q1 =>
        rw [bls_of e] at q1
        rw [q1.bls] at s1
        exact L2.cr_any hc pins s σ H _ us Q I r ⟨_, bs, rfl, sq_l s1, k _ _ (Same.refl _) (.bl _)⟩
  · cases hf
theorem cr_sum (hc : X.calm = true) : CallR X (.builtin "sum") (rCD X.K sumF) := by
  intro pins s σ H xs us Q I r h
  obtain ⟨W, st, ds, d, rs, iv, hf, k⟩ := h
  unfold sumF at hf
  split at hf
  · rename_i ds
    cases e : intsD ds with
    | none => rw [e] at hf; cases hf
    | some bs =>
      rw [e] at hf
      cases hf
      obtain ⟨v, rfl, rv⟩ := rps1 rs
      cases rv with
      | lst n1 s1 q1 =>
        rw [intsD_of e] at q1
        rw [q1.ints] at s1
        exact L2.cr_sum hc pins s σ H _ us Q I r ⟨_, bs, rfl, sq_l s1, k _ _ (Same.refl _) (.int _)⟩
  · cases hf

/-! ### isinstance -/
inductive Ty where
  | bl | int | str | lst | tup
  deriving DecidableEq
def Ty.name : Ty → String
  | .bl => "bool" | .int => "int" | .str => "str" | .lst => "list" | .tup => "tuple"
def isTy : D → Ty → Option Bool
  | .non, _ => some false
  | .bl _, .bl => some true
  | .bl _, .int => some true
  | .bl _, _ => some false
  | .int _, .int => some true
  | .int _, _ => some false
  | .str _, .str => some true
  | .str _, _ => some false
  | .lst _, .lst => some true
  | .lst _, _ => some false
  | .tup _, .tup => some true
  | .tup _, _ => some false
  | _, _ => none
def isTys (d : D) : List Ty → Option Bool
  | [] => some false
  | t :: ts => (isTy d t).bind fun b => if b = true then some true else isTys d ts
theorem isTy_kit {K : PySem.W.Frag} {W : Wd} {H : Hp} {v : V} {d : D} (r : Rp K W H v d) (t0 : Ty) {b0 : Bool} (h0 : isTy d t0 = some b0) : ∃ u : Value, TyX K H v u ∧ ∀ (t : Ty) (b : Bool), isTy d t = some b → PySem.W.kitOne K u (.type t.name) = some b := by
  cases r with
  | non => exact ⟨_, .base .non, fun t b h => by cases t <;> cases h <;> exact kit_ty (by decide +kernel)⟩
  | bl x => exact ⟨_, .base (.bl x), fun t b h => by cases t <;> cases h <;> exact kit_ty (by decide +kernel)⟩
  | int x => exact ⟨_, .base (.int x), fun t b h => by cases t <;> cases h <;> exact kit_ty (by decide +kernel)⟩
  | str x => exact ⟨_, .base (.str x), fun t b h => by cases t <;> cases h <;> exact kit_ty (by decide +kernel)⟩
  | lst n s q => exact ⟨_, .base (.lst s), fun t b h => by cases t <;> cases h <;> exact kit_ty (by decide +kernel)⟩
  | tup s q =>
    refine ⟨.type "tuple", ?_, fun t b h => by cases t <;> cases h <;> exact kit_ty (by decide +kernel)⟩
    rcases s with ⟨_, s⟩ | ⟨o, its, n, h1, h2, _⟩
    · exact .base (.tup s)
    · exact .kTuple h1 h2
  | obj _ _ _ _ => cases t0 <;> cases h0
  | opq _ => cases t0 <;> cases h0
  | hnd _ _ => cases t0 <;> cases h0
def isiP (t : Ty) (ta : EDen) : EDen := fun Δ st => bd (ta Δ st) fun d st1 => (isTy d t).map fun b => (.ok (.bl b), st1)
def isisP (ts : List Ty) (ta : EDen) : EDen := fun Δ st => bd (ta Δ st) fun d st1 => (isTys d ts).map fun b => (.ok (.bl b), st1)
variable {ta : EDen} {b : Expr} {y : Str} {p1 p2 : Pos}
theorem de_isi (t : Ty) (hm : X.mg "isinstance" = none) (hm2 : X.mg y = none) (hv : bootBuiltins y = some (.type t.name)) (ha : PE X a (tD X.K E ta)) (hg : Gl X "isinstance" := by rfl) (hg2 : Gl X y := by rfl) (hn : y ≠ "__name__" := by decide) (hdb : (y == ("__debug__" : Str)) = false := by decide)
    (hs : starEach (a :: [.Name y p2]) X.env = (false, eval a X.env) :: starEach [.Name y p2] X.env := by rfl) (hpl : (backTo pos (starEach [.Name y p2] X.env)).any (·.1) = false := by rfl) (hs2 : starEach ([.Name y p2]) X.env = (false, eval (.Name y p2) X.env) :: starEach [] X.env := by rfl) :
    PE X (.Call (.Name "isinstance" p) [a, .Name y p2] [] pos) (tD X.K E (isiP t ta)) := by
  refine imE (pe_callB call_isi hg hm (by decide +kernel) (pa_cons ha (pa_cons (pe_bltn hg2 hm2 hv (show RelV (.ty t.name) _ from rfl) hn hdb) pa_nil hs2) hs) (by decide) (by decide) hs hpl) fun σ H Q h => ?_
  obtain ⟨W, st0, h⟩ := h
  refine ⟨W, st0, h.seq.mono fun d st1 W1 H1 e1 i1 q v rv => ?_⟩
  obtain ⟨Δ, r, st', L, I, e, k⟩ := q.2
  simp only at e
  cases q0 : isTy d t with
  | none => rw [q0] at e; cases e
  | some b0 =>
    rw [q0] at e
    cases e
    obtain ⟨u, hu, hk⟩ := isTy_kit rv t q0
    exact ⟨v, .ty t.name, u, .type t.name, b0, rfl, .ty _, hu, hk t b0 q0, k W1 H1 (Le.refl _ _) I _ (.bl _)⟩
end
end Dn

set_option Elab.async false
set_option linter.all false
set_option maxRecDepth 100000
set_option maxHeartbeats 4000000
namespace Dn
open PySem PySem.Spec PyProof.Rows L2

/-! ### targets: one name, or a tuple of names -/
def setAll {α : Type} : List (Option α) → List Nat → List α → List (Option α)
  | σ, i :: is, v :: vs => setAll (σ.set i (some v)) is vs
  | σ, _, _ => σ
inductive Tgt where
  | one (i : Nat) | tup (is : List Nat)
def Tgt.slots : Tgt → List Nat
  | .one i => [i]
  | .tup is => is
def Tgt.put (t : Tgt) (d : D) (Δ : Dl) : Option Dl := match t with
  | .one i => some (Δ.set i (some d))
  | .tup is => match d with
    | .tup ds => if ds.length = is.length then some (setAll Δ is ds) else none
    | _ => none
def gNames : List Nat → TGs
  | [] => gNil
  | i :: is => gCons (gName i) (gNames is)
def Tgt.g (K : PySem.W.Frag) : Tgt → TG
  | .one i => gName i
  | .tup is => gTup K is.length (gNames is)
theorem gNames_of : ∀ (is : List Nat) (vs : List V) (σ : L2.St) (H : Hp) (Q : L2.St → Hp → Prop), vs.length = is.length → Q (setAll σ is vs) H → gNames is vs σ H Q
  | [], [], _, _, _, _, q => ⟨rfl, q⟩
  | i :: is, v :: vs, σ, H, Q, h, q => ⟨v, vs, rfl, gNames_of is vs _ H Q (by simpa using h) q⟩
theorem setAll_length {α : Type} : ∀ (σ : List (Option α)) (is : List Nat) (vs : List α), (setAll σ is vs).length = σ.length
  | σ, [], _ => rfl
  | σ, _ :: _, [] => rfl
  | σ, i :: is, v :: vs => by
    show (setAll (σ.set i (some v)) is vs).length = σ.length
    rw [setAll_length, List.length_set]
theorem setAll_other {α : Type} : ∀ (σ : List (Option α)) (is : List Nat) (vs : List α) (j : Nat), j ∉ is → (setAll σ is vs)[j]? = σ[j]?
  | σ, [], _, _, _ => rfl
  | σ, _ :: _, [], _, _ => rfl
  | σ, i :: is, v :: vs, j, h => by
    show (setAll (σ.set i (some v)) is vs)[j]? = σ[j]?
    rw [setAll_other _ is vs j fun z => h (List.mem_cons_of_mem _ z), List.getElem?_set_ne fun e => h (by rw [e]; exact List.mem_cons_self ..)]
section
variable {K : PySem.W.Frag} {W : Wd} {H : Hp}
theorem LocD.setAll : ∀ (is : List Nat) {σ : L2.St} {Δ : Dl} {vs : List V} {ds : List D}, LocD K W H σ Δ → Rps K W H vs ds → LocD K W H (Dn.setAll σ is vs) (Dn.setAll Δ is ds)
  | [], _, _, _, _, h, _ => h
  | i :: is, _, _, [], _, h, .nil => h
  | i :: is, _, _, _ :: _, _, h, .cons r t => LocD.setAll is (h.set r) t
theorem put_ok (t : Tgt) {σ : L2.St} {Δ Δ' : Dl} {v : V} {d : D} {Q : L2.St → Hp → Prop} (L : LocD K W H σ Δ) (r : Rp K W H v d) (e : t.put d Δ = some Δ')
    (q : ∀ σ', LocD K W H σ' Δ' → σ'.length = σ.length → (∀ j, j ∉ t.slots → σ'[j]? = σ[j]?) → Q σ' H) : t.g K v σ H Q := by
  cases t with
  | one i =>
    cases e
    refine q _ (L.set r) (by rw [List.length_set]) fun j hj => ?_
    rw [List.getElem?_set_ne fun e => hj (by rw [e]; exact List.mem_cons_self ..)]
  | tup is =>
    cases r with
    | tup s rs =>
      simp only [Tgt.put] at e
      split at e
      · rename_i hl
        cases e
        refine ⟨_, _, rfl, sq_t s, by rw [rs.length, hl], gNames_of is _ σ H Q (by rw [rs.length, hl]) (q _ (LocD.setAll is L rs) (setAll_length ..) fun j hj => setAll_other _ _ _ _ hj)⟩
      · cases e
    | _ => cases e
end

/-! ### what is walked -/
structure WalkD (K : PySem.W.Frag) (W : Wd) (J : It) (ds : List D) (H1 : Hp) : Prop where
  ex : ∃ (G : Hp → Prop) (Y : Nat → Hp → V → Hp → Prop), Walk J ds.length G Y ∧ (∀ W2 H, Le W H1 W2 H → G H) ∧
    ∀ i W2 H st x H' d, Le W H1 W2 H → Holds K W2 H st → ds[i]? = some d → Y i H x H' → Same H H' ∧ Rp K W2 H' x d
abbrev IDen := Den (List D)
def tI (K : PySem.W.Frag) (E : XK) (τ : IDen) : TI := fun σ H R => tG K E τ σ H fun ds _ W1 H1 => ∀ J, WalkD K W1 J ds H1 → R J H1
def itemsD : D → Option (List D)
  | .lst ds => some ds
  | .tup ds => some ds
  | .str z => some (z.cps.toList.map fun c => .str ⟨#[c]⟩)
  | _ => none
def itP (ta : EDen) : IDen := fun Δ st => bd (ta Δ st) fun d st1 => (itemsD d).map fun ds => (.ok ds, st1)
def yStr (z : Str) : Nat → Hp → V → Hp → Prop := fun i H v H' => H' = H ∧ ∃ c, z.cps[i]? = some c ∧ v = .str ⟨#[c]⟩
section
variable {X : Cx} {E : XK} {a : Expr} {ta : EDen} {tg : Expr} {pos p : Pos}
theorem di_seq (ha : PE X a (tD X.K E ta)) : PI X tg a (tI X.K E (itP ta)) := by
  refine ⟨fun pins s σ H R I h => ?_⟩
  obtain ⟨W, st, Δ, r, st', L, iv, e, k⟩ := h
  unfold itP bd at e
  cases hm : ta Δ st with
  | none => rw [hm] at e; cases e
  | some q =>
    obtain ⟨rr, st1⟩ := q
    rw [hm] at e
    cases rr with
    | error x =>
      simp only at e
      cases e
      exact (pi_list ha).run pins s σ H R I ⟨W, st, Δ, .error x, _, L, iv, hm, k⟩
    | ok d =>
      simp only at e
      cases d with
      | lst ds =>
        simp only [itemsD, Option.map] at e
        cases e
        refine (pi_list ha).run pins s σ H R I ⟨W, st, Δ, _, _, L, iv, hm, fun W1 H1 e1 i1 v rv => ?_⟩
        cases rv with
        | @lst a xs _ n1 s1 q1 =>
          refine ⟨_, rfl, ⟨_, sq_l s1⟩, k W1 H1 e1 i1 _ ⟨fun H => H a = some (.lst xs), YAt xs, ?_, fun W2 H e2 => e2.ext _ _ (fun z => n1 (W1.sub _ z)) s1, fun i W2 H st2 x H' d e2 _ hd y => ?_⟩⟩
          · have wl := walk_list (K := X.K) (a := a) (xs := xs)
            rw [q1.length] at wl
            exact wl.mono (fun H h => sq_l h) fun _ _ _ _ _ _ y => y
          · obtain ⟨rfl, y⟩ := y
            obtain ⟨d', h1, h2⟩ := q1.get' y
            rw [h1] at hd
            cases hd
            exact ⟨Same.refl _, h2.to e2⟩
      | tup ds =>
        simp only [itemsD, Option.map] at e
        cases e
        refine (pi_tup ha).run pins s σ H R I ⟨W, st, Δ, _, _, L, iv, hm, fun W1 H1 e1 i1 v rv => ?_⟩
        cases rv with
        | @tup a xs _ s1 q1 =>
          refine ⟨_, rfl, ⟨_, sq_t s1⟩, k W1 H1 e1 i1 _ ⟨fun H => SqT X.K H a xs, YAt xs, ?_, fun W2 H e2 => ?_, fun i W2 H st2 x H' d e2 _ hd y => ?_⟩⟩
          · have wl := walk_tup (K := X.K) (a := a) (xs := xs)
            rw [q1.length] at wl
            exact wl
          · rcases s1 with ⟨n1, s1⟩ | s1
            · exact .inl (.inl (e2.ext _ _ (fun z => n1 (W1.sub _ z)) s1))
            · exact .inr s1
          · obtain ⟨rfl, y⟩ := y
            obtain ⟨d', h1, h2⟩ := q1.get' y
            rw [h1] at hd
            cases hd
            exact ⟨Same.refl _, h2.to e2⟩
      | str z =>
        simp only [itemsD, Option.map] at e
        cases e
        refine (pi_str ha).run pins s σ H R I ⟨W, st, Δ, _, _, L, iv, hm, fun W1 H1 e1 i1 v rv => ?_⟩
        cases rv
        refine ⟨z, rfl, k W1 H1 e1 i1 _ ⟨fun _ => True, yStr z, ?_, fun _ _ _ => trivial, fun i W2 H st2 x H' d e2 _ hd y => ?_⟩⟩
        · have wl := walk_str (z := z)
          rw [show z.cps.size = (z.cps.toList.map fun c => D.str ⟨#[c]⟩).length by simp] at wl
          exact wl
        · obtain ⟨rfl, c, hc, rfl⟩ := y
          rw [List.getElem?_map] at hd
          have : z.cps.toList[i]? = some c := by simpa using hc
          rw [this] at hd
          cases hd
          exact ⟨Same.refl _, .str _⟩
      | _ => simp only [itemsD, Option.map] at e; cases e
/-- lo, lo + 1, .. below hi -/
def rngD (lo hi : Int) : List D := (List.range (hi - lo).toNat).map fun i => .int (lo + (i : Nat))
def mil : Int := 1000000
def rng1F : List D → Option (List D)
  | [.int j] => if -mil ≤ j ∧ j ≤ mil then some (rngD 0 j) else none
  | _ => none
def rng2F : List D → Option (List D)
  | [.int i, .int j] => if -mil ≤ i ∧ i ≤ mil ∧ -mil ≤ j ∧ j ≤ mil then some (rngD i j) else none
  | _ => none
def rng1P (tr : ADen) : IDen := fun Δ st => bd (tr Δ st) fun ds st1 => (rng1F ds).map fun r => (.ok r, st1)
def rng2P (tr : ADen) : IDen := fun Δ st => bd (tr Δ st) fun ds st1 => (rng2F ds).map fun r => (.ok r, st1)
theorem walkD_range {W : Wd} {lo hi : Int} {H1 : Hp} : WalkD X.K W (Itr lo (hi - lo).toNat) (rngD lo hi) H1 := by
  refine ⟨fun _ => True, YFn fun i => .int (lo + i), ?_, fun _ _ _ => trivial, fun i W2 H st x H' d e1 iv hd y => ?_⟩
  · have e : (rngD lo hi).length = (hi - lo).toNat := by unfold rngD; rw [List.length_map, List.length_range]
    rw [e]
    exact walk_range
  · obtain ⟨rfl, rfl⟩ := y
    unfold rngD at hd
    rw [List.getElem?_map] at hd
    cases q : (List.range (hi - lo).toNat)[i]? with
    | none => rw [q] at hd; cases hd
    | some j =>
      rw [q] at hd
      cases hd
      obtain ⟨_, rfl⟩ := List.getElem?_eq_some_iff.mp q
      rw [List.getElem_range]
      exact ⟨Same.refl _, .int _⟩
theorem di_range1 {tr : ADen} (hm : X.mg "range" = none) (ha : PA X [a] (tAD X.K E tr)) (hg : Gl X "range" := by rfl) (hs : starEach [a] X.env = [(false, eval a X.env)] := by rfl) : PI X tg (.Call (.Name "range" p) [a] [] pos) (tI X.K E (rng1P tr)) := by
  refine ⟨fun pins s σ H R I h => (pi_range1 hg hm ha hs).run pins s σ H R I ?_⟩
  obtain ⟨W, st, h⟩ := h
  refine ⟨W, st, h.seq.mono fun ds st1 W1 H1 e1 i1 q vs rs => ?_⟩
  obtain ⟨Δ, r, L, iv, e, k⟩ := q.2.val (m := fun _ => rng1F ds)
  unfold rng1F at e
  split at e
  · split at e
    · rename_i j hj
      cases e
      obtain ⟨v, rfl, rv⟩ := rps1 rs
      cases rv
      unfold mil at hj
      have wk := walkD_range (X := X) (W := W1) (lo := 0) (hi := j) (H1 := H1)
      rw [Int.sub_zero] at wk
      exact ⟨j, rfl, by omega, by omega, k W1 H1 (Le.refl _ _) iv _ wk⟩
    · cases e
  · cases e
theorem rps2 {K : PySem.W.Frag} {W : Wd} {H : Hp} {vs : List V} {d d' : D} (r : Rps K W H vs [d, d']) : ∃ v v', vs = [v, v'] ∧ Rp K W H v d ∧ Rp K W H v' d' := by
  cases r with
  | cons h t =>
    obtain ⟨v', rfl, r'⟩ := rps1 t
    exact ⟨_, _, rfl, h, r'⟩
theorem di_range2 {b : Expr} {tr : ADen} (hm : X.mg "range" = none) (ha : PA X [a, b] (tAD X.K E tr)) (hg : Gl X "range" := by rfl) (hs : starEach [a, b] X.env = [(false, eval a X.env), (false, eval b X.env)] := by rfl) (hs2 : starEach [b] X.env = [(false, eval b X.env)] := by rfl) :
    PI X tg (.Call (.Name "range" p) [a, b] [] pos) (tI X.K E (rng2P tr)) := by
  refine ⟨fun pins s σ H R I h => (pi_range2 hg hm ha hs hs2).run pins s σ H R I ?_⟩
  obtain ⟨W, st, h⟩ := h
  refine ⟨W, st, h.seq.mono fun ds st1 W1 H1 e1 i1 q vs rs => ?_⟩
  obtain ⟨Δ, r, L, iv, e, k⟩ := q.2.val (m := fun _ => rng2F ds)
  unfold rng2F at e
  split at e
  · split at e
    · rename_i i j hj
      cases e
      obtain ⟨v, v', rfl, rv, rv'⟩ := rps2 rs
      cases rv
      cases rv'
      unfold mil at hj
      exact ⟨i, j, rfl, by omega, k W1 H1 (Le.refl _ _) iv _ walkD_range⟩
    · cases e
  · cases e
end

/-! ### list comprehensions -/
def wipeD (Δ : Dl) : List Nat → Dl
  | [] => Δ
  | v :: vs => (wipeD Δ vs).set v none
theorem wipe_get (σ : L2.St) : ∀ (vs : List Nat) (j : Nat), (wipe σ vs)[j]? = if j ∈ vs then (if j < σ.length then some none else none) else σ[j]?
  | [], j => by simp [wipe]
  | v :: vs, j => by
    unfold wipe
    rw [List.getElem?_set, wipe_length, wipe_get σ vs j]
    by_cases h : v = j
    · subst h
      simp
    · have : (j ∈ v :: vs) ↔ j ∈ vs := by simp [fun e => h (Eq.symm e), Ne.symm h]
      simp [h, this]
theorem wipe_same {σ σ2 : L2.St} {vs is : List Nat} (hl : σ2.length = (wipe σ vs).length) (ho : ∀ j, j ∉ is → σ2[j]? = (wipe σ vs)[j]?) (hs : ∀ i ∈ is, i ∈ vs) : wipe σ2 vs = wipe σ vs := by
  apply List.ext_getElem?
  intro j
  rw [wipe_length] at hl
  rw [wipe_get σ2, wipe_get σ]
  by_cases h : j ∈ vs
  · simp [h, hl]
  · have q := ho j fun z => h (hs j z)
    rw [wipe_get] at q
    simp only [h, if_false] at q ⊢
    exact q
section
variable {K : PySem.W.Frag} {W : Wd} {H : Hp}
theorem wipeD_length (Δ : Dl) : ∀ vs : List Nat, (wipeD Δ vs).length = Δ.length
  | [] => rfl
  | v :: vs => by unfold wipeD; rw [List.length_set, wipeD_length Δ vs]
theorem wipeD_get (Δ : Dl) : ∀ (vs : List Nat) (j : Nat), (wipeD Δ vs)[j]? = if j ∈ vs then (if j < Δ.length then some none else none) else Δ[j]?
  | [], j => by simp [wipeD]
  | v :: vs, j => by
    unfold wipeD
    rw [List.getElem?_set, wipeD_length, wipeD_get Δ vs j]
    by_cases h : v = j
    · subst h
      simp
    · have : (j ∈ v :: vs) ↔ j ∈ vs := by simp [fun e => h (Eq.symm e), Ne.symm h]
      simp [h, this]
theorem LocD.wipe {σ : L2.St} {Δ : Dl} (L : LocD K W H σ Δ) (vs : List Nat) : LocD K W H (L2.wipe σ vs) (wipeD Δ vs) := by
  refine ⟨by rw [wipe_length, wipeD_length]; exact L.1, fun i d e => ?_⟩
  rw [wipeD_get] at e
  split at e
  · split at e <;> cases e
  · rename_i h
    obtain ⟨v, h1, h2⟩ := L.2 i d e
    exact ⟨v, by rw [wipe_get]; simp only [h, if_false]; exact h1, h2⟩
end
def lcGo (t : Tgt) (tt : TDen) (te : EDen) (Δ : Dl) : List D → Sta → List D → Mo D
  | [], st, acc => some (.ok (.lst acc), st)
  | d :: ds, st, acc => (t.put d Δ).bind fun Δ1 => match tt Δ1 st with
    | some (.ok true, st1) => (match te Δ1 st1 with
      | some (.ok y, st2) => if acc.length < big then lcGo t tt te Δ ds st2 (acc ++ [y]) else none
      | _ => none)
    | some (.ok false, st1) => lcGo t tt te Δ ds st1 acc
    | _ => none
def lcP (ti : IDen) (t : Tgt) (tt : TDen) (te : EDen) (vs : List Nat) : EDen := fun Δ st => bd (ti Δ st) fun ds st1 => lcGo t tt te (wipeD Δ vs) ds st1 []
def yesT : TDen := fun _ st => some (.ok true, st)
section
variable {X : Cx} {E : XK} {σ : L2.St} {H : Hp} {Q : VK}
theorem dts_nil : PTs X [] (tTD X.K E yesT) := imPTs pts_nil fun σ H Q h => by
  obtain ⟨W, st, h⟩ := h
  exact h.ret fun _ => rfl
theorem tD_lc {ti : IDen} {t : Tgt} {tt : TDen} {te : EDen} {vs : List Nat} (hs : ∀ i ∈ t.slots, i ∈ vs) (h : tD X.K E (lcP ti t tt te vs) σ H Q) : tLc (tI X.K E ti) (t.g X.K) (tTD X.K E0 tt) (tD X.K E0 te) vs σ H Q := by
  obtain ⟨W0, st0, Δ0, r0, st0', L0, iv0, e0, k0⟩ := h
  unfold lcP bd at e0
  cases hm : ti Δ0 st0 with
  | none => rw [hm] at e0; cases e0
  | some p =>
  obtain ⟨rr, st1⟩ := p
  rw [hm] at e0
  cases rr with
  | error x =>
    simp only at e0
    cases e0
    exact ⟨W0, st0, Δ0, .error x, _, L0, iv0, hm, k0⟩
  | ok ds =>
    simp only at e0
    refine ⟨W0, st0, Δ0, .ok ds, st1, L0, iv0, hm, fun W1 H1 e1 i1 J wk D nD => ?_⟩
    obtain ⟨G, Y, w, hG, hY⟩ := wk.ex
    have Lw : LocD X.K W1 H1 (L2.wipe σ vs) (wipeD Δ0 vs) := (L0.to e1).wipe vs
    have nMD : ¬ W1.M D := fun m => i1.there D (W1.sub _ m) nD
    refine lc_it w (fun i H2 => ∃ W2 st acc vacc, Le W1 H1 W2 H2 ∧ W2.N D ∧ ¬ W2.M D ∧ Holds X.K W2 H2 st ∧ H2 D = some (.lst vacc) ∧ Rps X.K W2 H2 vacc acc ∧ lcGo t tt te (wipeD Δ0 vs) (ds.drop i) st acc = some (r0, st0')) ?_ (fun i H2 _ hp => ?_) (fun i x H2 H3 hi hp hy => ?_) (fun H2 hp => ?_)
    · exact ⟨W1.addN D, st1, [], [], le_addN nD, .inr rfl, nMD, i1.addN nD, upd_same, .nil, by rw [List.drop_zero]; exact e0⟩
    · obtain ⟨W2, _, _, _, e2, _⟩ := hp
      exact hG W2 H2 e2
    · obtain ⟨W2, st, acc, vacc, e2, hN, hM, i2, hD, ra, eg⟩ := hp
      have hd : ds[i]? = some ds[i] := List.getElem?_eq_getElem hi
      obtain ⟨sm, rx⟩ := hY i W2 H2 st x H3 ds[i] e2 i2 hd hy
      have e3 : Le W1 H1 W2 H3 := e2.trans (Le.of sm)
      have i3 := i2.same sm
      rw [List.drop_eq_getElem_cons hi] at eg
      simp only [lcGo] at eg
      cases hp2 : t.put ds[i] (wipeD Δ0 vs) with
      | none => rw [hp2] at eg; cases eg
      | some Δ1 =>
        rw [hp2] at eg
        simp only [Option.bind] at eg
        refine put_ok t (Lw.to e3) rx hp2 fun σ2 L2' hlen hoth => ⟨wipe_same hlen hoth hs, ?_⟩
        cases ht : tt Δ1 st with
        | none => rw [ht] at eg; cases eg
        | some q =>
          obtain ⟨rb, st2⟩ := q
          rw [ht] at eg
          cases rb with
          | error z => cases eg
          | ok b =>
            refine ⟨W2, st, Δ1, .ok b, st2, L2', i3, ht, fun W4 H4 e4 i4 => ?_⟩
            have hD4 : H4 D = some (.lst vacc) := e4.ext _ _ hM (sm _ _ hD)
            have ra4 := (ra.to (Le.of sm)).to e4
            have hN4 : W4.N D := e4.keep D hN
            have hM4 : ¬ W4.M D := fun z => by
              rcases e4.newM D z with z | z
              · exact hM z
              · rw [sm _ _ hD] at z; cases z
            cases b with
            | false => exact iteF ⟨W4, st2, acc, vacc, e3.trans e4, hN4, hM4, i4, hD4, ra4, eg⟩
            | true =>
              refine iteT ?_
              simp only at eg
              cases hte : te Δ1 st2 with
              | none => rw [hte] at eg; cases eg
              | some q2 =>
                obtain ⟨ry, st3⟩ := q2
                rw [hte] at eg
                cases ry with
                | error z => cases eg
                | ok y =>
                  simp only at eg
                  split at eg
                  · rename_i hb
                    refine ⟨W4, st2, Δ1, .ok y, st3, L2'.to e4, i4, hte, fun W5 H5 e5 i5 v rv => ?_⟩
                    have hD5 : H5 D = some (.lst vacc) := e5.ext _ _ hM4 hD4
                    have hN5 : W5.N D := e5.keep D hN4
                    have hM5 : ¬ W5.M D := fun z => by
                      rcases e5.newM D z with z | z
                      · exact hM4 z
                      · rw [hD4] at z; cases z
                    have e6 := (e3.trans e4).trans e5
                    refine ⟨vacc, hD5, by rw [ra4.length]; exact Nat.lt_of_lt_of_le hb (by decide), W5, st3, acc ++ [y], vacc ++ [v], ⟨fun a o n h => ?_, e6.newM, e6.newN, e6.keep, e6.hh⟩, hN5, hM5, i5.off hN5 hM5, upd_same, ?_, eg⟩
                    · rw [upd_ne (ne_of_none h nD)]
                      exact e6.ext a o n h
                    · exact ((ra4.to e5).append (.cons rv .nil)).tow (lw_upd hN5)
                  · cases eg
    · obtain ⟨W2, st, acc, vacc, e2, hN, hM, i2, hD, ra, eg⟩ := hp
      rw [List.drop_length] at eg
      simp only [lcGo] at eg
      cases eg
      exact k0 (W2.delN D hM) H2 (e1.trans (e2.delN fun z => i1.there D z nD)) i2.delN _ (.lst (fun z => z.2 rfl) hD (ra.tow lw_delN))
theorem de_lc {elt iter : Expr} {ifs : List Expr} {scope : Scope} (t : Tgt) (own : List (Str × Nat)) {pos : Pos} {tg : Expr} {ti : IDen} {tt : TDen} {te : EDen} (hc : X.calm = true) (hN : X.N.Nodup) (hs : ∀ i ∈ t.slots, i ∈ own.map (·.2)) (hi : PI X tg iter (tI X.K E ti)) (ok : BlkOk X.N X.env.scope scope own)
    (hg : ∀ (s : Shared) (H : Hp) (C : Addr) (cl : List (Str × Addr)) (fp : List Addr), PG (X.blk s H scope (compEnvC scope cl C X.env) fp) tg (t.g X.K))
    (ht : ∀ (s : Shared) (H : Hp) (C : Addr) (cl : List (Str × Addr)) (fp : List Addr), PTs (X.blk s H scope (compEnvC scope cl C X.env) fp) ifs (tTD X.K E0 tt))
    (he : ∀ (s : Shared) (H : Hp) (C : Addr) (cl : List (Str × Addr)) (fp : List Addr), PE (X.blk s H scope (compEnvC scope cl C X.env) fp) elt (tD X.K E0 te)) (hf : ∀ x, foldedSetIterable iter X.env x = pure x := by intro _; rfl) :
    PE X (.ListComp elt [⟨tg, iter, ifs, 0⟩] scope pos) (tD X.K E (lcP ti t tt te (own.map (·.2)))) :=
  imE (pe_lc hc hN hi ok hg ht he hf) fun _ _ _ => tD_lc hs
end

/-! ### statements -/
def nxP : SDen := fun Δ st => some (.ok (.nx Δ), st)
/-- one statement, then the rest -/
def sqP (t u : SDen) : SDen := fun Δ st => bd (t Δ st) fun o st1 => match o with
  | .nx Δ1 => u Δ1 st1
  | o => some (.ok o, st1)
def asP (g : Tgt) (te : EDen) : SDen := fun Δ st => bd (te Δ st) fun d st1 => (g.put d Δ).map fun Δ1 => (.ok (.nx Δ1), st1)
def rtP (te : EDen) : SDen := fun Δ st => bd (te Δ st) fun d st1 => some (.ok (.rt d), st1)
def rnP : SDen := fun Δ st => some (.ok (.rt .non), st)
def exP (te : EDen) : SDen := fun Δ st => bd (te Δ st) fun _ st1 => some (.ok (.nx Δ), st1)
def bkP : SDen := fun Δ st => some (.ok (.bk Δ), st)
def ctP : SDen := fun Δ st => some (.ok (.ct Δ), st)
def ngP : SDen := fun _ _ => none
section
variable {X : Cx} {E : XK} {st : Stmt} {rest : List Stmt} {t u : SDen} {e : Expr} {te : EDen} {pos : Pos}
theorem dss_nil : PSs X [] (tSD X.K E nxP) := imSs pss_nil fun D σ H h => by
  obtain ⟨W, st, Δ, r, st', L, I, e, k⟩ := h
  cases e
  exact k W H (Le.refl _ _) I σ L
theorem tSD_sq {D : Ends} {σ : L2.St} {H : Hp} (h : tSD X.K E (sqP t u) D σ H) : tSeq (tSD X.K E t) (tSD X.K E u) D σ H := by
  obtain ⟨W, st, Δ, r, st', L, I, e, k⟩ := h
  replace e : Dn.bd (t Δ st) (fun o st1 => match o with | .nx Δ1 => u Δ1 st1 | o => some (.ok o, st1)) = some (r, st') := e
  unfold Dn.bd at e
  cases hm : t Δ st with
  | none => rw [hm] at e; cases e
  | some p =>
    obtain ⟨ra, st1⟩ := p
    rw [hm] at e
    cases ra with
    | error x => simp only at e; cases e; exact ⟨W, st, Δ, .error x, _, L, I, hm, k⟩
    | ok o =>
      cases o with
      | nx Δ1 => exact ⟨W, st, Δ, .ok (.nx Δ1), st1, L, I, hm, fun W1 H1 e1 i1 σ' L' => ⟨W1, st1, Δ1, r, st', L', i1, e, k.to e1⟩⟩
      | rt d => simp only at e; cases e; exact ⟨W, st, Δ, .ok (.rt d), _, L, I, hm, k⟩
      | bk d => simp only at e; cases e; exact ⟨W, st, Δ, .ok (.bk d), _, L, I, hm, k⟩
      | ct d => simp only at e; cases e; exact ⟨W, st, Δ, .ok (.ct d), _, L, I, hm, k⟩
theorem dss_cons (h1 : PS X st (tSD X.K E t)) (h2 : PSs X rest (tSD X.K E u)) : PSs X (st :: rest) (tSD X.K E (sqP t u)) := imSs (pss_cons h1 h2) fun _ _ _ => tSD_sq
theorem dss_one (h1 : PS X st (tSD X.K E t)) : PSs X [st] (tSD X.K E t) := pss_one h1
theorem ds_asg {tg : Expr} (g : Tgt) (he : PE X e (tD X.K E te)) (hg : PG X tg (g.g X.K)) (hs : swapsWithSole [tg] e pos.line X.env = pure false := by rfl) (hw : swappedStores [tg] e X.env = pure none := by rfl) (h1 : List.map (fun x => x.snd) (assignEach [tg] X.env) = [assign tg X.env] := by rfl) : PS X (.Assign [tg] e pos) (tSD X.K E (asP g te)) := by
  refine imS (ps_asg he hg hs hw h1) fun D σ H h => ?_
  obtain ⟨W, st, h⟩ := h
  refine ⟨W, st, h.seq.mono fun d st1 W1 H1 e1 i1 q v rv => ?_⟩
  obtain ⟨Δ, r, st', L, I, e, k⟩ := q.2
  simp only at e
  cases hp : g.put d Δ with
  | none => rw [hp] at e; cases e
  | some Δ1 =>
    rw [hp] at e
    cases e
    exact put_ok g L rv hp fun σ' L' _ _ => k W1 H1 (Le.refl _ _) I σ' L'
theorem ds_set {i : Nat} {x : Str} {pos' : Pos} (hN : X.N.Nodup) (hi : X.N[i]? = some x) (hx : L2.Loc X.env.scope x) (he : PE X e (tD X.K E te)) (hs : swapsWith e (some (.Name x pos')) pos.line X.env = pure false := by rfl)
    (hf : X.fn x = true ∨ X.env.scope.names.lookup x = some .local := by first | exact .inl rfl | exact .inr rfl | assumption) : PS X (.Assign [.Name x pos'] e pos) (tSD X.K E (asP (.one i) te)) := by
  refine imS (ps_set hN hi hx he hs hf) fun D σ H h => ?_
  obtain ⟨W, st, h⟩ := h
  refine ⟨W, st, h.seq.mono fun d st1 W1 H1 e1 i1 q v rv => ?_⟩
  obtain ⟨Δ, r, st', L, I, e, k⟩ := q.2
  cases e
  exact k W1 H1 (Le.refl _ _) I _ (L.set rv)
theorem ds_ret (he : PE X e (tD X.K E te)) : PS X (.Return (some e) pos) (tSD X.K E (rtP te)) := by
  refine imS (ps_ret he) fun D σ H h => ?_
  obtain ⟨W, st, h⟩ := h
  refine ⟨W, st, h.seq.mono fun d st1 W1 H1 e1 i1 q v rv => ?_⟩
  exact q.2.ret (fun _ => rfl) v rv
theorem ds_retN : PS X (.Return none pos) (tSD X.K E rnP) := imS ps_retN fun D σ H h => by
  obtain ⟨W, st, h⟩ := h
  exact h.ret (fun _ => rfl) .non .non
theorem ds_expr (he : PE X e (tD X.K E te)) (hs : swapsWith e none pos.line X.env = pure false := by rfl) : PS X (.Expr e pos) (tSD X.K E (exP te)) := by
  refine imS (ps_expr he hs) fun D σ H h => ?_
  obtain ⟨W, st, h⟩ := h
  refine ⟨W, st, h.seq.mono fun d st1 W1 H1 e1 i1 q v rv => ?_⟩
  obtain ⟨Δ, r, st', L, I, e, k⟩ := q.2
  cases e
  exact k W1 H1 (Le.refl _ _) I σ L
theorem ds_break : PS X (.Break pos) (tSD X.K E bkP) := imS ps_break fun D σ H h => by
  obtain ⟨W, st, Δ, r, st', L, I, e, k⟩ := h
  cases e
  exact k W H (Le.refl _ _) I σ L
theorem ds_continue : PS X (.Continue pos) (tSD X.K E ctP) := imS ps_continue fun D σ H h => by
  obtain ⟨W, st, Δ, r, st', L, I, e, k⟩ := h
  cases e
  exact k W H (Le.refl _ _) I σ L
theorem ds_pass : PS X (.Pass pos) (tSD X.K E nxP) := imS ps_pass fun D σ H h => by
  obtain ⟨W, st, Δ, r, st', L, I, e, k⟩ := h
  cases e
  exact k W H (Le.refl _ _) I σ L
/-- a statement that is not reached -/
theorem ds_never : PS X st (tSD X.K E ngP) := imS ps_never fun D σ H h => by
  obtain ⟨W, st, Δ, r, st', L, I, e, k⟩ := h
  cases e
theorem dss_never : PSs X rest (tSD X.K E ngP) := imSs pss_never fun D σ H h => by
  obtain ⟨W, st, Δ, r, st', L, I, e, k⟩ := h
  cases e
theorem ds_if {c : Expr} {a b : List Stmt} {tc : TDen} (hc : PT X c (tTD X.K E tc)) (ha : PSs X a (tSD X.K E t)) (hb : PSs X b (tSD X.K E u)) : PS X (.If c a b pos) (tSD X.K E (ifP tc t u)) := by
  refine imS (ps_if hc ha hb) fun D σ H h => ?_
  obtain ⟨W, st, h⟩ := h
  refine ⟨W, st, (h.seq (k := fun b Δ st1 => if b = true then t Δ st1 else u Δ st1)).mono fun k st1 W1 H1 e1 i1 q => ?_⟩
  obtain ⟨_, q⟩ := q
  cases k with
  | true => exact iteT ⟨W1, st1, q⟩
  | false => exact iteF ⟨W1, st1, q⟩
end

/-! ### for -/
def foGo (g : Tgt) (tb : SDen) : List D → Dl → Sta → Mo Out
  | [], Δ, st => some (.ok (.nx Δ), st)
  | d :: ds, Δ, st => (g.put d Δ).bind fun Δ1 => match tb Δ1 st with
    | some (.ok (.nx Δ2), st2) => foGo g tb ds Δ2 st2
    | some (.ok (.ct Δ2), st2) => foGo g tb ds Δ2 st2
    | some (.ok (.bk Δ2), st2) => some (.ok (.nx Δ2), st2)
    | r => r
def foP (ti : IDen) (g : Tgt) (tb : SDen) : SDen := fun Δ st => bd (ti Δ st) fun ds st1 => foGo g tb ds Δ st1
section
variable {X : Cx} {E : XK}
theorem tSD_fo {ti : IDen} {g : Tgt} {tb : SDen} {D : Ends} {σ : L2.St} {H : Hp} (h : tSD X.K E (foP ti g tb) D σ H) : tFor (tI X.K E ti) (g.g X.K) (tSD X.K E tb) D σ H := by
  obtain ⟨W0, st0, Δ0, r0, st0', L0, iv0, e0, k0⟩ := h
  unfold foP bd at e0
  cases hm : ti Δ0 st0 with
  | none => rw [hm] at e0; cases e0
  | some p =>
  obtain ⟨rr, st1⟩ := p
  rw [hm] at e0
  cases rr with
  | error x =>
    simp only at e0
    cases e0
    exact ⟨W0, st0, Δ0, .error x, _, L0, iv0, hm, k0⟩
  | ok ds =>
    simp only at e0
    refine ⟨W0, st0, Δ0, .ok ds, st1, L0, iv0, hm, fun W1 H1 e1 i1 J wk => ?_⟩
    obtain ⟨G, Y, w, hG, hY⟩ := wk.ex
    refine for_it w (fun i σ2 H2 => ∃ W2 st Δ, Le W1 H1 W2 H2 ∧ Holds X.K W2 H2 st ∧ LocD X.K W2 H2 σ2 Δ ∧ foGo g tb (ds.drop i) Δ st = some (r0, st0')) ?_ (fun i σ2 H2 _ hp => ?_) (fun i x σ2 H2 H3 hi hp hy => ?_) (fun σ2 H2 hp => ?_)
    · exact ⟨W1, st1, Δ0, Le.refl _ _, i1, L0.to e1, by rw [List.drop_zero]; exact e0⟩
    · obtain ⟨W2, _, _, e2, _⟩ := hp
      exact hG W2 H2 e2
    · obtain ⟨W2, st, Δ, e2, i2, L2', eg⟩ := hp
      have hd : ds[i]? = some ds[i] := List.getElem?_eq_getElem hi
      obtain ⟨sm, rx⟩ := hY i W2 H2 st x H3 ds[i] e2 i2 hd hy
      have e3 : Le W1 H1 W2 H3 := e2.trans (Le.of sm)
      have i3 := i2.same sm
      rw [List.drop_eq_getElem_cons hi] at eg
      simp only [foGo] at eg
      cases hp2 : g.put ds[i] Δ with
      | none => rw [hp2] at eg; cases eg
      | some Δ1 =>
        rw [hp2] at eg
        simp only [Option.bind] at eg
        refine put_ok g (L2'.to (Le.of sm)) rx hp2 fun σ3 L3 _ _ => ?_
        cases ht : tb Δ1 st with
        | none => rw [ht] at eg; cases eg
        | some q =>
          obtain ⟨rb, st2⟩ := q
          rw [ht] at eg
          refine ⟨W2, st, Δ1, rb, st2, L3, i3, ht, ?_⟩
          cases rb with
          | error z =>
            simp only at eg
            cases eg
            exact k0.to (e1.trans e3)
          | ok o =>
            cases o with
            | nx Δ2 => exact fun W4 H4 e4 i4 σ4 L4 => ⟨W4, st2, Δ2, e3.trans e4, i4, L4, eg⟩
            | ct Δ2 => exact fun W4 H4 e4 i4 σ4 L4 => ⟨W4, st2, Δ2, e3.trans e4, i4, L4, eg⟩
            | bk Δ2 =>
              simp only at eg
              cases eg
              exact fun W4 H4 e4 i4 σ4 L4 => k0 W4 H4 ((e1.trans e3).trans e4) i4 σ4 L4
            | rt d =>
              simp only at eg
              cases eg
              exact fun W4 H4 e4 i4 v rv => k0 W4 H4 ((e1.trans e3).trans e4) i4 v rv
    · obtain ⟨W2, st, Δ, e2, i2, L2', eg⟩ := hp
      rw [List.drop_length] at eg
      simp only [foGo] at eg
      cases eg
      exact k0 W2 H2 (e1.trans e2) i2 σ2 L2'
theorem ds_for {tg iter : Expr} {body : List Stmt} {pos : Pos} {ti : IDen} (g : Tgt) {tb : SDen} (hp : PassesOwn (model X.prog X.w) X.A X.env X.xe) (hc : X.calm = true) (hi : PI X tg iter (tI X.K E ti)) (hg : PG X tg (g.g X.K)) (hb : PSs X body (tSD X.K E tb)) (hs : ∀ x, foldedSetIterable iter X.env x = pure x := by intro _; rfl) :
    PS X (.For tg iter body [] pos) (tSD X.K E (foP ti g tb)) := imS (ps_for hp hc hi hg hb hs) fun _ _ _ => tSD_fo
end
end Dn

set_option Elab.async false
set_option linter.all false
set_option maxRecDepth 100000
set_option maxHeartbeats 4000000
namespace Dn
open PySem PySem.Spec PyProof.Rows L2
abbrev andD := intD fun i j => some (Builtin.bitAnd i j)
abbrev orD := intD fun i j => some (Builtin.bitOr i j)
abbrev xorD := intD fun i j => some (Builtin.bitXor i j)
/-! ### is None -/
def isNon : D → Option Bool
  | .non => some true
  | .opq _ => none
  | _ => some false
def isNP (ta : EDen) : EDen := fun Δ st => bd (ta Δ st) fun d st1 => (isNon d).map fun b => (.ok (.bl b), st1)
def notNP (ta : EDen) : EDen := fun Δ st => bd (ta Δ st) fun d st1 => (isNon d).map fun b => (.ok (.bl (!b)), st1)
section
variable {X : Cx} {E : XK} {a b : Expr} {ta tb : EDen} {pos pos' : Pos} {σ : L2.St} {H : Hp} {Q : VK} {j : Nat}
theorem isNon_of {K : PySem.W.Frag} {W : Wd} {v : V} {d : D} {b : Bool} (r : Rp K W H v d) (h : isNon d = some b) : decide (v = .non) = b := by
  cases r <;> simp only [isNon] at h <;> cases h <;> rfl
theorem tD_isN (h : tD X.K E (isNP ta) σ H Q) : tIsN (tD X.K E ta) σ H Q := by
  obtain ⟨W, st, h⟩ := h
  refine ⟨W, st, h.seq.mono fun d st1 W1 H1 e1 i1 q v rv => ?_⟩
  obtain ⟨Δ, r, st', L, I, e, k⟩ := q.2
  simp only at e
  cases q0 : isNon d with
  | none => rw [q0] at e; cases e
  | some b0 =>
    rw [q0] at e
    cases e
    rw [isNon_of rv q0]
    exact k W1 H1 (Le.refl _ _) I _ (.bl _)
theorem tD_notN (h : tD X.K E (notNP ta) σ H Q) : tNotN (tD X.K E ta) σ H Q := by
  obtain ⟨W, st, h⟩ := h
  refine ⟨W, st, h.seq.mono fun d st1 W1 H1 e1 i1 q v rv => ?_⟩
  obtain ⟨Δ, r, st', L, I, e, k⟩ := q.2
  simp only at e
  cases q0 : isNon d with
  | none => rw [q0] at e; cases e
  | some b0 =>
    rw [q0] at e
    cases e
    rw [isNon_of rv q0]
    exact k W1 H1 (Le.refl _ _) I _ (.bl _)
theorem de_isN (ha : PE X a (tD X.K E ta)) : PE X (.Compare a [.Is] [.Constant .none j pos'] pos) (tD X.K E (isNP ta)) := imE (pe_cmp (pc_isN ha) rfl) fun _ _ _ => tD_isN
theorem de_notN (ha : PE X a (tD X.K E ta)) : PE X (.Compare a [.IsNot] [.Constant .none j pos'] pos) (tD X.K E (notNP ta)) := imE (pe_cmp (pc_notN ha) rfl) fun _ _ _ => tD_notN
theorem dt_isN (ha : PE X a (tD X.K E ta)) : PT X (.Compare a [.Is] [.Constant .none j pos'] pos) (tTD X.K E (tstP (isNP ta))) := imT (pt_cmp (pc_isN ha) rfl) fun _ _ _ h => tD_isN (tTD_tst h)
theorem dt_notN (ha : PE X a (tD X.K E ta)) : PT X (.Compare a [.IsNot] [.Constant .none j pos'] pos) (tTD X.K E (tstP (notNP ta))) := imT (pt_cmp (pc_notN ha) rfl) fun _ _ _ h => tD_notN (tTD_tst h)
def negP (ta : EDen) : EDen := fun Δ st => bd (ta Δ st) fun d st1 => (intOf d).map fun i => (.ok (.int (-i)), st1)
theorem de_neg (ha : PE X a (tD X.K E ta)) : PE X (.UnaryOp .USub a pos) (tD X.K E (negP ta)) := imE (pe_un un_neg ha) fun σ H Q h => by
  obtain ⟨W, st, h⟩ := h
  refine ⟨W, st, h.seq.mono fun d st1 W1 H1 e1 i1 q v rv => ?_⟩
  obtain ⟨Δ, r, st', L, I, e, k⟩ := q.2
  cases rv <;> simp only [intOf] at e <;> cases e
  exact ⟨_, rfl, k W1 H1 (Le.refl _ _) I _ (.int _)⟩

/-! ### in, not in: plain values in a list or tuple; one sign in a text -/
def toV : D → Option V
  | .non => some .non
  | .bl b => some (.bl b)
  | .int i => some (.int i)
  | .str x => some (.str x)
  | _ => none
def toVs : List D → Option (List V)
  | [] => some []
  | d :: ds => (toV d).bind fun v => (toVs ds).map fun vs => v :: vs
theorem toV_of {K : PySem.W.Frag} {W : Wd} {v v' : V} {d : D} (r : Rp K W H v d) (h : toV d = some v') : v = v' ∧ flatV v = true := by
  cases r <;> simp only [toV] at h <;> cases h <;> exact ⟨rfl, rfl⟩
theorem toVs_of {K : PySem.W.Frag} {W : Wd} : ∀ {ds : List D} {vs vs' : List V}, Rps K W H vs ds → toVs ds = some vs' → vs = vs' ∧ vs.all flatV = true
  | [], _, _, .nil, h => by cases h; exact ⟨rfl, rfl⟩
  | d :: ds, _, vs', .cons r t, h => by
    simp only [toVs] at h
    cases e : toV d with
    | none => rw [e] at h; cases h
    | some w =>
      rw [e] at h
      cases e2 : toVs ds with
      | none => rw [e2] at h; cases h
      | some ws =>
        rw [e2] at h
        cases h
        obtain ⟨rfl, f1⟩ := toV_of r e
        obtain ⟨rfl, f2⟩ := toVs_of t e2
        exact ⟨rfl, by rw [List.all_cons, f1, f2]; rfl⟩
def inB : D → D → Option Bool
  | x, .lst ds => (toV x).bind fun v => (toVs ds).map fun vs => inV v vs
  | x, .tup ds => (toV x).bind fun v => (toVs ds).map fun vs => inV v vs
  | .str x, .str y => if x.cps = #[x.cps.getD 0 0] then some (decide (x.cps.getD 0 0 ∈ y.cps.toList)) else none
  | _, _ => none
def inD (x y : D) : Option D := (inB x y).map .bl
def notInD (x y : D) : Option D := (inB x y).map fun b => .bl (!b)
theorem or_inG {op : CmpOp} {neg : Bool} (h1 : OpR X (compareOp op) (rIn X.K neg)) (h2 : OpR X (compareOp op) (fun x y H Q => ∃ (c : Nat) (z : Str), x = .str ⟨#[c]⟩ ∧ y = .str z ∧ Q (.bl (if neg then !decide (c ∈ z.cps.toList) else decide (c ∈ z.cps.toList))) H)) :
    OpR X (compareOp op) (rBinD X.K fun x y => (inB x y).map fun b => .bl (if neg then !b else b)) := by
  intro pins s σ H x y v u Q I rx ry q
  obtain ⟨W, st, d1, d2, d, r1, r2, iv, hf, k⟩ := q
  simp only at hf
  cases e : inB d1 d2 with
  | none => rw [e] at hf; cases hf
  | some b =>
    rw [e] at hf
    cases hf
    unfold inB at e
    split at e
    · rename_i ds
      cases e1 : toV d1 with
      | none => rw [e1] at e; cases e
      | some v1 =>
        rw [e1] at e
        cases e2 : toVs ds with
        | none => rw [e2] at e; cases e
        | some vs =>
          rw [e2] at e
          cases e
          cases r2 with
          | lst n2 s2 q2 =>
            obtain ⟨rfl, f1⟩ := toV_of r1 e1
            obtain ⟨rfl, f2⟩ := toVs_of q2 e2
            exact h1 pins s σ H _ _ v u Q I rx ry ⟨_, _, rfl, .inl (sq_l s2), f1, f2, k _ _ (Same.refl _) (.bl _)⟩
    · rename_i ds
      cases e1 : toV d1 with
      | none => rw [e1] at e; cases e
      | some v1 =>
        rw [e1] at e
        cases e2 : toVs ds with
        | none => rw [e2] at e; cases e
        | some vs =>
          rw [e2] at e
          cases e
          cases r2 with
          | tup s2 q2 =>
            obtain ⟨rfl, f1⟩ := toV_of r1 e1
            obtain ⟨rfl, f2⟩ := toVs_of q2 e2
            exact h1 pins s σ H _ _ v u Q I rx ry ⟨_, _, rfl, .inr (sq_t s2), f1, f2, k _ _ (Same.refl _) (.bl _)⟩
    · rename_i x y
      split at e
      · rename_i hx
        cases e
        cases r1
        cases r2
        refine h2 pins s σ H _ _ v u Q I rx ry ⟨x.cps.getD 0 0, y, ?_, rfl, k _ _ (Same.refl _) (.bl _)⟩
        obtain ⟨cps⟩ := x
        simp only at hx
        rw [← hx]
      · cases e
    · cases e
theorem or_in : OpR X (compareOp .In) (rBinD X.K inD) := or_inG (neg := false) op_in_seq op_in_sign
theorem or_notIn : OpR X (compareOp .NotIn) (rBinD X.K notInD) := or_inG (neg := true) op_notIn_seq op_notIn_sign

/-! ### isinstance(x, (T, U)) -/
variable {y1 y2 : Str} {p p1 p2 : Pos} {kk : Nat} {tpos : Pos}
theorem de_isi2 (t1 t2 : Ty) (hm : X.mg "isinstance" = none) (hm1 : X.mg y1 = none) (hm2 : X.mg y2 = none) (hv1 : bootBuiltins y1 = some (.type t1.name)) (hv2 : bootBuiltins y2 = some (.type t2.name)) (ha : PE X a (tD X.K E ta)) (hg : Gl X "isinstance" := by rfl) (hg1 : Gl X y1 := by rfl) (hg2 : Gl X y2 := by rfl)
    (hn1 : y1 ≠ "__name__" := by decide) (hdb1 : (y1 == ("__debug__" : Str)) = false := by decide) (hn2 : y2 ≠ "__name__" := by decide) (hdb2 : (y2 == ("__debug__" : Str)) = false := by decide)
    (hs : starEach (a :: [.Tuple [.Name y1 p1, .Name y2 p2] kk tpos]) X.env = (false, eval a X.env) :: starEach [.Tuple [.Name y1 p1, .Name y2 p2] kk tpos] X.env := by rfl) (hpl : (backTo pos (starEach [.Tuple [.Name y1 p1, .Name y2 p2] kk tpos] X.env)).any (·.1) = false := by rfl)
    (hs2 : starEach ([.Tuple [.Name y1 p1, .Name y2 p2] kk tpos]) X.env = (false, eval (.Tuple [.Name y1 p1, .Name y2 p2] kk tpos) X.env) :: starEach [] X.env := by rfl)
    (hs3 : starEach ([.Name y1 p1, .Name y2 p2]) X.env = (false, eval (.Name y1 p1) X.env) :: starEach [.Name y2 p2] X.env := by rfl) (hs4 : starEach ([.Name y2 p2]) X.env = (false, eval (.Name y2 p2) X.env) :: starEach [] X.env := by rfl) :
    PE X (.Call (.Name "isinstance" p) [a, .Tuple [.Name y1 p1, .Name y2 p2] kk tpos] [] pos) (tD X.K E (isisP [t1, t2] ta)) := by
  refine imE (pe_callB call_isiT hg hm (by decide +kernel) (pa_cons ha (pa_cons (pe_tup (pa_cons (pe_bltn hg1 hm1 hv1 (show RelV (.ty t1.name) _ from rfl) hn1 hdb1) (pa_cons (pe_bltn hg2 hm2 hv2 (show RelV (.ty t2.name) _ from rfl) hn2 hdb2) pa_nil hs4) hs3)) pa_nil hs2) hs) (by decide) (by decide) hs hpl) fun σ H Q h => ?_
  obtain ⟨W, st, h⟩ := h
  refine ⟨W, st, h.seq.mono fun d st1 W1 H1 e1 i1 q v rv => ?_⟩
  obtain ⟨Δ, r, st', L, I, e, k⟩ := q.2
  simp only at e
  cases q0 : isTys d [t1, t2] with
  | none => rw [q0] at e; cases e
  | some b0 =>
    rw [q0] at e
    cases e
    simp only [isTys] at q0
    cases q1 : isTy d t1 with
    | none => rw [q1] at q0; cases q0
    | some b1 =>
      rw [q1] at q0
      obtain ⟨u, hu, hk⟩ := isTy_kit rv t1 q1
      refine ⟨by show 2 ≤ sizeLine; decide, fun p np => ?_⟩
      have rv2 := rv.to (Le.of (same_new (o := .tup [.ty t1.name, .ty t2.name]) np) : Le W1 H1 W1 _)
      obtain ⟨u2, hu2, hk2⟩ := isTy_kit rv2 t1 q1
      refine ⟨v, p, [.ty t1.name, .ty t2.name], u2, [.type t1.name, .type t2.name], b0, rfl, upd_same, .cons (.ty _) (.cons (.ty _) .nil), hu2, ?_, k W1 _ (Le.of (same_new np)) (I.same (same_new np)) _ (.bl _)⟩
      refine kitAny_cons (hk2 t1 b1 q1) (fun hb => ?_) fun hb => ?_
      · subst hb
        simp only [Option.bind] at q0
        cases q2 : isTy d t2 with
        | none => rw [q2] at q0; cases q0
        | some b2 =>
          rw [q2] at q0
          refine kitAny_cons (r := b0) (hk2 t2 b2 q2) (fun hb => ?_) fun hb => ?_
          · subst hb; cases q0; exact kitAny_nil
          · subst hb; cases q0; rfl
      · subst hb; cases q0; rfl

/-! ### zip of two lists, of two tuples -/
def zipL : List D → List D → List D
  | x :: xs, y :: ys => .tup [x, y] :: zipL xs ys
  | _, _ => []
theorem zipL_length : ∀ xs ys : List D, (zipL xs ys).length = min xs.length ys.length
  | [], _ => by simp [zipL]
  | _ :: _, [] => by simp [zipL]
  | x :: xs, y :: ys => by
    simp only [zipL, List.length_cons, zipL_length xs ys]
    omega
theorem zipL_get : ∀ (xs ys : List D) (i : Nat) (d : D), (zipL xs ys)[i]? = some d → ∃ x y, xs[i]? = some x ∧ ys[i]? = some y ∧ d = .tup [x, y]
  | [], _, _, _, h => by simp [zipL] at h
  | _ :: _, [], _, _, h => by simp [zipL] at h
  | x :: xs, y :: ys, 0, d, h => by simp [zipL] at h; exact ⟨x, y, rfl, rfl, h.symm⟩
  | x :: xs, y :: ys, i + 1, d, h => by
    obtain ⟨x', y', h1, h2, h3⟩ := zipL_get xs ys i d (by simpa [zipL] using h)
    exact ⟨x', y', by simpa using h1, by simpa using h2, h3⟩
def zipF : List D → Option (List D)
  | [.lst xs, .lst ys] => some (zipL xs ys)
  | [.tup xs, .tup ys] => some (zipL xs ys)
  | _ => none
def zipP (tr : ADen) : IDen := fun Δ st => bd (tr Δ st) fun ds st1 => (zipF ds).map fun r => (.ok r, st1)
theorem di_zip {elts : List Expr} {tr : ADen} (hm : X.mg "zip" = none) (ha : PA X [a, b] (tAD X.K E tr)) (hg : Gl X "zip" := by rfl) (hs : starEach [a, b] X.env = (false, eval a X.env) :: starEach [b] X.env := by rfl) (hpl : (backTo pos (starEach [b] X.env)).any (·.1) = false := by rfl) :
    PI X (.Tuple elts kk tpos) (.Call (.Name "zip" p) [a, b] [] pos) (tI X.K E (zipP tr)) := by
  refine ⟨fun pins s σ H R I h => (RZ.pi_zipA hg hm ha hs hpl).run pins s σ H R I ?_⟩
  obtain ⟨W, st, h⟩ := h
  refine ⟨W, st, h.seq.mono fun ds st1 W1 H1 e1 i1 q vs rs => ?_⟩
  obtain ⟨Δ, r, L, iv, e, k⟩ := q.2.val (m := fun _ => zipF ds)
  unfold zipF at e
  split at e
  · rename_i xs ys
    cases e
    obtain ⟨v, v', rfl, rv, rv'⟩ := rps2 rs
    cases rv with
    | @lst a vx _ n1 s1 q1 =>
      cases rv' with
      | @lst b vy _ n2 s2 q2 =>
        refine ⟨a, b, vx, vy, rfl, .inl ⟨sq_l s1, sq_l s2, k W1 H1 (Le.refl _ _) iv _ ⟨fun H => SqL X.K H a vx ∧ SqL X.K H b vy, YPair (fun i => vx[i]?) (fun i => vy[i]?), ?_, fun W2 H e2 => ⟨sq_l (e2.ext _ _ (fun z => n1 (W1.sub _ z)) s1), sq_l (e2.ext _ _ (fun z => n2 (W1.sub _ z)) s2)⟩, fun i W2 H st2 x H' d e2 i2 hd y => ?_⟩⟩⟩
        · exact walk_zip (by rw [zipL_length, q1.length, q2.length])
        · obtain ⟨T, x1, x2, rfl, nT, rfl, f1, f2⟩ := y
          obtain ⟨d1, d2, g1, g2, rfl⟩ := zipL_get _ _ _ _ hd
          obtain ⟨w1, m1, r1⟩ := q1.get g1
          obtain ⟨w2, m2, r2⟩ := q2.get g2
          rw [show vx[i]? = some x1 from f1] at m1
          rw [show vy[i]? = some x2 from f2] at m2
          cases m1
          cases m2
          exact ⟨same_new nT, rp_tup i2 nT (.cons (r1.to e2) (.cons (r2.to e2) .nil))⟩
  · rename_i xs ys
    cases e
    obtain ⟨v, v', rfl, rv, rv'⟩ := rps2 rs
    cases rv with
    | @tup a vx _ s1 q1 =>
      cases rv' with
      | @tup b vy _ s2 q2 =>
        have up : ∀ {c : Addr} {vs : List V} {W2 : Wd} {H : Hp}, (¬ W1.N c ∧ H1 c = some (.tup vs)) ∨ WrT X.K c vs → Le W1 H1 W2 H → SqT X.K H c vs := fun {c vs W2 H} s e2 => by
          rcases s with ⟨n, s⟩ | s
          · exact .inl (.inl (e2.ext _ _ (fun z => n (W1.sub _ z)) s))
          · exact .inr s
        refine ⟨a, b, vx, vy, rfl, .inr ⟨sq_t s1, sq_t s2, k W1 H1 (Le.refl _ _) iv _ ⟨fun H => SqT X.K H a vx ∧ SqT X.K H b vy, YPair (fun i => vx[i]?) (fun i => vy[i]?), ?_, fun W2 H e2 => ⟨up s1 e2, up s2 e2⟩, fun i W2 H st2 x H' d e2 i2 hd y => ?_⟩⟩⟩
        · refine ⟨fun i H hi q => ?_, fun H q => ⟨vx, vy, q.1, q.2, by rw [zipL_length, q1.length, q2.length]; omega⟩, fun i H v H' _ q y => ?_⟩
          · rw [zipL_length] at hi
            have h1 : i < vx.length := by rw [q1.length]; omega
            have h2 : i < vy.length := by rw [q2.length]; omega
            exact ⟨vx, vy, vx[i], vy[i], q.1, q.2, by simp [h1], by simp [h2]⟩
          · obtain ⟨T, x, z, h1, h2, h3, h4, h5⟩ := y
            exact ⟨T, x, z, h1, h2, h3, h4 vx q.1, h5 vy q.2⟩
        · obtain ⟨T, x1, x2, rfl, nT, rfl, f1, f2⟩ := y
          obtain ⟨d1, d2, g1, g2, rfl⟩ := zipL_get _ _ _ _ hd
          obtain ⟨w1, m1, r1⟩ := q1.get g1
          obtain ⟨w2, m2, r2⟩ := q2.get g2
          rw [show vx[i]? = some x1 from f1] at m1
          rw [show vy[i]? = some x2 from f2] at m2
          cases m1
          cases m2
          exact ⟨same_new nT, rp_tup i2 nT (.cons (r1.to e2) (.cons (r2.to e2) .nil))⟩
  · cases e

/-! ### a, b = x, y; name = [..] -/
def parP (i j : Nat) (tr : ADen) : SDen := fun Δ st => bd (tr Δ st) fun ds st1 => match ds with
  | [x, y] => some (.ok (.nx ((Δ.set i (some x)).set j (some y))), st1)
  | _ => none
theorem ds_par {i j : Nat} {x y : Str} {px py pt : Pos} {kt k2 : Nat} {pt2 : Pos} {tr : ADen} (hN : X.N.Nodup) (ha : PA X [a, b] (tAD X.K E tr)) (hc : X.calm = true := by rfl) (hi : X.N[i]? = some x := by rfl) (hj : X.N[j]? = some y := by rfl) (hij : i ≠ j := by decide)
    (hx : X.env.scope.names.lookup x = some .local := by rfl) (hy : X.env.scope.names.lookup y = some .local := by rfl)
    (hw : swappedStores [.Tuple [.Name x px, .Name y py] kt pt] (.Tuple [a, b] k2 pt2) X.env = pure (some [x, y]) := by rfl)
    (hs : swapsWithSole [.Tuple [.Name x px, .Name y py] kt pt] (.Tuple [a, b] k2 pt2) pos.line X.env = pure false := by rfl) :
    PS X (.Assign [.Tuple [.Name x px, .Name y py] kt pt] (.Tuple [a, b] k2 pt2) pos) (tSD X.K E (parP i j tr)) := by
  refine imS (ps_par hc hN hi hj hij hx hy ha hw hs) fun D σ H h => ?_
  obtain ⟨W, st, h⟩ := h
  refine ⟨W, st, h.seq.mono fun ds st1 W1 H1 e1 i1 q vs rs => ?_⟩
  obtain ⟨Δ, r, st', L, I, e, k⟩ := q.2
  simp only at e
  split at e
  · cases e
    obtain ⟨v, v', rfl, rv, rv'⟩ := rps2 rs
    exact ⟨v, v', rfl, k W1 H1 (Le.refl _ _) I _ ((L.set rv).set rv')⟩
  · cases e
theorem ds_setLc {i : Nat} {y : Str} {py spos : Pos} {elt iter : Expr} {ifs : List Expr} {scope : Scope} (t : Tgt) (own : List (Str × Nat)) {tg : Expr} {ti : IDen} {tt : TDen} {te : EDen} (hc : X.calm = true) (hN : X.N.Nodup) (hs : ∀ i ∈ t.slots, i ∈ own.map (·.2)) (hi : PI X tg iter (tI X.K E ti)) (ok : BlkOk X.N X.env.scope scope own)
    (hg : ∀ (s : Shared) (H : Hp) (C : Addr) (cl : List (Str × Addr)) (fp : List Addr), PG (X.blk s H scope (compEnvC scope cl C X.env) fp) tg (t.g X.K))
    (ht : ∀ (s : Shared) (H : Hp) (C : Addr) (cl : List (Str × Addr)) (fp : List Addr), PTs (X.blk s H scope (compEnvC scope cl C X.env) fp) ifs (tTD X.K E0 tt))
    (he : ∀ (s : Shared) (H : Hp) (C : Addr) (cl : List (Str × Addr)) (fp : List Addr), PE (X.blk s H scope (compEnvC scope cl C X.env) fp) elt (tD X.K E0 te)) (hy : X.N[i]? = some y := by rfl) (hyl : X.env.scope.names.lookup y = some .local := by rfl)
    (hsw : swapsWith (.ListComp elt [⟨tg, iter, ifs, 0⟩] scope pos) (some (.Name y py)) spos.line X.env = pure true := by exact sw_true rfl rfl rfl (by decide +kernel)) (hf : ∀ x, foldedSetIterable iter X.env x = pure x := by intro _; rfl) :
    PS X (.Assign [.Name y py] (.ListComp elt [⟨tg, iter, ifs, 0⟩] scope pos) spos) (tSD X.K E (asP (.one i) (lcP ti t tt te (own.map (·.2))))) := by
  refine imS (ps_setLc hc hN hy hyl hsw hi ok hg ht he hf) fun D σ H h => ?_
  obtain ⟨W, st, h⟩ := h
  refine tD_lc (X := X) (E := E) hs ⟨W, st, h.seq.mono fun d st1 W1 H1 e1 i1 q v rv => ?_⟩
  obtain ⟨Δ, r, st', L, I, e, k⟩ := q.2
  cases e
  exact k W1 H1 (Le.refl _ _) I _ (L.set rv)

/-! ### sep.join(a list of texts) -/
def joinF : D → D → Option D
  | .str a, .lst ds => (strsD ds).bind fun ys => if (ys.map (·.length)).sum + ys.length * a.length ≤ big then some (.str (Txt.join a ys)) else none
  | .str a, .tup ds => (strsD ds).bind fun ys => if (ys.map (·.length)).sum + ys.length * a.length ≤ big then some (.str (Txt.join a ys)) else none
  | _, _ => none
theorem de_join {apos : Pos} (ha : PE X a (tD X.K E ta)) (hb : PE X b (tD X.K E tb)) (hs : starEach [b] X.env = [(false, eval b X.env)] := by rfl) (hbase : attributeBase a "join" X.env (eval a X.env) = eval a X.env := by rfl) (hline : (apos.endLine == pos.line) = true := by rfl)
    (hstr : ∀ Δ st d st1, ta Δ st = some (.ok d, st1) → ∃ z, d = .str z) :
    PE X (.Call (.Attribute a "join" apos) [b] [] pos) (tD X.K E (binP joinF ta tb)) := by
  refine imE (pe_join ha hb hs hbase hline) fun σ H Q h => ?_
  obtain ⟨W, st, Δ0, r0, st0, L0, I0, e0, k0⟩ := h
  have h : tGw X.K W st E (binP joinF ta tb) σ H _ := ⟨Δ0, r0, st0, L0, I0, e0, k0⟩
  refine ⟨W, st, ?_⟩
  have h2 := h.seq
  obtain ⟨Δ, r, st', L, I, e, k⟩ := h2
  refine ⟨Δ, r, st', L, I, e, ?_⟩
  cases r with
  | error x => exact k
  | ok d =>
    intro W1 H1 e1 i1 v rv
    obtain ⟨z, rfl⟩ := hstr Δ st d st' e
    cases rv
    refine ⟨⟨z, rfl⟩, W1, st', (k W1 H1 e1 i1).2.seq.mono fun y st2 W2 H2 e2 i2 q2 u ru => ?_⟩
    obtain ⟨Δ', d', L', I', hf, k'⟩ := q2.2.val (m := fun _ => joinF (.str z) y)
    have key : ∀ {ds : List D} {xs : List V} {p : Addr}, Rps X.K W2 H2 xs ds → (SqL X.K H2 p xs ∨ SqT X.K H2 p xs) → u = .ref p → ((strsD ds).bind fun ys => if (ys.map (·.length)).sum + ys.length * z.length ≤ big then some (D.str (Txt.join z ys)) else none) = some d' →
        ∃ a p, ∃ ys : List Str, V.str z = .str a ∧ [u] = [.ref p] ∧ (SqL X.K H2 p (ys.map V.str) ∨ SqT X.K H2 p (ys.map V.str)) ∧ (ys.map (·.length)).sum + ys.length * a.length ≤ 16777216 ∧ Q (.str (Txt.join a ys)) H2 := fun {ds xs p} rs hq hu hd => by
      cases e3 : strsD ds with
      | none => rw [e3] at hd; cases hd
      | some ys =>
        rw [e3] at hd
        simp only [Option.bind] at hd
        split at hd
        · rename_i hb
          cases hd
          rw [strsD_of e3] at rs
          rw [rs.strs] at hq
          exact ⟨z, p, ys, rfl, by rw [hu], hq, Nat.le_trans hb (by decide), k' W2 H2 (Le.refl _ _) I' _ (.str _)⟩
        · cases hd
    unfold joinF at hf
    cases ru with
    | lst n s r => exact key r (.inl (sq_l s)) rfl hf
    | tup s r => exact key r (.inr (sq_t s)) rfl hf
    | _ => cases hf
end
end Dn

set_option Elab.async false
set_option linter.all false
set_option maxRecDepth 100000
set_option maxHeartbeats 4000000
namespace Dn
open PySem PySem.Spec PyProof.Rows L2
/-! ### what a law draws from: a list of five, changed by its places -/
def BagSt.item (s : BagSt) : Int → Option D
  | 0 => some (.lst (s.cells.map .int))
  | 1 => some (.int s.at_)
  | 2 => some (.int s.rest)
  | 3 => some (.int s.seed)
  | 4 => some (.int s.cnt)
  | _ => none
def BagSt.put (s : BagSt) : Int → D → Option BagSt
  | 1, .int n => if 0 ≤ n then some { s with at_ := n.toNat } else none
  | 2, .int n => some { s with rest := n }
  | 3, .int n => some { s with seed := n }
  | 4, .int n => some { s with cnt := n }
  | _, _ => none
def isBag (Δ : Dl) (i : Nat) : Bool := match Δ[i]? with | some (some (.hnd 0)) => true | _ => false
def bagIx (i : Nat) (k : Int) : EDen := fun Δ st => if isBag Δ i = true then (st.bag.bind fun s => s.item k).map fun d => (.ok d, st) else none
def bagSet (i : Nat) (k : Int) (te : EDen) : SDen := fun Δ st => bd (te Δ st) fun d st1 =>
  if isBag Δ i = true then (st1.bag.bind fun s => s.put k d).map fun s' => (.ok (.nx Δ), { st1 with bag := some s' }) else none
section
variable {K : PySem.W.Frag} {W : Wd} {H : Hp} {σ : L2.St} {Δ : Dl} {i : Nat}
theorem isBag_at (L : LocD K W H σ Δ) (h : isBag Δ i = true) : ∃ a, σ[i]? = some (some (.ref a)) ∧ W.h 0 = some a := by
  unfold isBag at h
  split at h
  · rename_i q
    obtain ⟨v, h1, h2⟩ := L.2 i _ q
    cases h2 with
    | hnd n e => exact ⟨_, h1, e⟩
  · cases h
end
section
variable {X : Cx} {E : XK} {e : Expr} {te : EDen} {i : Nat} {x : Str} {px p pos pos' : Pos} {j : Nat}
theorem bag_k {k : Int} {s : BagSt} {d : D} (h : s.item k = some d) : k = 0 ∨ k = 1 ∨ k = 2 ∨ k = 3 ∨ k = 4 := by
  unfold BagSt.item at h
  split at h <;> simp_all
theorem de_bagIx (k : Int) (hN : X.N[i]? = some x := by rfl) (hv : Vis X.env.scope x := by first | exact Or.inl rfl | exact Or.inr (Or.inl rfl) | exact Or.inr (Or.inr rfl)) (hd : (x == ("__debug__" : Str)) = false := by decide)
    (hcd : (x == ("__classdict__" : Str)) = false := by decide) : PE X (.Subscript (.Name x px) (.Constant (.int k) j p) pos) (tD X.K E (bagIx i k)) := by
  refine imE (pe_ix ix_list (pe_var hN hv hd hcd) pe_int (fun _ _ => rfl)) fun σ H Q h => ?_
  obtain ⟨W, st, Δ, r, st', L, I, e, w⟩ := h
  unfold bagIx at e
  split at e
  · rename_i hb
    obtain ⟨b, h1, h2⟩ := isBag_at L hb
    cases hs : st.bag with
    | none => rw [hs] at e; cases e
    | some s =>
      rw [hs] at e
      simp only [Option.bind] at e
      cases hi : s.item k with
      | none => rw [hi] at e; cases e
      | some d =>
        rw [hi] at e
        cases e
        obtain ⟨b', g1, gM, l, g2, g3, g4⟩ := I.bag s hs
        rw [h2] at g1
        cases g1
        have key : ∀ v, atI [V.ref l, .int s.at_, .int s.rest, .int s.seed, .int s.cnt] k = some v → Rp X.K W H v d → tOp (rIxL X.K) (tVar i) (tC (.int k)) σ H Q := fun v a r => ⟨.ref b, h1, b, _, k, v, rfl, rfl, sq_l g4, a, w W H (Le.refl _ _) I v r⟩
        rcases bag_k hi with rfl | rfl | rfl | rfl | rfl <;> simp only [BagSt.item] at hi <;> cases hi
        · exact key (.ref l) rfl (.lst g2 g3 (Rps.of_ints _))
        · exact key _ rfl (.int _)
        · exact key _ rfl (.int _)
        · exact key _ rfl (.int _)
        · exact key _ rfl (.int _)
  · cases e
theorem bag_put {s s' : BagSt} {k : Int} {d : D} (h : s.put k d = some s') : ∃ n j : Int, d = .int n ∧ ixN 5 k = some j.toNat ∧ (∀ l : Addr, [V.ref l, .int s.at_, .int s.rest, .int s.seed, .int s.cnt].set j.toNat (.int n) = [V.ref l, .int s'.at_, .int s'.rest, .int s'.seed, .int s'.cnt]) ∧ s'.cells = s.cells := by
  unfold BagSt.put at h
  split at h
  · split at h
    · rename_i n hn
      cases h
      refine ⟨n, 1, rfl, rfl, fun l => ?_, rfl⟩
      show [V.ref l, .int n, .int s.rest, .int s.seed, .int s.cnt] = [V.ref l, .int ((n.toNat : Nat) : Int), .int s.rest, .int s.seed, .int s.cnt]
      rw [Int.toNat_of_nonneg hn]
    · cases h
  · cases h; exact ⟨_, 2, rfl, rfl, fun l => rfl, rfl⟩
  · cases h; exact ⟨_, 3, rfl, rfl, fun l => rfl, rfl⟩
  · cases h; exact ⟨_, 4, rfl, rfl, fun l => rfl, rfl⟩
  · cases h
/-- the state's own list changes -/
theorem Holds.bagUpd {K : PySem.W.Frag} {W : Wd} {H : Hp} {st : Sta} {b l : Addr} {s' : BagSt} (I : Holds K W H st) (hb : W.h 0 = some b) (hM : W.M b) (hl : ¬ W.N l) (g3 : H l = some (.lst (s'.cells.map V.int))) : Holds K W (upd H b (.lst [.ref l, .int s'.at_, .int s'.rest, .int s'.seed, .int s'.cnt])) { st with bag := some s' } := by
  have hN := W.sub _ hM
  have th : ∀ a, H a ≠ none → upd H b (.lst [.ref l, .int s'.at_, .int s'.rest, .int s'.seed, .int s'.cnt]) a ≠ none := fun a h z => by
    by_cases hp : a = b
    · subst hp; rw [upd_same] at z; cases z
    · rw [upd_ne hp] at z
      exact h z
  refine ⟨fun a n => th a (I.there a n), I.inj, fun n a h => th a (I.hdl n a h), (fun z => nomatch z), fun s h => ?_, fun a ns h => ?_, fun n c h => ?_⟩
  · cases h
    exact ⟨b, hb, hM, l, hl, by rw [upd_ne (fun e => hl (by rw [e]; exact hN))]; exact g3, upd_same⟩
  · rcases I.scr a ns h with ⟨h2, h3⟩ | h3
    · have hp : a ≠ b := fun e => h2 (by rw [e]; exact hN)
      refine .inl ⟨h2, ?_⟩
      rcases h3 with q | ⟨u, q⟩
      · exact .inl (by rw [upd_ne hp]; exact q)
      · exact .inr ⟨u, by rw [upd_ne hp]; exact q⟩
    · exact .inr h3
  · obtain ⟨h0, p, h1, h2, h3⟩ := I.own n c h
    have hp : p ≠ b := fun e => h0 (I.inj n 0 b (by rw [← e]; exact h1) hb)
    exact ⟨h0, p, h1, h2, h3.tow (lw_upd hN) (upd_ne hp)⟩
theorem ds_bagSet (k : Int) (he : PE X e (tD X.K E te)) (hN : X.N[i]? = some x := by rfl) (hv : Vis X.env.scope x := by first | exact Or.inl rfl | exact Or.inr (Or.inl rfl) | exact Or.inr (Or.inr rfl)) (hd : (x == ("__debug__" : Str)) = false := by decide)
    (hcd : (x == ("__classdict__" : Str)) = false := by decide) (hs : swapsWithSole [.Subscript (.Name x px) (.Constant (.int k) j p) pos'] e pos.line X.env = pure false := by rfl) (hw : swappedStores [.Subscript (.Name x px) (.Constant (.int k) j p) pos'] e X.env = pure none := by rfl)
    (h1 : List.map (fun x => x.snd) (assignEach [.Subscript (.Name x px) (.Constant (.int k) j p) pos'] X.env) = [assign (.Subscript (.Name x px) (.Constant (.int k) j p) pos') X.env] := by rfl) :
    PS X (.Assign [.Subscript (.Name x px) (.Constant (.int k) j p) pos'] e pos) (tSD X.K E (bagSet i k te)) := by
  refine imS (ps_asg he (pg_sub (pe_var hN hv hd hcd) pe_int set_list) hs hw h1) fun D σ H h => ?_
  obtain ⟨W, st, h⟩ := h
  obtain ⟨Δ0, r0, st0, L0, I0, e0, w0⟩ := id h
  refine ⟨W, st, ?_⟩
  have h2 := h.seq
  obtain ⟨Δ1, r1, st1, L1, I1, e1, w1⟩ := h2
  refine ⟨Δ1, r1, st1, L1, I1, e1, ?_⟩
  cases r1 with
  | error x => exact w1
  | ok d =>
    intro W1 H1 le1 i1 v rv
    obtain ⟨Δ, r, st', L, I, e, k'⟩ := (w1 W1 H1 le1 i1).2
    simp only at e
    split at e
    · rename_i hb
      obtain ⟨b, q1, q2⟩ := isBag_at L hb
      cases hsb : st1.bag with
      | none => rw [hsb] at e; cases e
      | some s =>
        rw [hsb] at e
        simp only [Option.bind] at e
        cases hi : s.put k d with
        | none => rw [hi] at e; cases e
        | some s' =>
          rw [hi] at e
          cases e
          obtain ⟨b', g1, gM, l, g2, g3, g4⟩ := I.bag s hsb
          rw [q2] at g1
          cases g1
          obtain ⟨n, j', rfl, hix, hset, hcells⟩ := bag_put hi
          cases rv
          have J := I.bagUpd (s' := s') q2 gM g2 (by rw [hcells]; exact g3)
          refine ⟨.ref b, q1, b, _, k, j'.toNat, rfl, rfl, g4, hix, ?_⟩
          rw [hset l]
          have le2 : Le W1 H1 W1 (upd H1 b (.lst [.ref l, .int s'.at_, .int s'.rest, .int s'.seed, .int s'.cnt])) := ⟨fun a o n h => by rw [upd_ne (fun z => n (by rw [z]; exact gM))]; exact h, fun _ h => .inl h, fun _ h => .inl h, fun _ h => h, fun _ _ h => h⟩
          exact k' W1 _ le2 J σ (L.to le2)
    · cases e
end
end Dn

set_option Elab.async false
set_option linter.all false
set_option maxRecDepth 100000
set_option maxHeartbeats 4000000
namespace Dn
open PySem PySem.Spec PyProof.Rows L2 PySem.Froz
/-! ### sets of texts: what set(xs) holds, and sorted(set(xs)) -/
def putS (l : List Str) (x : Str) : List Str := if x ∈ l then l else x :: l
def metS (xs : List Str) : List Str := xs.foldl putS []
theorem putS_nd {l : List Str} {x : Str} (h : l.Nodup) : (putS l x).Nodup := by
  unfold putS
  split
  · exact h
  · exact List.nodup_cons.mpr ⟨by assumption, h⟩
theorem putS_mem {l : List Str} {x y : Str} : y ∈ putS l x ↔ y = x ∨ y ∈ l := by
  unfold putS
  split
  · rename_i c
    exact ⟨Or.inr, fun z => z.elim (fun e => e ▸ c) id⟩
  · exact List.mem_cons
theorem putS_len {l : List Str} {x : Str} : (putS l x).length ≤ l.length + 1 := by
  unfold putS
  split
  · exact Nat.le_succ _
  · exact Nat.le_refl _
theorem metS_take {xs : List Str} {i : Nat} {x : Str} (h : xs[i]? = some x) : metS (xs.take (i + 1)) = putS (metS (xs.take i)) x := by
  unfold metS
  rw [List.take_add_one, h, List.foldl_append] <;> rfl
theorem foldS_mem : ∀ (xs l : List Str) (y : Str), y ∈ xs.foldl putS l ↔ y ∈ xs ∨ y ∈ l
  | [], l, y => by simp
  | x :: xs, l, y => by
    rw [List.foldl_cons, foldS_mem xs, putS_mem, List.mem_cons]
    constructor
    · rintro (h | h | h)
      · exact .inl (.inr h)
      · exact .inl (.inl h)
      · exact .inr h
    · rintro ((h | h) | h)
      · exact .inr (.inl h)
      · exact .inl h
      · exact .inr (.inr h)
theorem foldS_nd : ∀ (xs l : List Str), l.Nodup → (xs.foldl putS l).Nodup
  | [], _, h => h
  | _ :: xs, _, h => foldS_nd xs _ (putS_nd h)
theorem foldS_len : ∀ (xs l : List Str), (xs.foldl putS l).length ≤ xs.length + l.length
  | [], _ => by simp
  | x :: xs, l => by
    have h1 := foldS_len xs (putS l x)
    have h2 := putS_len (l := l) (x := x)
    rw [List.foldl_cons, List.length_cons]
    omega
theorem metS_mem {xs : List Str} {y : Str} : y ∈ metS xs ↔ y ∈ xs := by
  unfold metS
  rw [foldS_mem] <;> simp
theorem metS_nd (xs : List Str) : (metS xs).Nodup := foldS_nd xs [] .nil
theorem metS_len (xs : List Str) : (metS xs).length ≤ xs.length := foldS_len xs []

structure TxAt (P : Program) (w : World) (h : Heap) (a : Addr) (D : SD) (l : List Str) : Prop where
  ob : h.get? a = some (sObj "set" D)
  ok : TxOk P w D l
  nd : l.Nodup
  up : Ris D.2.2.place.toList
  led : w.params.followText "set-order" = true ∨ D.2.2.led = true
theorem tail_tab {ep : Nat} {es : Array (Int × Value)} {t : SetTable} {b : Bool} (r : Ris t.place.toList) : Ris (tailTx ep es t b).2.2.place.toList ∧ (tailTx ep es t b).2.2.led = t.led := by
  unfold tailTx
  split
  · exact ⟨relayAll_ris t es _, relayAll_led t es _⟩
  · exact ⟨r, rfl⟩
theorem add_tab {D : SD} {n : Int} {v : Value} (r : Ris D.2.2.place.toList) : Ris (addTx n v D).2.2.place.toList ∧ (addTx n v D).2.2.led = D.2.2.led := by
  have h1 := layNew_ris D.2.2 D.1 n v r
  have h2 := layNew_led D.2.2 D.1 n v
  unfold addTx
  generalize layNew D.2.2 D.1 n v = Z at h1 h2 ⊢
  obtain ⟨e1, t1, b1, g1⟩ := Z
  dsimp only at h1 h2 ⊢
  have key : ∀ t : SetTable, Ris t.place.toList → t.led = D.2.2.led → Ris (tailTx D.2.1 e1 t b1).2.2.place.toList ∧ (tailTx D.2.1 e1 t b1).2.2.led = D.2.2.led := fun t r' q => by
    obtain ⟨x, y⟩ := tail_tab (ep := D.2.1) (es := e1) (b := b1) r'
    exact ⟨x, y.trans q⟩
  split
  · exact key _ h1 h2
  · exact key _ h1 h2

section
variable {P : Program} {w : World} {A : Around} {E : Value → Shared → Prop} {s : Shared} {a : Addr} {D : SD} {l : List Str}
theorem add_old {k : Str} {u : Tok} {Q : Bool → Shared → Prop} (T : TxAt P w s.heap a D l) (hk : k ∈ l) (hb : l.length < scanBound) (h : Q false s) : wpAny (model P w) A (setAddHashed a (.str k u) (hashStr w k)) Q E s := by
  obtain ⟨es, ep, t⟩ := D
  have ho := T.ob
  have dt : (sObj "set" (es, ep, t)).data = .set es ep t := rfl
  have fit : t.fits es.size = true := T.ok.fit
  have el : ElemsOf (PySem.strKind P w) es.toList := T.ok.el
  have few : es.size < scanBound := by
    have q : es.size = l.length := T.ok.sz
    omega
  have ik : (PySem.strKind P w).is k (.str k u) = true := is_str k u
  unfold setAddHashed setAddHashedIn
  refine wpAny_holding (wpAny_bind (wpAny_setState_of ho dt fit ?_))
  dsimp only
  rw [byScan_of rfl few el]
  simp only [↓reduceIte]
  unfold setAddByScan
  refine wpAny_bind (wpAny_bind (wpAny_rule (wpAny_bind (wpAny_setScan_of (knd := PySem.strKind P w) (k := k) ik ho dt fit el ?_))))
  cases f : List.findIdx? (fun e => (PySem.strKind P w).is k e.2) es.toList with
  | none =>
    obtain ⟨e, he, q⟩ := (T.ok.mem k).mp hk
    have c := List.findIdx?_eq_none_iff.mp f e he
    rw [q] at c
    cases c
  | some j =>
    dsimp only
    exact wpAny_pure (wpAny_pure h)
theorem add_any {k : Str} {u : Tok} {Q : Bool → Shared → Prop} (T : TxAt P w s.heap a D l) (hb : l.length + 1 < scanBound)
    (h : ∀ b h' D', Heap.SameBut a s.heap h' → TxAt P w h' a D' (putS l k) → Q b { s with heap := h' }) : wpAny (model P w) A (setAddHashed a (.str k u) (hashStr w k)) Q E s := by
  rcases Classical.em (k ∈ l) with c | c
  · refine add_old T c (by omega) ?_
    have e : putS l k = l := if_pos c
    exact h false s.heap D (Heap.SameBut.refl a s.heap) (by rw [e]; exact T)
  · refine add_x T.ob T.ok c hb ?_
    have e : putS l k = k :: l := if_neg c
    have r := add_tab (n := hashStr w k) (v := .str k u) T.up
    refine h true _ (addTx (hashStr w k) (.str k u) D) (Heap.SameBut.update s.heap a _) (by rw [e]; exact ⟨get_upd _ T.ob rfl, add_ok u T.ok, List.nodup_cons.mpr ⟨c, T.nd⟩, r.1, T.led.imp id fun z => r.2.trans z⟩)
theorem TxAt.keep {h h' : Heap} (T : TxAt P w h a D l) (k : ∀ o, h.get? a = some o → h'.get? a = some o) : TxAt P w h' a D l := ⟨k _ T.ob, T.ok, T.nd, T.up, T.led⟩
theorem txt_new {h : Heap} (ho : h.get? a = some (sObj "set" (#[], 0, .fresh 0 0 (!w.params.followText "set-order")))) : TxAt P w h a (#[], 0, .fresh 0 0 (!w.params.followText "set-order")) [] where
  ob := ho
  ok := TxOk.nil rfl
  nd := .nil
  up := List.Pairwise.nil
  led := by
    show _ ∨ (!w.params.followText "set-order") = true
    cases w.params.followText "set-order"
    · exact .inr rfl
    · exact .inl rfl

/-- one pass of set.update over what is walked -/
theorem txt_loop {I : Addr} {fp wr : List Addr} {G : Array GenState → Array GenState → Prop} {n : Nat} {Pv : Nat → Value → Prop} {St : Nat → Shared → Prop} {R : Result → Shared → Prop} (W : WalksS P w A.in1 I fp wr G n Pv St) (S : Addr) (out : S ∉ fp)
    (xs : List Str) (hn : n = xs.length) (few : xs.length + 1 < scanBound) (each : ∀ i v, Pv i v → ∃ x t, xs[i]? = some x ∧ v = .str x t) : ∀ (m i : Nat) (s : Shared), n - i = m → i ≤ n → St i s → (∃ D, TxAt P w s.heap S D (metS (xs.take i))) →
      (∀ s' D, Moved (S :: wr) G s s' → TxAt P w s'.heap S D (metS xs) → R (.ok (.ret .none)) s') → codeAny (model P w) A (.builtin "set.update.loop" ⟨[.ref S, .ref I], []⟩) R s := by
  have notW : S ∉ wr := fun z => out (W.sub _ z)
  have wide : ∀ b ∈ wr, b ∈ S :: wr := fun b hb => List.mem_cons_of_mem _ hb
  intro m
  induction m with
  | zero =>
    intro i s em hi st ⟨D, T⟩ fin
    obtain rfl : i = n := by omega
    refine codeAny_builtin PyProof.Rows.F.entry_set_update_loop ?_
    rw [Around.under_plainId PyProof.Rows.F.plain_set_update_loop _]
    show wpAny _ A.in1 (pyNext (.ref I) >>= _) _ _ s
    refine wpAny_bind (W.done s _ _ st fun s1 mv => wpAny_pure (fin s1 D (mv.mono wide) ?_))
    rw [List.take_of_length_le (Nat.le_of_eq hn.symm)] at T
    exact T.keep fun o e => mv.heap S o notW e
  | succ m ih =>
    intro i s em hi st ⟨D, T⟩ fin
    have lt : i < n := by omega
    refine codeAny_builtin PyProof.Rows.F.entry_set_update_loop ?_
    rw [Around.under_plainId PyProof.Rows.F.plain_set_update_loop _]
    show wpAny _ A.in1 (pyNext (.ref I) >>= _) _ _ s
    refine wpAny_bind (W.item i s _ _ lt st fun v s1 pv st1 mv => ?_)
    obtain ⟨x, t, hx, rfl⟩ := each i v pv
    have T1 : TxAt P w s1.heap S D (metS (xs.take i)) := T.keep fun o e => mv.heap S o notW e
    show wpAny _ A.in1 (holding [Value.str x t] (setAdd S (.str x t)) >>= _) _ _ s1
    refine wpAny_bind (wpAny_holding ?_)
    unfold setAdd
    refine wpAny_holding (wpAny_bind ((PySem.strKind P w).pyHash (is_str x t) ?_))
    refine add_any (s := { s1 with toks := s1.toks + 1 }) T1 ?_ fun b h2 D2 sb T2 => ?_
    · have := metS_len (xs.take i)
      have q := List.length_take_le i xs
      omega
    · refine wpAny_pure ⟨plainId_quiet PyProof.Rows.F.plain_set_update_loop _, ih (i + 1) _ (by omega) lt (W.frame _ s1 _ _ st1 (Nat.le_succ _) fun b hb o e => ?_) ⟨D2, ?_⟩ fun s3 D3 mv3 T3 => ?_⟩
      · exact (sb.2 b fun z => out (z ▸ hb)).trans e
      · rw [metS_take hx]
        exact T2
      · refine fin s3 D3 (Moved.trans W.gtrans ((mv.mono wide).then_heap (Nat.le_succ _) fun b o hb e => ?_) mv3) T3
        exact (sb.2 b fun z => hb (z ▸ List.mem_cons_self)).trans e

abbrev noTxt (w : World) : Obj := { cls := .type "set", dict := none, data := .set #[] 0 (.fresh 0 0 (!w.params.followText "set-order")) }
def RowAt (T : String) (h : Heap) (l : Addr) (its : Array Value) : Prop := ∃ o, h.get? l = some o ∧ o.cls = .type T ∧ ∃ n, o.data = .seq its n
/-- what is walked: a tuple or a list -/
structure RowOf (P : Program) (w : World) (T U : String) (l : Addr) (its : Array Value) (St : Addr → Nat → Heap → Prop) : Prop where
  noSet : isSubtype (.type T) (.type "set") = pure false
  noFroz : isSubtype (.type T) (.type "frozenset") = pure false
  noDict : (Value.type T == Value.type "dict") = false
  iter : ∀ (A : Around) (E : Value → Shared → Prop) (s : Shared) (Q : Value → Shared → Prop), RowAt T s.heap l its →
    Q (.ref s.heap.objs.size) { s with heap := s.heap.push { cls := .type U, data := .fields #[.ref l, .int 0 0] } } → wpAny (model P w) A (pyIter (.ref l)) Q E s
  walk : ∀ (A : Around) (I : Addr), A.handled = none → l ≠ I → Walks P w A I [I, l] [I] its.size (fun i v => its[i]? = some v) (St I)
  start : ∀ h : Heap, RowAt T h l its → St h.objs.size 0 (h.push { cls := .type U, data := .fields #[.ref l, .int 0 0] })
theorem row_tup (l : Addr) (its : Array Value) : RowOf P w "tuple" "tuple_iterator" l its (fun I i h => h.IsTupleIter I l i ∧ h.IsTuple l its) where
  noSet := PySem.F.sub_tuple_set
  noFroz := PySem.F.sub_tuple_frozenset
  noDict := by decide
  iter := fun _ _ _ _ x y => wpAny_pyIter_tuple x y
  walk := fun _ I x y => Walks.tuple x I l y its
  start := fun h x => ⟨⟨_, Heap.get?_push_size _ rfl, rfl, rfl⟩, Heap.IsTuple.push (h := h) x _⟩
theorem row_lst (l : Addr) (its : Array Value) : RowOf P w "list" "list_iterator" l its (fun I i h => h.IsListIter I l i ∧ h.IsList l its) where
  noSet := PySem.F.sub_list_set
  noFroz := PySem.F.sub_list_frozenset
  noDict := by decide
  iter := fun _ _ _ _ x y => wpAny_pyIter_list x y
  walk := fun _ I x y => Walks.list x I l y its
  start := fun h x => ⟨⟨_, Heap.get?_push_size _ rfl, rfl, rfl⟩, Heap.IsList.push (h := h) x _⟩
/-- set(xs), xs a tuple or list of texts -/
theorem call_setTxt {T U : String} {l : Addr} {its : Array Value} {St : Addr → Nat → Heap → Prop} (Rw : RowOf P w T U l its St) (xs : List Str) {Q : Value → Shared → Prop} (hh : A.handled = none) (hl : RowAt T s.heap l its)
    (hi : StrsAre its.toList xs) (few : xs.length + 1 < scanBound)
    (h : ∀ (h' : Heap) (tk : Nat) D, TxAt P w h' s.heap.objs.size D (metS xs) → (∀ b o, s.heap.get? b = some o → h'.get? b = some o) → Q (.ref s.heap.objs.size) { s with heap := h', toks := tk }) :
    wpAny (model P w) A (call (.type "set") [.ref l]) Q E s := by
  have size : its.size = xs.length := by rw [← Array.length_toList, StrsAre.len_eq hi]
  obtain ⟨c, tl, hmro⟩ := PySem.F.called_set.mro
  have f1 := PySem.F.called_set.made
  have f2 := PySem.F.called_set.sub
  have f3 := PySem.F.called_set.notType
  have f4 := PySem.F.called_set.canCreate
  have f5 := PySem.F.typeCall_set_1 (.ref l)
  refine wpAny_call (codeAny_of_tree ?_)
  show wpAny _ _ (callAny (.type "set") _) _ _ _
  refine wpAny_pure ⟨Code.quiet_builtin _ (by decide +kernel), codeAny_builtin PySem.F.entry_type_call ?_⟩
  rw [Around.under_plain (weight_type_call_type "set" [.ref l] []) rfl]
  repeat (any_goals (first | assumption | wp_step))
  refine codeAny_mono (code_set_led1 (.ref l) (E := E) (Q₁ := fun v s1 => v = .ref s.heap.objs.size ∧ s1 = { s with heap := s.heap.push (noTxt w) }) ⟨rfl, rfl⟩) fun r s1 hr => ?_
  cases r with
  | error e => exact hr
  | ok fl =>
    cases fl with
    | ret v =>
      obtain ⟨rfl, rfl⟩ := hr
      have new : (s.heap.push (noTxt w)).get? s.heap.objs.size = some (noTxt w) := Heap.get?_push_size _ rfl
      have ty : Shared.TypeIs { s with heap := s.heap.push (noTxt w) } (.ref s.heap.objs.size) "set" := ⟨_, new, rfl⟩
      have f6 := PySem.F.called_set.init.lookup
      have f7 := PySem.F.called_set.init.bind (.ref s.heap.objs.size)
      repeat (any_goals (first | assumption | wp_step))
      refine codeAny_mono (codeAny_call_builtin (R := wants (fun r s2 => r = .none ∧ ∃ h' tk D, s2 = { s with heap := h', toks := tk } ∧ TxAt P w h' s.heap.objs.size D (metS xs) ∧ (∀ b o, s.heap.get? b = some o → h'.get? b = some o)) E)
        PySem.F.called_set.init.plain PySem.F.entry_set_init (check_set_init_1 ty ?_)) fun r s2 hr => ?_
      · have hl' : RowAt T (s.heap.push (noTxt w)) l its := by
          obtain ⟨o, a1, a2, a3⟩ := hl
          exact ⟨o, Heap.get?_push_of_some _ a1, a2, a3⟩
        obtain ⟨⟨oc, od, odt, osl⟩, at0, cl, n, dt⟩ := id hl
        simp only at cl dt
        subst cl
        subst dt
        have at1 : (s.heap.push (noTxt w)).get? l = some { cls := .type T, dict := od, data := .seq its n, slots := osl } := Heap.get?_push_of_some _ at0
        have f8 := Rw.noSet
        have f9 := Rw.noFroz
        have f0 := Rw.noDict
        unfold Builtin.«set.__init__» noKeywords Builtin.Frozenset.updateFrom
        generalize hPI : pyIter = PI
        wp_walk
        subst hPI
        refine Rw.iter _ _ _ _ hl' ?_
        refine wpAny_bind (wpAny_runValue ?_)
        have below : l < s.heap.objs.size := Heap.lt_size at0
        have sz : (s.heap.push (noTxt w)).objs.size = s.heap.objs.size + 1 := Heap.size_push ..
        have calm : A.in1.in1.in1.handled = none := by simp [hh]
        have ne1 : l ≠ (s.heap.push (noTxt w)).objs.size := by rw [sz]; exact Nat.ne_of_lt (Nat.lt_succ_of_lt below)
        have ne2 : s.heap.objs.size ≠ (s.heap.push (noTxt w)).objs.size := by rw [sz]; exact Nat.ne_of_lt (Nat.lt_succ_self _)
        have ne3 : s.heap.objs.size ∉ [(s.heap.push (noTxt w)).objs.size, l] := fun z => by
          rcases List.mem_cons.mp z with z | z
          · exact ne2 z
          · exact Nat.ne_of_gt below (List.mem_singleton.mp z)
        refine txt_loop ((Rw.walk _ (s.heap.push (noTxt w)).objs.size calm ne1).toS) s.heap.objs.size ne3 xs size few (fun i v hv => ?_)
          (its.size - 0) 0 _ rfl (Nat.zero_le _) (Rw.start _ hl') ⟨_, txt_new (Heap.get?_push_of_some _ new)⟩ fun s2 D mv Tx => ?_
        · have iv : its.toList[i]? = some v := by rw [Array.getElem?_toList]; exact hv
          obtain ⟨t, e⟩ := SS.strs_at hi i v iv
          have ib : i < xs.length := by rw [← size]; exact (Array.getElem?_eq_some_iff.mp hv).1
          exact ⟨xs[i], t, List.getElem?_eq_getElem ib, by rw [e, List.getD_eq_getElem?_getD, List.getElem?_eq_getElem ib] <;> rfl⟩
        · obtain ⟨h2, g2, d2, k2, o2⟩ := s2
          obtain rfl : g2 = s.gens := mv.gens
          obtain rfl : d2 = s.drawn := mv.drawn
          obtain rfl : o2 = s.os := mv.os
          show wpAny _ _ _ _ _ _
          refine wpAny_pure ?_
          show wpAny _ _ (ret Value.none) _ _ _
          refine wpAny_pure ⟨rfl, h2, k2, D, rfl, Tx, fun b o e => mv.heap b o ?_ (Heap.get?_push_of_some _ (Heap.get?_push_of_some _ e))⟩
          have hb := Heap.lt_size e
          intro z
          rcases List.mem_cons.mp z with z | z
          · exact Nat.ne_of_lt hb z
          · rw [List.mem_singleton, sz] at z
            exact Nat.ne_of_lt (Nat.lt_succ_of_lt hb) z
      · cases r with
        | error e => exact hr
        | ok fl =>
          cases fl with
          | ret v =>
            obtain ⟨rfl, h2, k2, D, rfl, Tx, kp⟩ := hr
            repeat (any_goals (first | assumption | wp_step))
            exact h _ _ D Tx kp
          | _ => exact hr.elim
    | _ => exact hr.elim
end
end Dn

set_option Elab.async false
set_option linter.all false
set_option maxRecDepth 100000
set_option maxHeartbeats 4000000
namespace Dn
open PySem PySem.Spec PyProof.Rows L2 PySem.Froz
/-! ### texts in their order -/
def leS (a b : Str) : Prop := ¬ (b.cps.toList < a.cps.toList)
instance (a b : Str) : Decidable (leS a b) := inferInstanceAs (Decidable (¬ _))
theorem leS_trans {a b c : Str} (h1 : leS a b) (h2 : leS b c) : leS a c := List.le_trans (List.not_lt.mp h1) (List.not_lt.mp h2) |> List.not_lt.mpr
theorem str_ext {a b : Str} (h : a.cps.toList = b.cps.toList) : a = b := by
  cases a; cases b
  congr 1
  exact Array.toList_inj.mp h
theorem leS_anti {a b : Str} (h1 : leS a b) (h2 : leS b a) : a = b := str_ext (List.le_antisymm (List.not_lt.mp h1) (List.not_lt.mp h2))
theorem leS_total (a b : Str) : leS a b ∨ leS b a := by
  by_cases c : b.cps.toList < a.cps.toList
  · exact .inr (List.lt_asymm c)
  · exact .inl c
def insS (x : Str) : List Str → List Str
  | [] => [x]
  | y :: l => if leS x y then x :: y :: l else y :: insS x l
def srtS (l : List Str) : List Str := l.foldr insS []
theorem insS_perm (x : Str) : ∀ l : List Str, (insS x l).Perm (x :: l)
  | [] => .refl _
  | y :: l => by
    unfold insS
    split
    · exact .refl _
    · exact ((insS_perm x l).cons y).trans (List.Perm.swap x y l)
theorem insS_ord (x : Str) : ∀ l : List Str, l.Pairwise leS → (insS x l).Pairwise leS
  | [], _ => by unfold insS; exact List.pairwise_singleton _ _
  | y :: l, h => by
    obtain ⟨h1, h2⟩ := List.pairwise_cons.mp h
    unfold insS
    split
    · rename_i c
      refine List.pairwise_cons.mpr ⟨fun z hz => ?_, h⟩
      rcases List.mem_cons.mp hz with e | e
      · exact e ▸ c
      · exact leS_trans c (h1 z e)
    · rename_i c
      refine List.pairwise_cons.mpr ⟨fun z hz => ?_, insS_ord x l h2⟩
      rcases List.mem_cons.mp ((insS_perm x l).mem_iff.mp hz) with e | e
      · rw [e]; exact (leS_total x y).resolve_left c
      · exact h1 z e
theorem srtS_perm : ∀ l : List Str, (srtS l).Perm l
  | [] => .refl _
  | x :: l => (insS_perm x _).trans ((srtS_perm l).cons x)
theorem srtS_ord : ∀ l : List Str, (srtS l).Pairwise leS
  | [] => .nil
  | x :: l => insS_ord x _ (srtS_ord l)
theorem srtS_len (l : List Str) : (srtS l).length = l.length := (srtS_perm l).length_eq
theorem rising_ord : ∀ (l : List Str) (p : Str), risingS p l = true → (p :: l).Pairwise leS
  | [], p, _ => List.pairwise_singleton _ _
  | x :: l, p, h => by
    unfold risingS at h
    rw [Bool.and_eq_true, ltCps_eq] at h
    have o := rising_ord l x h.2
    have px : leS p x := by
      have := h.1
      unfold leS
      simpa using this
    refine List.pairwise_cons.mpr ⟨fun z hz => ?_, o⟩
    rcases List.mem_cons.mp hz with e | e
    · exact e ▸ px
    · exact leS_trans px ((List.pairwise_cons.mp o).1 z e)
theorem sorted_ord {l : List Str} (h : sortedS l = true) : l.Pairwise leS := by
  cases l with
  | nil => exact .nil
  | cons x r => exact rising_ord r x h
/-- one order only -/
theorem srtS_one {ys xs : List Str} (p : ys.Perm xs) (h : ys.Pairwise leS) : ys = srtS xs :=
  List.Perm.eq_of_pairwise (fun _ _ _ _ a b => leS_anti a b) h (srtS_ord xs) (p.trans (srtS_perm xs).symm)
theorem perm_of_sub {α : Type} : ∀ {l m : List α}, l.Nodup → (∀ x ∈ l, x ∈ m) → m.length ≤ l.length → l.Perm m
  | [], m, _, _, h => by
    cases m with
    | nil => exact .refl _
    | cons x m => simp at h
  | x :: l, m, nd, sub, h => by
    obtain ⟨n1, n2⟩ := List.nodup_cons.mp nd
    obtain ⟨a, b, rfl⟩ := List.append_of_mem (sub x List.mem_cons_self)
    refine ((perm_of_sub n2 (m := a ++ b) (fun y hy => ?_) ?_).cons x).trans List.perm_middle.symm
    · have q := sub y (List.mem_cons_of_mem _ hy)
      rw [List.mem_append, List.mem_cons] at q
      rw [List.mem_append]
      rcases q with q | q | q
      · exact .inl q
      · exact absurd (q ▸ hy) n1
      · exact .inr q
    · simp only [List.length_append, List.length_cons] at h ⊢
      omega

section
variable {P : Program} {w : World} {A : Around} {E : Value → Shared → Prop} {s : Shared} {a : Addr} {D : SD} {l : List Str}
theorem elem_str {es : List (Int × Value)} (el : ElemsOf (PySem.strKind P w) es) {e : Int × Value} (he : e ∈ es) : ∃ x t, e.2 = Value.str x t := by
  obtain ⟨⟨k, hk, _⟩, _⟩ := el e he
  have q : Value.isStrOf k e.2 = true := hk
  revert q
  cases e.2 <;> intro q <;> first | exact ⟨_, _, rfl⟩ | (simp [Value.isStrOf] at q)
/-- sorted(s) of a set of texts -/
theorem sorted_setTxt {Q : Value → Shared → Prop} (T : TxAt P w s.heap a D l) (hh : A.handled = none) (h64 : l.length < 64)
    (hQ : ∀ s' p (out : Array Value) (c : Nat) (ys : List Str), (∀ b o, s.heap.get? b = some o → s'.heap.get? b = some o) → s'.gens = s.gens → s'.os = s.os → s.heap.objs.size ≤ p → s'.heap.get? p = some (seqObj "list" out c) → StrsAre out.toList ys → ys = srtS l → Q (.ref p) s') :
    wpAny (model P w) A (call (.builtin "sorted") [.ref a]) Q E s := by
  obtain ⟨es, ep, t⟩ := D
  have sz : es.size = l.length := T.ok.sz
  have el : ElemsOf (PySem.strKind P w) es.toList := T.ok.el
  refine Calls.call_function_entry kind_sorted plain_sorted entry_sorted (args_sorted1 _) ?_
  unfold Builtin.«sorted»
  refine wpAny_bind (m := checkCount "sorted" 1 1 _) (wpAny_pure ?_)
  refine wpAny_bind (collect_set (A := A.in1) hh ⟨_, T.ob, rfl, rfl⟩ T.ok.fit (by show es.size < scanBound; unfold scanBound; omega) T.up T.led fun s1 vs k1 z1 g1 o1 pm => ?_)
  have vl : vs.length = l.length := by rw [pm.length_eq, List.length_map, Array.length_toList]; exact sz
  have each : ∀ v ∈ vs, ∃ x u, v = Value.str x u := fun v hv => by
    obtain ⟨e, he, q⟩ := List.mem_map.mp (pm.mem_iff.mp hv)
    obtain ⟨x, u, e2⟩ := elem_str el he
    exact ⟨x, u, by rw [← q, e2]⟩
  have sa : StrsAre vs (vs.map strOf) := strsAre_map vs each
  have pl : l.Perm (vs.map strOf) := perm_of_sub T.nd (fun k hk => by
    obtain ⟨e, he, q⟩ := (T.ok.mem k).mp hk
    refine List.mem_map.mpr ⟨e.2, pm.mem_iff.mpr (List.mem_map.mpr ⟨e, he, rfl⟩), ?_⟩
    obtain ⟨x, u, e2⟩ := elem_str el he
    have q' : Value.isStrOf k e.2 = true := q
    rw [e2] at q' ⊢
    have q2 : (x == k) = true := q'
    exact beq_iff_eq.mp q2) (by rw [List.length_map, vl] <;> exact Nat.le_refl _)
  refine wpAny_bind (wpAny_newList ?_ (by rw [vl, sizeLine_eq]; omega))
  have ob : (s1.heap.push (seqObj "list" vs.toArray 0)).get? s1.heap.objs.size = some (seqObj "list" vs.toArray 0) := Heap.get?_push_size _ rfl
  refine wpAny_bind (wpAny_holding (wpAny_call_entry slot_list_sort ⟨_, ob, rfl⟩ entry_list_sort (list_sort_treeK strKind_oneLt ob sa.keysOf (fun v1 v2 r e => keyKind_strs (by rw [← e]; exact sa)) (by rw [vl]; exact h64) fun st' a1 a2 => ⟨_, rfl, ?_⟩) (args_list_sort _)))
  obtain ⟨ys, y1, y2, y3⟩ := sorted_out_str sa a1 a2
  obtain ⟨c, at1⟩ := sortedHeap_at (vs := vs) (out := (arrOf st').map (·.2)) ob
  refine wpAny_pure ⟨_, rfl, hQ _ s1.heap.objs.size _ c ys (fun b u e => ?_) g1 o1 z1 at1 y1 (srtS_one (y2.trans pl.symm) (sorted_ord y3))⟩
  have e1 := k1 b u e
  have lt := Heap.lt_size e1
  refine (sortedHeap_old (Nat.ne_of_lt lt) (by rw [size_push']; exact Nat.lt_succ_of_lt lt)).trans (Heap.get?_push_of_some _ e1)
end

/-! ### sorted(xs), sorted(set(xs)) as data -/
def isortI (l : List Int) : List Int := l.foldr (fun x l => l.takeWhile (· < x) ++ x :: l.dropWhile (· < x)) []
def sortF : List D → Option D
  | [.lst ds] => (strsD ds).bind fun ss => if ss.length < 64 then some (.lst ((srtS ss).map .str)) else none
  | _ => none
section
variable {X : Cx}
theorem cr_sortD : CallR X (.builtin "sorted") (rCD X.K sortF) := by
  intro pins s σ H xs us Q I r h
  obtain ⟨W, st, ds, d, rs, iv, hf, k⟩ := h
  unfold sortF at hf
  split at hf
  · rename_i es
    cases q : strsD es with
    | none => rw [q] at hf; cases hf
    | some ss =>
      rw [q] at hf
      simp only [Option.bind] at hf
      split at hf
      · rename_i few
        cases hf
        obtain ⟨v, rfl, rv⟩ := rps1 rs
        cases rv with
        | lst n1 s1 q1 =>
          rw [strsD_of q] at q1
          rw [q1.strs] at s1
          exact cr_sortedS pins s σ H _ us Q I r ⟨_, ss, rfl, sq_l s1, few, fun ys p pm so np => by
            rw [srtS_one pm (sorted_ord so)]
            exact k _ _ (same_new np) (rp_lst iv np (Rps.of_strs _))⟩
      · cases hf
  · cases hf
/-- sorted(set(xs)) -/
def sosD : D → Option D
  | .lst ds => (strsD ds).bind fun ss => if ss.length < 64 then some (.lst ((srtS (metS ss)).map .str)) else none
  | .tup ds => (strsD ds).bind fun ss => if ss.length < 64 then some (.lst ((srtS (metS ss)).map .str)) else none
  | _ => none
def sosP (te : EDen) : EDen := fun Δ st => bd (te Δ st) fun d st1 => (sosD d).map fun r => (.ok r, st1)
theorem sosD_at {K : PySem.W.Frag} {W : Wd} {H : Hp} {v : V} {d r : D} (rv : Rp K W H v d) (h : sosD d = some r) : ∃ a ss, v = .ref a ∧ (SqL K H a (ss.map V.str) ∨ SqT K H a (ss.map V.str)) ∧ ss.length < 64 ∧ r = .lst ((srtS (metS ss)).map .str) := by
  have key : ∀ es, ((strsD es).bind fun ss => if ss.length < 64 then some (D.lst ((srtS (metS ss)).map .str)) else none) = some r → ∃ ss, strsD es = some ss ∧ ss.length < 64 ∧ r = .lst ((srtS (metS ss)).map .str) := fun es h => by
    cases q : strsD es with
    | none => rw [q] at h; cases h
    | some ss =>
      rw [q] at h
      simp only [Option.bind] at h
      split at h
      · cases h
        exact ⟨ss, rfl, by assumption, rfl⟩
      · cases h
  unfold sosD at h
  split at h
  · obtain ⟨ss, q, few, e⟩ := key _ h
    cases rv with
    | lst n1 s1 q1 =>
      rw [strsD_of q] at q1
      rw [q1.strs] at s1
      exact ⟨_, ss, rfl, .inl (sq_l s1), few, e⟩
  · obtain ⟨ss, q, few, e⟩ := key _ h
    cases rv with
    | tup s1 q1 =>
      rw [strsD_of q] at q1
      rw [q1.strs] at s1
      exact ⟨_, ss, rfl, .inr (sq_t s1), few, e⟩
  · cases h
variable {E : XK} {a : Expr} {te : EDen} {p p2 q pos : Pos}
theorem de_sos (hc : X.calm = true) (hm : X.mg "sorted" = none) (hm2 : X.mg "set" = none) (ha : PE X a (tD X.K E te)) (hg : Gl X "sorted" := by rfl) (hg2 : Gl X "set" := by rfl) (na : starEach [a] X.env = (false, eval a X.env) :: starEach [] X.env := by rfl) :
    PE X (.Call (.Name "sorted" p) [.Call (.Name "set" p2) [a] [] q] [] pos) (tD X.K E (sosP te)) := by
  refine ⟨fun pins s σ H Q I h => ?_⟩
  obtain ⟨W, st0, h⟩ := h
  have h1 : tD X.K E te σ H fun v H1 => ∃ W1 st1 d r, Rp X.K W1 H1 v d ∧ Holds X.K W1 H1 st1 ∧ sosD d = some r ∧ ∀ v' H', Same H1 H' → Rp X.K W1 H' v' r → Q v' H' := ⟨W, st0, h.seq.mono fun d st1 W1 H1 e1 i1 q v rv => by
    obtain ⟨Δ, r, L, I, e, k⟩ := q.2.val (m := fun _ => sosD d)
    exact ⟨W1, st1, d, r, rv, I, e, fun v' H' e' rp => k W1 H' (Le.of e') (I.same e') v' rp⟩⟩
  refine Call_ (ld_blt I hg hm boot_sorted ?_)
  refine PyProof.Rows.callWith_builtin1 (PyProof.Rows.args_cons ?_ rfl) rfl rfl
  refine Call_ (ld_blt I hg2 hm2 boot_set ?_)
  refine PyProof.Rows.callWith_type1 (PyProof.Rows.args_cons (thn (ha.run pins s σ H _ I h1) fun v s1 ⟨x, H1, I1, r1, q1⟩ => PyProof.Rows.args_nil ?_) na) na rfl
  obtain ⟨W1, st1, d, r, rv, iv, e, k⟩ := q1
  obtain ⟨l, ss, rfl, sq, few, rfl⟩ := sosD_at rv e
  cases r1
  have few2 : ss.length + 1 < scanBound := by unfold scanBound; omega
  have ml := metS_len ss
  have fin2 : ∀ (s2 : Shared) (a : Addr) D, Inv X pins σ H1 s2 → TxAt X.prog X.w s2.heap a D (metS ss) → wpAny (model X.prog X.w) X.A (call (.builtin "sorted") [Value.ref a]) (EP X pins σ Q) X.xe s2 := fun s2 a D I2 Tx => by
    refine sorted_setTxt (s := s2) Tx (I2.ok.hd hc) (by omega) fun s' p out c ys kp2 g o hp hg hsa ey => ?_
    subst ey
    have np : H1 p = none := I2.hok.fresh hp
    have len : ((srtS (metS ss)).map V.str).length ≤ sizeLine := by rw [List.length_map, srtS_len, sizeLine_eq]; omega
    have J : Inv X pins σ (upd H1 p (.lst ((srtS (metS ss)).map V.str))) { s2 with heap := s'.heap, gens := s'.gens, drawn := s'.drawn, toks := s'.toks } :=
      I2.call (ch := []) (Un.laid kp2 hp np) (I2.hok.laid kp2 hp ⟨len, out.toList, c, vals_of_strs hsa, hg⟩) (by rw [g]; exact I2.bare) (fun _ z => nomatch z)
    have es : s' = { s2 with heap := s'.heap, gens := s'.gens, drawn := s'.drawn, toks := s'.toks } := by
      cases s'
      cases s2
      cases o
      rfl
    rw [es]
    exact ⟨.ref p, _, J, rfl, k _ _ (same_new np) (rp_lst iv np (Rps.of_strs _))⟩
  have fin : ∀ (h' : Heap) (tk : Nat) D, TxAt X.prog X.w h' s1.heap.objs.size D (metS ss) → (∀ b o, s1.heap.get? b = some o → h'.get? b = some o) →
      wpAny (model X.prog X.w) X.A (call (.builtin "sorted") [Value.ref s1.heap.objs.size]) (EP X pins σ Q) X.xe { s1 with heap := h', toks := tk } := fun h' tk D Tx kp => fin2 _ _ D (I1.kept fun b o e => kp b o e) Tx
  rcases sq with sq | sq
  · obtain ⟨its, rr, pl, hz⟩ := I1.list sq
    exact call_setTxt (row_lst l its.toArray) ss (I1.ok.hd hc) pl.isList (by simpa using strsAre_of rr) few2 fun h' tk D Tx kp => PyProof.Rows.args_nil (fin h' tk D Tx kp)
  · obtain ⟨its, rr, pl, hz⟩ := I1.tuple sq
    exact call_setTxt (row_tup l its.toArray) ss (I1.ok.hd hc) pl (by simpa using strsAre_of rr) few2 fun h' tk D Tx kp => PyProof.Rows.args_nil (fin h' tk D Tx kp)
end
end Dn

set_option Elab.async false
set_option linter.all false
set_option maxRecDepth 100000
set_option maxHeartbeats 4000000
namespace Dn
open PySem PySem.Spec PyProof.Rows L2
/-! ### a call with keywords only -/
def pick {α : Type} (is : List Nat) (xs : List α) : List α := is.filterMap fun i => xs[i]?
theorem vals_get : ∀ {vs : List V} {us : List Value} {i : Nat}, Vals vs us → (vs[i]? = none ∧ us[i]? = none) ∨ ∃ v u, vs[i]? = some v ∧ us[i]? = some u ∧ RelV v u
  | _, _, _, .nil => .inl ⟨rfl, rfl⟩
  | _, _, 0, .cons h _ => .inr ⟨_, _, rfl, rfl, h⟩
  | _, _, i + 1, .cons _ t => by
    rcases vals_get (i := i) t with h | h
    · exact .inl (by simpa using h)
    · exact .inr (by simpa using h)
theorem pick_vals {vs : List V} {us : List Value} (h : Vals vs us) : ∀ is : List Nat, Vals (pick is vs) (pick is us)
  | [] => .nil
  | i :: is => by
    unfold pick
    rcases vals_get (i := i) h with ⟨a, b⟩ | ⟨v, u, a, b, c⟩
    · rw [List.filterMap_cons, List.filterMap_cons, a, b]
      exact pick_vals h is
    · rw [List.filterMap_cons, List.filterMap_cons, a, b]
      exact .cons c (pick_vals h is)
theorem rps_or {K : PySem.W.Frag} {W : Wd} {H : Hp} {vs : List V} {ds : List D} (h : Rps K W H vs ds) (i : Nat) : (vs[i]? = none ∧ ds[i]? = none) ∨ ∃ v d, vs[i]? = some v ∧ ds[i]? = some d ∧ Rp K W H v d := by
  cases q : ds[i]? with
  | none =>
    refine .inl ⟨?_, rfl⟩
    rw [List.getElem?_eq_none_iff] at q ⊢
    rw [h.length]
    exact q
  | some d =>
    obtain ⟨v, a, b⟩ := h.get q
    exact .inr ⟨v, d, a, rfl, b⟩
theorem pick_rps {K : PySem.W.Frag} {W : Wd} {H : Hp} {vs : List V} {ds : List D} (h : Rps K W H vs ds) : ∀ is : List Nat, Rps K W H (pick is vs) (pick is ds)
  | [] => .nil
  | i :: is => by
    unfold pick
    rcases rps_or h i with ⟨a, b⟩ | ⟨v, d, a, b, c⟩
    · rw [List.filterMap_cons, List.filterMap_cons, a, b]
      exact pick_rps h is
    · rw [List.filterMap_cons, List.filterMap_cons, a, b]
      exact .cons c (pick_rps h is)
/-- keywords named ks put in the parameters' order by the places is -/
theorem kbn_mk {K : PySem.W.Frag} {x qual : Str} {st : Stmt} {f : Addr} {fd : FuncData} {ps : List Str} (F : Fun K x qual st f fd) (ks : List Str) (is : List Nat)
    (h : ∀ (kV doc pm : Value) (an : Option Addr) (cdv ct : Value) (ws : List Value), ws.length = ks.length → bindArgs (PySem.W.fnOf x qual (defArgs st) (defBody st) (defScope st) .none kV doc pm an cdv ct) ⟨[], ks.zip ws⟩ = pure (ps.zip (pick is ws))) :
    KBn K fd ps 0 ks (fun _ ws => pick is ws) (fun _ zs => pick is zs) := by
  obtain ⟨oc, od, kV, doc, pm, an, cdv, ct, osl, rfl, lk, hcd⟩ := F.ex
  refine ⟨fun s us ws _ hu hw => ?_, fun _ rz => pick_vals rz is⟩
  obtain rfl : us = [] := List.length_eq_zero_iff.mp hu
  exact .of_eq (h kV doc pm an cdv ct ws hw)
section
variable {X : Cx} {k : Nat} {f : Addr} {fd : FuncData} {ps ks : List Str} {is : List Nat} {F : FDen} {E : XK} {x : Str} {p pos kpos : Pos} {kws : List Keyword} {nm : Option Str} {e : Expr} {te : EDen} {tr : ADen}
theorem imK {t t' : TA} (h : PK X kws t) (q : ∀ σ H Q, t' σ H Q → t σ H Q) : PK X kws t' := ⟨fun pos pins s σ H Q I w => h.run pos pins s σ H Q I (q _ _ _ w)⟩
theorem dk_nil : PK X [] (tAD X.K E nilP) := by
  refine imK pk_nil fun σ H Q h => ?_
  obtain ⟨W, st0, h⟩ := h
  exact h.ret (fun _ => rfl) [] .nil
theorem dk_cons (ha : PE X e (tD X.K E te)) (hr : PK X kws (tAD X.K E tr)) : PK X (⟨nm, e, kpos⟩ :: kws) (tAD X.K E (consP te tr)) := by
  refine imK (pk_cons ha hr) fun σ H Q h => ?_
  obtain ⟨W, st0, h⟩ := h
  refine ⟨W, st0, h.seq.mono fun d st1 W1 H1 e1 i1 q v rv => ?_⟩
  refine ⟨W1, st1, q.2.seq.mono fun ds st2 W2 H2 e2 i2 q2 vs rs => ?_⟩
  exact q2.2.ret (fun _ => rfl) _ (.cons (rv.to e2) rs)
def tKw (m : Nat) (sp : Sp) (gV : List V → List V → List V) (E : XK) (tk : TA) : TE := fun σ H Q => tk σ H fun zs H2 => zs.length = m ∧ sp (gV [] zs) H2 Q E
theorem pe_kw0 {sp : Sp} {CX : CXT} {tk : TA} {g : List Value → List Value → List Value} {gV : List V → List V → List V} (F : FnOk X.prog X.w X.K X.mg X.base CX k f fd ps sp) (hr : Room k X.A) (hg : Gl X x) (hm : X.mg x = some (.ref f)) (hk : PySem.W.keepIn X.K (.ref f) = true)
    (hb : KBn X.K fd ps 0 ks g gV) (hx : Passes CX X E) (hkw : PK X kws tk) (hall : (backToKw pos (keywordEach kws X.env)).all (·.1.isSome) = true) (hks : (backToKw pos (keywordEach kws X.env)).filterMap (·.1) = ks)
    (hdb : (x == ("__debug__" : Str)) = false) (hpl : ((backTo pos (starEach [] X.env)).any (·.1) || (backToKw pos (keywordEach kws X.env)).any (·.1.isNone)) = false) : PE X (.Call (.Name x p) [] kws pos) (tKw ks.length sp gV E tk) := by
  refine ⟨fun pins s σ H Q I h => wpAny_Call_Name_kw (ld_glob I hg hm ?_ hdb)⟩
  refine PySem.W.callWith_KW0 (h₀ := X.base) I.ok.mod.kin hk hall (thn (hkw.run pos pins s σ H _ I h) fun ws s2 ⟨zs, H2, I2, rz, l2, q2⟩ => ⟨I2.kIn, ?_⟩) hpl
  rw [hks]
  exact run_fnN (us := []) (vs := []) F hr hb hx I2 .nil rz rfl l2 q2
def kwF (m : Nat) (is : List Nat) (F : FDen) : FDen := fun ds st => if ds.length = m then F (pick is ds) st else none
theorem de_callK0 (G : FnOk X.prog X.w X.K X.mg X.base (L2.CX X.prog X.w) k f fd ps (spF X.K F)) (hr : Room k X.A) (hm : X.mg x = some (.ref f)) (hk : PySem.W.keepIn X.K (.ref f) = true) (hb : KBn X.K fd ps 0 ks (fun _ ws => pick is ws) (fun _ zs => pick is zs))
    (hx : Passes (L2.CX X.prog X.w) X E) (hkw : PK X kws (tAD X.K E tr)) (hg : Gl X x := by rfl) (hall : (backToKw pos (keywordEach kws X.env)).all (·.1.isSome) = true := by rfl) (hks : (backToKw pos (keywordEach kws X.env)).filterMap (·.1) = ks := by rfl)
    (hdb : (x == ("__debug__" : Str)) = false := by decide) (hpl : ((backTo pos (starEach [] X.env)).any (·.1) || (backToKw pos (keywordEach kws X.env)).any (·.1.isNone)) = false := by rfl) :
    PE X (.Call (.Name x p) [] kws pos) (tD X.K E (callP (kwF ks.length is F) tr)) := by
  refine imE (pe_kw0 G hr hg hm hk hb hx hkw hall hks hdb hpl) fun σ H Q h => ?_
  obtain ⟨W, st0, h⟩ := h
  refine ⟨W, st0, (h.seq (k := fun ds _ st => kwF ks.length is F ds st)).mono fun ds st1 W1 H1 e1 i1 q vs rs => ?_⟩
  obtain ⟨Δ, r, st', L, I, e, w⟩ := q.2
  replace e : kwF ks.length is F ds st1 = some (r, st') := e
  unfold kwF at e
  split at e
  · rename_i hl
    exact ⟨by rw [rs.length]; exact hl, W1, _, st1, r, st', pick_rps rs is, I, e, w⟩
  · cases e
end

/-! ### the bag is made -/
def bagF (n0 : Int) : FDen := fun ds st => match ds, st.scr, st.bag with
  | [.opq (.ref a)], some (b, ns), none => if a = b ∧ ns.length ≤ 63 then some (.ok (.hnd 0), { st with bag := some ⟨ns, 0, 0, n0 + ns.length, 0⟩ }) else none
  | _, _, _ => none
section
variable {P : Program} {w : World} {K : PySem.W.Frag} {mg : Str → Option Value} {base : Heap} {f : Addr} {fd : FuncData} {st : Stmt}
theorem scr_seq {W : Wd} {H : Hp} {a : Addr} {ns : List Int} (h : ScrAt K W H a ns) : SqL K H a (ns.map V.int) := by
  rcases h with ⟨_, h⟩ | h
  · exact .inl h
  · exact .inr h
theorem ok_bag (n0 : Int) {p1 p2 p3 p4 p5 p6 q1 q2 q3 q4 q5 q6 q7 q8 q9 : Pos} {k2p : Pos} {j1 j2 j3 j4 j5 : Nat} (G : Fun K "_law_bag" "_law_bag" st f fd) (S : FnScope ["_law_script"] ["_law_script"] (defScope st)) (m1 : mg "list" = none) (m2 : mg "len" = none)
    (v0 : (defScope st).names.lookup ("_law_script" : Str) = some NameKind.local) (v1 : (defScope st).names.lookup ("list" : Str) = some NameKind.globalImplicit) (v2 : (defScope st).names.lookup ("len" : Str) = some NameKind.globalImplicit)
    (hB : defBody st = [.Return (some (.List [.Call (.Name "list" p1) [.Subscript (.Name "_law_script" p2) (.Slice none (some (.Constant (.int 63) j1 p3)) none p4) p5] [] p6, .Constant (.int 0) j2 q1, .Constant (.int 0) j3 q2,
      .BinOp (.Constant (.int n0) j4 q3) .Add (.Call (.Name "len" q4) [.Name "_law_script" q5] [] q6) q7, .Constant (.int 0) j5 q8] q9)) k2p]) : FnOk P w K mg base (L2.CX P w) 1 f fd ["_law_script"] (spF K (bagF n0)) := by
  refine G.okX S (fun vs H Q E h => ?_) (fun cdv A outer s H vs Q E hr h => ?_)
  · obtain ⟨W, ds, st, r, st', rs, iv, e, _⟩ := h
    unfold bagF at e
    split at e
    · rw [rs.length]; rfl
    · cases e
  · obtain ⟨W, ds, st0, r, st', rs, iv, e, wn⟩ := h
    rw [hB]
    refine ⟨_, pss_one (ps_ret (pe_lst (pa_cons (pe_callTy call_list_of (show Gl _ _ from v1) m1 PyProof.Rows.boot_list (pa_cons (pe_slice sl_list (pv 0 (hv := .inl v0)) po_none (po_some pe_int)) pa_nil)) (pa_cons pe_int (pa_cons pe_int
      (pa_cons (pe_op op_add pe_int (pe_callB call_len_seq (show Gl _ _ from v2) m2 PySem.boot_len (pa_cons (pv 0 (hv := .inl v0)) pa_nil))) (pa_cons pe_int pa_nil))))))), ?_⟩
    unfold bagF at e
    split at e
    · rename_i a b ns es ec
      split at e
      · rename_i cd
        obtain ⟨rfl, h63⟩ := cd
        cases e
        have sc := iv.scr a ns es
        have sq := scr_seq sc
        cases rs with
        | cons r1 r2 =>
          cases r1
          cases r2
          refine ⟨.ref a, rfl, 63, rfl, a, ns.map V.int, rfl, sq, fun c nc => ?_⟩
          have cut : cutV (ns.map V.int) none (some 63) = ns.map V.int := by
            unfold cutV
            rw [HT.sIx_none, show HT.sIx (ns.map V.int).length (ns.map V.int).length (some 63) = min 63 (ns.map V.int).length from HT.sIx_nat _ _ 63, List.drop_zero, Nat.sub_zero, List.length_map, Nat.min_eq_right h63, List.take_of_length_le (by rw [List.length_map] <;> exact Nat.le_refl _)]
          refine ⟨c, _, rfl, .inl (.inl (.inl upd_same)), fun l nl => ?_⟩
          rw [cut] at nl ⊢
          have s1 : Same H (upd H c (.lst (ns.map V.int))) := same_new nc
          have s2 : Same H (upd (upd H c (.lst (ns.map V.int))) l (.lst (ns.map V.int))) := fun x u e => same_new nl x u (s1 x u e)
          refine ⟨.ref a, rfl, a, ns.map V.int, rfl, .inl (s2.seq sq), n0, (ns.map V.int).length, rfl, rfl, Nat.le_trans (show 5 ≤ 64 by decide) (by rw [sizeLine_eq]; omega), fun b nb => ?_⟩
          rw [List.length_map]
          generalize hG : upd (upd H c (.lst (ns.map V.int))) l (.lst (ns.map V.int)) = G0 at nb s2 ⊢
          have s3 : Same H (upd G0 b (.lst [.ref l, .int 0, .int 0, .int (n0 + ns.length), .int 0])) := fun x u e => same_new nb x u (s2 x u e)
          have nHb : H b = none := by
            cases q : H b with
            | none => rfl
            | some o => rw [s2 b o q] at nb; cases nb
          have nHl : H l = none := by
            cases q : H l with
            | none => rfl
            | some o => rw [s1 l o q] at nl; cases nl
          have gl : G0 l = some (.lst (ns.map V.int)) := by rw [← hG, upd_same]
          have lb : l ≠ b := fun z => by rw [z, nb] at gl; cases gl
          let W1 : Wd := ⟨fun x => W.M x ∨ x = b, fun x => W.N x ∨ x = b, fun n => if n = 0 then some b else W.h n, fun x h => h.imp (W.sub x) id⟩
          have dom0 := iv.dom ec
          have h1' : ∀ n x, W.h n = some x → W1.h n = some x := fun n x e => by
            have nz : n ≠ 0 := fun z => by rw [z, dom0] at e; cases e
            show (if n = 0 then some b else W.h n) = some x
            rw [if_neg nz]
            exact e
          have h0' : W1.h 0 = some b := rfl
          have back : ∀ n x, n ≠ 0 → W1.h n = some x → W.h n = some x := fun n x nz e => by
            have e' : (if n = 0 then some b else W.h n) = some x := e
            rw [if_neg nz] at e'
            exact e'
          have fresh : ∀ n, W.h n ≠ some b := fun n e => iv.hdl n b e nHb
          have le : Le W H W1 (upd G0 b (.lst [.ref l, .int 0, .int 0, .int (n0 + ns.length), .int 0])) := by
            refine ⟨fun x o _ e => s3 x o e, fun x h => ?_, fun x h => ?_, fun x h => .inl h, h1'⟩
            · rcases h with h | h
              · exact .inl h
              · exact .inr (by rw [h]; exact nHb)
            · rcases h with h | h
              · exact .inl h
              · exact .inr (by rw [h]; exact nHb)
          have ne_b : ∀ x, H x ≠ none → x ≠ b := fun x h z => h (by rw [z]; exact nHb)
          have sm : ∀ x, H x ≠ none → (upd G0 b (.lst [.ref l, .int 0, .int 0, .int (n0 + ns.length), .int 0])) x ≠ none := fun x h => by
            cases q : H x with
            | none => exact absurd q h
            | some o => rw [s3 x o q]; exact fun z => nomatch z
          refine wn W1 _ le ⟨fun x h => ?_, fun n m x e1 e2 => ?_, fun n x e => ?_, (fun z => nomatch z), fun s h => ?_, fun x zs h => ?_, fun n c h => ?_⟩ _ (.hnd 0 h0')
          · rcases h with h | h
            · exact sm x (iv.there x h)
            · rw [h, upd_same]; exact fun z => nomatch z
          · by_cases z1 : n = 0
            · by_cases z2 : m = 0
              · rw [z1, z2]
              · rw [z1, h0'] at e1
                cases e1
                exact absurd (back m _ z2 e2) (fresh m)
            · by_cases z2 : m = 0
              · rw [z2, h0'] at e2
                cases e2
                exact absurd (back n _ z1 e1) (fresh n)
              · exact iv.inj n m x (back n x z1 e1) (back m x z2 e2)
          · by_cases z1 : n = 0
            · rw [z1, h0'] at e
              cases e
              rw [upd_same]; exact fun z => nomatch z
            · exact sm x (iv.hdl n x (back n x z1 e))
          · cases h
            refine ⟨b, h0', .inr rfl, l, fun z => ?_, by rw [upd_ne lb]; exact gl, upd_same⟩
            rcases z with z | z
            · exact iv.there l z nHl
            · exact lb z
          · have h2 := iv.scr x zs h
            rcases h2 with ⟨h3, h4⟩ | h4
            · have hx : H x ≠ none := by
                rcases h4 with q | ⟨u, q⟩
                · rw [q]; exact fun z => nomatch z
                · rw [q]; exact fun z => nomatch z
              refine .inl ⟨fun z => z.elim h3 (ne_b x hx), ?_⟩
              rcases h4 with q | ⟨u, q⟩
              · exact .inl (s3 _ _ q)
              · exact .inr ⟨u, s3 _ _ q⟩
            · exact .inr h4
          · obtain ⟨hz, p, g1, g2, g3⟩ := iv.own n c h
            obtain ⟨o, ho⟩ := g3.there
            exact ⟨hz, p, h1' n p g1, .inl g2, g3.tow le.w ((s3 _ _ ho).trans ho.symm)⟩
      · cases e
    · cases e
end
end Dn
namespace Dn
open PySem PySem.Spec PyProof.Rows L2
/-- a def called with as many values as it has parameters -/
def gd (n : Nat) (g : FDen) : FDen := fun ds st => if ds.length = n then g ds st else none
theorem gd_len {n : Nat} {g : FDen} (ds : List D) (st : Sta) (r : Except Exc D × Sta) (h : gd n g ds st = some r) : ds.length = n := by
  unfold gd at h
  split at h
  · assumption
  · cases h
theorem gd_run {n : Nat} {g : FDen} (ds : List D) (st : Sta) (r : Except Exc D × Sta) (h : gd n g ds st = some r) : g ds st = some r := by
  unfold gd at h
  split at h
  · exact h
  · cases h
end Dn
namespace Dn
open PySem PySem.Spec PyProof.Rows L2
theorem fn_void {P : Program} {w : World} {K : PySem.W.Frag} {mg : Str → Option Value} {base : Heap} {CX : CXT} {k : Nat} {f : Addr} {fd : FuncData} {ps : List Str} : FnOk P w K mg base CX k f fd ps (spF K fun _ _ => none) :=
  ⟨fun _ _ _ _ h => (by obtain ⟨_, _, _, _, _, _, _, e, _⟩ := h; cases e), fun _ _ _ _ _ _ _ _ _ _ _ _ _ h => (by obtain ⟨_, _, _, _, _, _, _, e, _⟩ := h; cases e)⟩
end Dn

set_option Elab.async false
set_option linter.all false
set_option maxRecDepth 100000
set_option maxHeartbeats 4000000
namespace Dn
open PySem PySem.Spec PyProof.Rows L2
def topS (i : Nat) : Stmt := PySem.Challenge.pw_unseenrest_k02_names_pieces_groups_numbe.main.body.getD i (.Pass ⟨0, 0, 0, 0⟩)
abbrev s_is_word : Stmt := (topS 5)
abbrev N_is_word : List Str := ["value", "most", "sign"]
theorem sc_is_word : FnScope N_is_word ["value", "most"] (defScope s_is_word) := ⟨rfl, rfl, rfl, by decide +kernel, rfl, by decide +kernel, by decide +kernel⟩
def d_is_word : SDen :=
    (rtP (andV (isiP .str (varP 0)) (andV (chP leD leD (cstP (.int 1)) (bltP lenF (consP (varP 0) nilP)) (varP 1)) (bltP allF (consP (lcP (itP (varP 0)) (.one 2) yesT (chP leD leD (cstP (.str "a")) (varP 2) (cstP (.str "z"))) [2]) nilP)))))
def F_is_word : FDen := gd 2 (runD d_is_word N_is_word.length)
abbrev s_is_name : Stmt := (topS 1)
abbrev N_is_name : List Str := ["value"]
theorem sc_is_name : FnScope N_is_name ["value"] (defScope s_is_name) := ⟨rfl, rfl, rfl, by decide +kernel, rfl, by decide +kernel, by decide +kernel⟩
def d_is_name : SDen :=
    (rtP (callP F_is_word (consP (varP 0) (consP (cstP (.int 4)) nilP))))
def F_is_name : FDen := gd 1 (runD d_is_name N_is_name.length)
abbrev s_is_piece : Stmt := (topS 2)
abbrev N_is_piece : List Str := ["value"]
theorem sc_is_piece : FnScope N_is_piece ["value"] (defScope s_is_piece) := ⟨rfl, rfl, rfl, by decide +kernel, rfl, by decide +kernel, by decide +kernel⟩
def d_is_piece : SDen :=
    (rtP (callP F_is_word (consP (varP 0) (consP (cstP (.int 6)) nilP))))
def F_is_piece : FDen := gd 1 (runD d_is_piece N_is_piece.length)
abbrev s_is_group : Stmt := (topS 3)
abbrev N_is_group : List Str := ["value", "at", "name"]
theorem sc_is_group : FnScope N_is_group ["value"] (defScope s_is_group) := ⟨rfl, rfl, rfl, by decide +kernel, rfl, by decide +kernel, by decide +kernel⟩
def d_is_group : SDen :=
    (sqP (ifP (orT (notT (truP (isiP .tup (varP 0)))) (notT (truP (bltP allF (consP (lcP (itP (varP 0)) (.one 2) yesT (callP F_is_name (consP (varP 2) nilP)) [2]) nilP))))) (rtP (cstP (.bl false))) nxP)
    (rtP (bltP allF (consP (lcP (rng2P (consP (cstP (.int 1)) (consP (bltP lenF (consP (varP 0) nilP)) nilP))) (.one 1) yesT (binP ltD (binP ixD (varP 0) (binP subD (varP 1) (cstP (.int 1)))) (binP ixD (varP 0) (varP 1))) [1]) nilP))))
def F_is_group : FDen := gd 1 (runD d_is_group N_is_group.length)
abbrev s_is_number : Stmt := (topS 4)
abbrev N_is_number : List Str := ["value", "least", "most"]
theorem sc_is_number : FnScope N_is_number ["value", "least", "most"] (defScope s_is_number) := ⟨rfl, rfl, rfl, by decide +kernel, rfl, by decide +kernel, by decide +kernel⟩
def d_is_number : SDen :=
    (rtP (andV (isiP .int (varP 0)) (andV (notV (isiP .bl (varP 0))) (chP leD leD (varP 1) (varP 0) (varP 2)))))
def F_is_number : FDen := gd 3 (runD d_is_number N_is_number.length)
abbrev s_l_pull : Stmt := (topS 8)
abbrev N_l_pull : List Str := ["_law_bag_here", "_law_many", "_law_seed", "_law_cell", "_law_digit"]
theorem sc_l_pull : FnScope N_l_pull ["_law_bag_here", "_law_many"] (defScope s_l_pull) := ⟨rfl, rfl, rfl, by decide +kernel, rfl, by decide +kernel, by decide +kernel⟩
def d_l_pull : SDen :=
    (sqP (ifP (andT (tstP (binP eqD (bagIx 0 2) (cstP (.int 0)))) (tstP (binP ltD (bagIx 0 1) (bltP lenF (consP (bagIx 0 0) nilP))))) (sqP (asP (.one 3) (binP ixD (bagIx 0 0) (bagIx 0 1)))
    (sqP (bagSet 0 1 (binP addD (bagIx 0 1) (cstP (.int 1))))
    (ifP (tstP (binP geD (varP 3) (binP (intD powI) (cstP (.int 10)) (cstP (.int 18))))) (bagSet 0 2 (varP 3)) (bagSet 0 3 (binP (intD modI) (bltP intF (consP (binP addD (binP addD (binP mulD (bagIx 0 3) (cstP (.int 48611))) (binP mulD (binP (intD modI) (bltP intF (consP (varP 3) nilP)) (cstP (.int 2147483423))) (cstP (.int 15013)))) (cstP (.int 29))) nilP)) (cstP (.int 2147483579))))))) nxP)
    (sqP (ifP (tstP (binP gtD (bagIx 0 2) (cstP (.int 0)))) (sqP (asP (.one 4) (binP (intD modI) (bltP intF (consP (bagIx 0 2) nilP)) (varP 1)))
    (sqP (bagSet 0 2 (binP (intD fdivI) (bagIx 0 2) (varP 1)))
    (rtP (varP 4)))) nxP)
    (sqP (bagSet 0 4 (binP addD (bagIx 0 4) (cstP (.int 1))))
    (sqP (asP (.one 2) (bagIx 0 3))
    (sqP (bagSet 0 3 (binP (intD modI) (bltP intF (consP (binP addD (binP addD (binP addD (binP mulD (binP mulD (varP 2) (varP 2)) (cstP (.int 5))) (binP mulD (varP 2) (cstP (.int 31153)))) (binP mulD (bagIx 0 4) (cstP (.int 1299827)))) (cstP (.int 70001))) nilP)) (cstP (.int 2147483549))))
    (rtP (binP (intD modI) (bltP intF (consP (binP addD (binP (intD fdivI) (bagIx 0 3) (cstP (.int 71))) (binP mulD (binP (intD modI) (bltP intF (consP (bagIx 0 3) nilP)) (cstP (.int 7907))) (cstP (.int 61)))) nilP)) (varP 1))))))))
def F_l_pull : FDen := gd 2 (runD d_l_pull N_l_pull.length)
abbrev s_l_any : Stmt := (topS 9)
abbrev N_l_any : List Str := ["_law_bag_here", "_law_things"]
theorem sc_l_any : FnScope N_l_any ["_law_bag_here", "_law_things"] (defScope s_l_any) := ⟨rfl, rfl, rfl, by decide +kernel, rfl, by decide +kernel, by decide +kernel⟩
def d_l_any : SDen :=
    (rtP (binP ixD (varP 1) (callP F_l_pull (consP (varP 0) (consP (bltP lenF (consP (varP 1) nilP)) nilP)))))
def F_l_any : FDen := gd 2 (runD d_l_any N_l_any.length)
abbrev s_l_same : Stmt := (topS 10)
abbrev N_l_same : List Str := ["_law_found", "_law_due", "_law_one", "_law_two"]
theorem sc_l_same : FnScope N_l_same ["_law_found", "_law_due"] (defScope s_l_same) := ⟨rfl, rfl, rfl, by decide +kernel, rfl, by decide +kernel, by decide +kernel⟩
def d_l_same (F : FDen) : SDen :=
    (sqP (ifP (truP (isisP [.lst, .tup] (varP 1))) (sqP (ifP (orT (tstP (binP neD (isiP .lst (varP 0)) (isiP .lst (varP 1)))) (tstP (binP neD (isiP .tup (varP 0)) (isiP .tup (varP 1))))) (rtP (cstP (.bl false))) nxP)
    (rtP (andV (binP eqD (bltP lenF (consP (varP 0) nilP)) (bltP lenF (consP (varP 1) nilP))) (bltP allF (consP (lcP (zipP (consP (varP 0) (consP (varP 1) nilP))) (.tup [2, 3]) yesT (callP F (consP (varP 2) (consP (varP 3) nilP))) [2, 3]) nilP))))) nxP)
    (sqP (ifP (orT (tstP (isNP (varP 1))) (tstP (isNP (varP 0)))) (rtP (andV (isNP (varP 1)) (isNP (varP 0)))) nxP)
    (sqP (ifP (orT (tstP (binP neD (isiP .bl (varP 0)) (isiP .bl (varP 1)))) (tstP (binP neD (isiP .int (varP 0)) (isiP .int (varP 1))))) (rtP (cstP (.bl false))) nxP)
    (rtP (andV (binP eqD (isiP .str (varP 0)) (isiP .str (varP 1))) (binP eqD (varP 0) (varP 1)))))))
def F_l_same : Nat → FDen
  | 0 => fun _ _ => none
  | n + 1 => gd 2 (runD (d_l_same (F_l_same n)) N_l_same.length)
abbrev s_l_names : Stmt := (topS 11)
abbrev N_l_names : List Str := ["_law_bag_here", "_law_many", "_law_letters", "_law_stem", "_law_at", "_law_first", "_law_k"]
theorem sc_l_names : FnScope N_l_names ["_law_bag_here", "_law_many"] (defScope s_l_names) := ⟨rfl, rfl, rfl, by decide +kernel, rfl, by decide +kernel, by decide +kernel⟩
def d_l_names : SDen :=
    (sqP (asP (.one 2) (cstP (.str "abcdefghijklmnopqrstuvwxyz")))
    (sqP (asP (.one 3) (binP joinF (cstP (.str "")) (lcP (rng1P (consP (callP F_l_pull (consP (varP 0) (consP (cstP (.int 4)) nilP))) nilP)) (.one 6) yesT (callP F_l_any (consP (varP 0) (consP (varP 2) nilP))) [6])))
    (sqP (asP (.tup [4, 5]) (tupP (consP (callP F_l_pull (consP (varP 0) (consP (binP addD (bltP lenF (consP (varP 3) nilP)) (cstP (.int 1))) nilP))) (consP (callP F_l_pull (consP (varP 0) (consP (cstP (.int 26)) nilP))) nilP))))
    (rtP (lcP (rng1P (consP (varP 1) nilP)) (.one 6) yesT (binP addD (binP addD (slP (varP 3) noP (soP (varP 4))) (binP ixD (varP 2) (binP (intD modI) (bltP intF (consP (binP addD (varP 5) (binP mulD (cstP (.int 7)) (varP 6))) nilP)) (cstP (.int 26))))) (slP (varP 3) (soP (varP 4)) noP)) [6])))))
def F_l_names : FDen := gd 2 (runD d_l_names N_l_names.length)
abbrev s_l_bag : Stmt := (topS 7)
abbrev N_l_bag : List Str := ["_law_script"]
theorem sc_l_bag : FnScope N_l_bag ["_law_script"] (defScope s_l_bag) := ⟨rfl, rfl, rfl, by decide +kernel, rfl, by decide +kernel, by decide +kernel⟩
def F_l_bag : FDen := bagF 10038
abbrev s_law : Stmt := (topS 12)
abbrev N_law : List Str := ["_law_script", "_law_bag_here", "_law_turn", "_law_odds", "_law_found", "_law_others", "_law_word", "_law_at", "_law_bent", "_law_plain", "_law_names_here", "_law_some", "_law_good", "_law_least_z", "_law_wide", "_law_number", "_law_due", "_law_thing", "_law_name", "_law_sign"]
theorem sc_law : FnScope N_law ["_law_script"] (defScope s_law) := ⟨rfl, rfl, rfl, by decide +kernel, rfl, by decide +kernel, by decide +kernel⟩
def d_law : SDen :=
    (sqP (asP (.one 1) (callP F_l_bag (consP (varP 0) nilP)))
    (sqP (foP (rng1P (consP (cstP (.int 6)) nilP)) (.one 2) (sqP (asP (.one 6) (binP ixD (callP F_l_names (consP (varP 1) (consP (cstP (.int 1)) nilP))) (cstP (.int 0))))
    (sqP (asP (.one 7) (callP F_l_pull (consP (varP 1) (consP (binP addD (bltP lenF (consP (varP 6) nilP)) (cstP (.int 1))) nilP))))
    (sqP (asP (.one 8) (binP addD (binP addD (slP (varP 6) noP (soP (varP 7))) (callP F_l_any (consP (varP 1) (consP (lstP (consP (cstP (.str "")) (consP (cstP (.str "a")) (consP (cstP (.str "z")) (consP (cstP (.str "A")) (consP (cstP (.str "1")) (consP (cstP (.str " ")) (consP (cstP (.str "-")) (consP (cstP (.str "\n")) (consP (cstP (.str "bc")) (consP (cstP (.str "bcde")) nilP))))))))))) nilP)))) (slP (varP 6) (soP (varP 7)) noP)))
    (sqP (asP (.one 9) (andV (binP neD (varP 8) (cstP (.str ""))) (bltP allF (consP (lcP (itP (varP 8)) (.one 19) yesT (binP inD (varP 19) (cstP (.str "abcdefghijklmnopqrstuvwxyz"))) [19]) nilP))))
    (sqP (ifP (notT (truP (callP (F_l_same 8) (consP (lstP (consP (callP F_is_name (consP (varP 8) nilP)) (consP (callP (kwF 1 [0] F_is_piece) (consP (varP 8) nilP)) nilP))) (consP (lstP (consP (andV (varP 9) (binP ltD (bltP lenF (consP (varP 8) nilP)) (cstP (.int 5)))) (consP (andV (varP 9) (binP ltD (bltP lenF (consP (varP 8) nilP)) (cstP (.int 7)))) nilP))) nilP))))) (rtP (cstP (.bl false))) nxP)
    (sqP (asP (.one 10) (callP F_l_names (consP (varP 1) (consP (callP F_l_pull (consP (varP 1) (consP (cstP (.int 5)) nilP))) nilP))))
    (sqP (asP (.one 11) (bltP tupleF (consP (callP F_l_any (consP (varP 1) (consP (lstP (consP (varP 10) (consP (bltP sortF (consP (varP 10) nilP)) (consP (binP addD (bltP sortF (consP (varP 10) nilP)) (slP (varP 10) noP (soP (cstP (.int 1))))) (consP (binP addD (bltP sortF (consP (varP 10) nilP)) (lstP (consP (varP 8) nilP))) nilP))))) nilP))) nilP)))
    (sqP (asP (.one 12) (bltP allF (consP (lcP (itP (varP 11)) (.one 18) yesT (andV (chP leD leD (cstP (.int 1)) (bltP lenF (consP (varP 18) nilP)) (cstP (.int 4))) (bltP allF (consP (lcP (itP (varP 18)) (.one 19) yesT (binP inD (varP 19) (cstP (.str "abcdefghijklmnopqrstuvwxyz"))) [19]) nilP))) [18]) nilP)))
    (sqP (asP (.one 12) (andV (varP 12) (binP eqD (bltP listF (consP (varP 11) nilP)) (sosP (varP 11)))))
    (sqP (ifP (notT (truP (callP (F_l_same 8) (consP (lstP (consP (callP F_is_group (consP (varP 11) nilP)) (consP (callP (kwF 1 [0] F_is_group) (consP (bltP listF (consP (varP 11) nilP)) nilP)) nilP))) (consP (lstP (consP (varP 12) (consP (cstP (.bl false)) nilP))) nilP))))) (rtP (cstP (.bl false))) nxP)
    (sqP (parP 13 14 (consP (binP subD (callP F_l_pull (consP (varP 1) (consP (cstP (.int 9)) nilP))) (cstP (.int 4))) (consP (callP F_l_any (consP (varP 1) (consP (lstP (consP (cstP (.int 0)) (consP (cstP (.int 3)) (consP (binP (intD powI) (cstP (.int 10)) (cstP (.int 5))) nilP)))) nilP))) nilP)))
    (sqP (asP (.one 15) (callP F_l_any (consP (varP 1) (consP (lstP (consP (binP subD (varP 13) (cstP (.int 1))) (consP (varP 13) (consP (binP addD (varP 13) (varP 14)) (consP (binP addD (binP addD (varP 13) (varP 14)) (cstP (.int 1))) (consP (callP F_l_pull (consP (varP 1) (consP (binP (intD powI) (cstP (.int 10)) (cstP (.int 6))) nilP))) nilP)))))) nilP))))
    (sqP (asP (.one 16) (chP leD leD (varP 13) (varP 15) (binP addD (varP 13) (varP 14))))
    (ifP (notT (truP (callP (F_l_same 8) (consP (lstP (consP (callP F_is_number (consP (varP 15) (consP (varP 13) (consP (binP addD (varP 13) (varP 14)) nilP)))) (consP (callP (kwF 3 [2, 1, 0] F_is_number) (consP (binP addD (varP 13) (varP 14)) (consP (varP 13) (consP (varP 15) nilP)))) nilP))) (consP (lstP (consP (varP 16) (consP (varP 16) nilP))) nilP))))) (rtP (cstP (.bl false))) nxP)))))))))))))))
    (sqP (asP (.one 3) (lstP (consP (cstP .non) (consP (cstP (.bl true)) (consP (cstP (.bl false)) (consP (cstP (.int 3)) (consP (lstP nilP) (consP (lstP (consP (cstP (.str "a")) nilP)) (consP (tupP (consP (cstP (.str "A")) nilP)) (consP (tupP (consP (cstP (.str "a")) (consP (cstP (.int 3)) nilP))) (consP (cstP (.str "1")) nilP)))))))))))
    (sqP (asP (.one 4) (binP addD (binP addD (lcP (itP (varP 3)) (.one 17) yesT (callP F_is_name (consP (varP 17) nilP)) [17]) (lcP (itP (varP 3)) (.one 17) yesT (callP F_is_piece (consP (varP 17) nilP)) [17])) (lcP (itP (varP 3)) (.one 17) yesT (callP F_is_group (consP (varP 17) nilP)) [17])))
    (sqP (asP (.one 5) (lcP (itP (lstP (consP (cstP .non) (consP (cstP (.bl true)) (consP (cstP (.bl false)) (consP (cstP (.str "1")) (consP (lstP (consP (cstP (.int 1)) nilP)) (consP (tupP (consP (cstP (.int 1)) nilP)) nilP)))))))) (.one 17) yesT (callP F_is_number (consP (varP 17) (consP (negP (cstP (.int 5))) (consP (cstP (.int 9)) nilP)))) [17]))
    (rtP (callP (F_l_same 8) (consP (binP addD (binP addD (varP 4) (varP 5)) (lstP (consP (callP F_is_group (consP (tupP nilP) nilP)) (consP (callP F_is_group (consP (tupP (consP (cstP (.str "a")) nilP)) nilP)) nilP)))) (consP (binP addD (binP mulD (lstP (consP (cstP (.bl false)) nilP)) (cstP (.int 33))) (lstP (consP (cstP (.bl true)) (consP (cstP (.bl true)) nilP)))) nilP)))))))))
def F_law : FDen := gd 1 (runD d_law N_law.length)
structure Txt (K : PySem.W.Frag) (mg : Str → Option Value) (f : Nat → Addr) (fd : Nat → FuncData) : Prop where
  F_is_word : Fun K "_is_word" "_is_word" s_is_word (f 0) (fd 0)
  g_is_word : mg "_is_word" = some (.ref (f 0))
  b_is_word : Binds K (fd 0) ["value", "most"] []
  F_is_name : Fun K "is_name" "is_name" s_is_name (f 1) (fd 1)
  g_is_name : mg "is_name" = some (.ref (f 1))
  b_is_name : Binds K (fd 1) ["value"] []
  F_is_piece : Fun K "is_piece" "is_piece" s_is_piece (f 2) (fd 2)
  g_is_piece : mg "is_piece" = some (.ref (f 2))
  b_is_piece : Binds K (fd 2) ["value"] []
  F_is_group : Fun K "is_group" "is_group" s_is_group (f 3) (fd 3)
  g_is_group : mg "is_group" = some (.ref (f 3))
  b_is_group : Binds K (fd 3) ["value"] []
  F_is_number : Fun K "is_number" "is_number" s_is_number (f 4) (fd 4)
  g_is_number : mg "is_number" = some (.ref (f 4))
  b_is_number : Binds K (fd 4) ["value", "least", "most"] []
  F_l_pull : Fun K "_law_pull" "_law_pull" s_l_pull (f 5) (fd 5)
  g_l_pull : mg "_law_pull" = some (.ref (f 5))
  b_l_pull : Binds K (fd 5) ["_law_bag_here", "_law_many"] []
  F_l_any : Fun K "_law_any" "_law_any" s_l_any (f 6) (fd 6)
  g_l_any : mg "_law_any" = some (.ref (f 6))
  b_l_any : Binds K (fd 6) ["_law_bag_here", "_law_things"] []
  F_l_same : Fun K "_law_same" "_law_same" s_l_same (f 7) (fd 7)
  g_l_same : mg "_law_same" = some (.ref (f 7))
  b_l_same : Binds K (fd 7) ["_law_found", "_law_due"] []
  F_l_names : Fun K "_law_names" "_law_names" s_l_names (f 8) (fd 8)
  g_l_names : mg "_law_names" = some (.ref (f 8))
  b_l_names : Binds K (fd 8) ["_law_bag_here", "_law_many"] []
  F_l_bag : Fun K "_law_bag" "_law_bag" s_l_bag (f 9) (fd 9)
  g_l_bag : mg "_law_bag" = some (.ref (f 9))
  b_l_bag : Binds K (fd 9) ["_law_script"] []
  F_law : Fun K "law" "law" s_law (f 10) (fd 10)
  g_law : mg "law" = some (.ref (f 10))
  b_law : Binds K (fd 10) ["_law_script"] []
  kb_is_piece_0 : KBn K (fd 2) ["value"] 0 ["value"] (fun _ ws => pick [0] ws) (fun _ zs => pick [0] zs)
  kb_is_group_0 : KBn K (fd 3) ["value"] 0 ["value"] (fun _ ws => pick [0] ws) (fun _ zs => pick [0] zs)
  kb_is_number_2_1_0 : KBn K (fd 4) ["value", "least", "most"] 0 ["most", "least", "value"] (fun _ ws => pick [2, 1, 0] ws) (fun _ zs => pick [2, 1, 0] zs)
  z_all : mg "all" = none
  z_bool : mg "bool" = none
  z_int : mg "int" = none
  z_isinstance : mg "isinstance" = none
  z_len : mg "len" = none
  z_list : mg "list" = none
  z_range : mg "range" = none
  z_set : mg "set" = none
  z_sorted : mg "sorted" = none
  z_str : mg "str" = none
  z_tuple : mg "tuple" = none
  z_zip : mg "zip" = none
section
variable {P : Program} {w : World} {K : PySem.W.Frag} {mg : Str → Option Value} {base : Heap} {f : Nat → Addr} {fd : Nat → FuncData}
theorem ok_is_word (T : Txt K mg f fd) : FnOk P w K mg base (L2.CX P w) 1 (f 0) (fd 0) ["value", "most"] (spF K F_is_word) :=
  fn_den d_is_word T.F_is_word sc_is_word gd_len gd_run fun cdv A outer s H E hr hp ho =>
    (dss_one (ds_ret (de_and (de_isi .str T.z_isinstance T.z_str (by decide +kernel) (de_var 0)) (de_and (de_ch or_le or_le de_int (de_blt cr_len T.z_len PySem.boot_len (da_cons (de_var 0) da_nil)) (de_var 1)) (de_one (de_blt (Dn.cr_all rfl) T.z_all (by decide +kernel) (da_cons (de_lc (.one 2) [("sign", 2)] rfl sc_is_word.nd (by decide) (di_seq (de_var 0)) (blkOk_by (N := N_is_word) (sc := defScope s_is_word) (by decide +kernel)) (fun _ _ _ _ _ => (pg_name (i := 2) sc_is_word.nd rfl (by first | exact Or.inl rfl | exact Or.inr rfl))) (fun _ _ _ _ _ => dts_nil) (fun _ _ _ _ _ => (de_ch or_le or_le de_str (de_var 2) de_str))) da_nil)))))))
theorem ok_is_name (T : Txt K mg f fd) : FnOk P w K mg base (L2.CX P w) 2 (f 1) (fd 1) ["value"] (spF K F_is_name) :=
  fn_den d_is_name T.F_is_name sc_is_name gd_len gd_run fun cdv A outer s H E hr hp ho =>
    (dss_one (ds_ret (de_call' (ok_is_word T) (hr.mono (by decide)) T.g_is_word T.F_is_word.kp T.b_is_word hp (da_cons (de_var 0) (da_cons de_int da_nil)))))
theorem ok_is_piece (T : Txt K mg f fd) : FnOk P w K mg base (L2.CX P w) 2 (f 2) (fd 2) ["value"] (spF K F_is_piece) :=
  fn_den d_is_piece T.F_is_piece sc_is_piece gd_len gd_run fun cdv A outer s H E hr hp ho =>
    (dss_one (ds_ret (de_call' (ok_is_word T) (hr.mono (by decide)) T.g_is_word T.F_is_word.kp T.b_is_word hp (da_cons (de_var 0) (da_cons de_int da_nil)))))
theorem ok_is_group (T : Txt K mg f fd) : FnOk P w K mg base (L2.CX P w) 3 (f 3) (fd 3) ["value"] (spF K F_is_group) :=
  fn_den d_is_group T.F_is_group sc_is_group gd_len gd_run fun cdv A outer s H E hr hp ho =>
    (dss_cons (ds_if (dt_w (dw_or (dt_not (dt_tru (de_isi .tup T.z_isinstance T.z_tuple (by decide +kernel) (de_var 0)))) (dw_or1 (dt_not (dt_tru (de_blt (Dn.cr_all rfl) T.z_all (by decide +kernel) (da_cons (de_lc (.one 2) [("name", 2)] rfl sc_is_group.nd (by decide) (di_seq (de_var 0)) (blkOk_by (N := N_is_group) (sc := defScope s_is_group) (by decide +kernel)) (fun _ _ _ _ _ => (pg_name (i := 2) sc_is_group.nd rfl (by first | exact Or.inl rfl | exact Or.inr rfl))) (fun _ _ _ _ _ => dts_nil) (fun _ _ _ _ _ => (de_call' (ok_is_name T) (hr.mono (by decide)) T.g_is_name T.F_is_name.kp T.b_is_name passL (da_cons (de_var 2) da_nil)))) da_nil))))))) (dss_one (ds_ret de_bl)) dss_nil)
      (dss_one (ds_ret (de_blt (Dn.cr_all rfl) T.z_all (by decide +kernel) (da_cons (de_lc (.one 1) [("at", 1)] rfl sc_is_group.nd (by decide) (di_range2 T.z_range (da_cons de_int (da_cons (de_blt cr_len T.z_len PySem.boot_len (da_cons (de_var 0) da_nil)) da_nil))) (blkOk_by (N := N_is_group) (sc := defScope s_is_group) (by decide +kernel)) (fun _ _ _ _ _ => (pg_name (i := 1) sc_is_group.nd rfl (by first | exact Or.inl rfl | exact Or.inr rfl))) (fun _ _ _ _ _ => dts_nil) (fun _ _ _ _ _ => (de_cmp or_lt (de_ix (de_var 0) (de_bin or_sub (de_var 1) de_int)) (de_ix (de_var 0) (de_var 1)) (nomark _)))) da_nil)))))
theorem ok_is_number (T : Txt K mg f fd) : FnOk P w K mg base (L2.CX P w) 1 (f 4) (fd 4) ["value", "least", "most"] (spF K F_is_number) :=
  fn_den d_is_number T.F_is_number sc_is_number gd_len gd_run fun cdv A outer s H E hr hp ho =>
    (dss_one (ds_ret (de_and (de_isi .int T.z_isinstance T.z_int (by decide +kernel) (de_var 0)) (de_and (de_not (de_isi .bl T.z_isinstance T.z_bool (by decide +kernel) (de_var 0))) (de_one (de_ch or_le or_le (de_var 1) (de_var 0) (de_var 2)))))))
theorem ok_l_pull (T : Txt K mg f fd) : FnOk P w K mg base (L2.CX P w) 1 (f 5) (fd 5) ["_law_bag_here", "_law_many"] (spF K F_l_pull) :=
  fn_den d_l_pull T.F_l_pull sc_l_pull gd_len gd_run fun cdv A outer s H E hr hp ho =>
    (dss_cons (ds_if (dt_w (dw_and (dt_cmp (or_eq hr.units) (de_bagIx (i := 0) 2) de_int (nomark _)) (dw_and1 (dt_cmp or_lt (de_bagIx (i := 0) 1) (de_blt cr_len T.z_len PySem.boot_len (da_cons (de_bagIx (i := 0) 0) da_nil)) (nomark _))))) (dss_cons (ds_set (i := 3) sc_l_pull.nd rfl (by first | exact Or.inl rfl | exact Or.inr rfl) (de_ix (de_bagIx (i := 0) 0) (de_bagIx (i := 0) 1)))
      (dss_cons (ds_bagSet (i := 0) 1 (de_bin or_add (de_bagIx (i := 0) 1) de_int))
      (dss_one (ds_if (dt_cmp or_ge (de_var 3) (de_bin or_pow de_int de_int) (nomark _)) (dss_one (ds_bagSet (i := 0) 2 (de_var 3))) (dss_one (ds_bagSet (i := 0) 3 (de_bin or_mod (de_ty cr_int T.z_int (by decide +kernel) (da_cons (de_bin or_add (de_bin or_add (de_bin or_mul (de_bagIx (i := 0) 3) de_int) (de_bin or_mul (de_bin or_mod (de_ty cr_int T.z_int (by decide +kernel) (da_cons (de_var 3) da_nil)) de_int) de_int)) de_int) da_nil)) de_int))))))) dss_nil)
      (dss_cons (ds_if (dt_cmp or_gt (de_bagIx (i := 0) 2) de_int (nomark _)) (dss_cons (ds_set (i := 4) sc_l_pull.nd rfl (by first | exact Or.inl rfl | exact Or.inr rfl) (de_bin or_mod (de_ty cr_int T.z_int (by decide +kernel) (da_cons (de_bagIx (i := 0) 2) da_nil)) (de_var 1)))
      (dss_cons (ds_bagSet (i := 0) 2 (de_bin or_fdiv (de_bagIx (i := 0) 2) (de_var 1)))
      (dss_one (ds_ret (de_var 4))))) dss_nil)
      (dss_cons (ds_bagSet (i := 0) 4 (de_bin or_add (de_bagIx (i := 0) 4) de_int))
      (dss_cons (ds_set (i := 2) sc_l_pull.nd rfl (by first | exact Or.inl rfl | exact Or.inr rfl) (de_bagIx (i := 0) 3))
      (dss_cons (ds_bagSet (i := 0) 3 (de_bin or_mod (de_ty cr_int T.z_int (by decide +kernel) (da_cons (de_bin or_add (de_bin or_add (de_bin or_add (de_bin or_mul (de_bin or_mul (de_var 2) (de_var 2)) de_int) (de_bin or_mul (de_var 2) de_int)) (de_bin or_mul (de_bagIx (i := 0) 4) de_int)) de_int) da_nil)) de_int))
      (dss_one (ds_ret (de_bin or_mod (de_ty cr_int T.z_int (by decide +kernel) (da_cons (de_bin or_add (de_bin or_fdiv (de_bagIx (i := 0) 3) de_int) (de_bin or_mul (de_bin or_mod (de_ty cr_int T.z_int (by decide +kernel) (da_cons (de_bagIx (i := 0) 3) da_nil)) de_int) de_int)) da_nil)) (de_var 1)))))))))
theorem ok_l_any (T : Txt K mg f fd) : FnOk P w K mg base (L2.CX P w) 2 (f 6) (fd 6) ["_law_bag_here", "_law_things"] (spF K F_l_any) :=
  fn_den d_l_any T.F_l_any sc_l_any gd_len gd_run fun cdv A outer s H E hr hp ho =>
    (dss_one (ds_ret (de_ix (de_var 1) (de_call' (ok_l_pull T) (hr.mono (by decide)) T.g_l_pull T.F_l_pull.kp T.b_l_pull hp (da_cons (de_var 0) (da_cons (de_blt cr_len T.z_len PySem.boot_len (da_cons (de_var 1) da_nil)) da_nil))))))
theorem ok_l_same (T : Txt K mg f fd) : ∀ n : Nat, FnOk P w K mg base (L2.CX P w) (1 + n) (f 7) (fd 7) ["_law_found", "_law_due"] (spF K (F_l_same n))
  | 0 => fn_void
  | n + 1 => have G := ok_l_same T n
    fn_den (d_l_same (F_l_same n)) T.F_l_same sc_l_same gd_len gd_run fun cdv A outer s H E hr hp ho =>
      (dss_cons (ds_if (dt_tru (de_isi2 .lst .tup T.z_isinstance T.z_list T.z_tuple (by decide +kernel) (by decide +kernel) (de_var 1))) (dss_cons (ds_if (dt_w (dw_or (dt_cmp (or_ne hr.units) (de_isi .lst T.z_isinstance T.z_list (by decide +kernel) (de_var 0)) (de_isi .lst T.z_isinstance T.z_list (by decide +kernel) (de_var 1)) (nomark _)) (dw_or1 (dt_cmp (or_ne hr.units) (de_isi .tup T.z_isinstance T.z_tuple (by decide +kernel) (de_var 0)) (de_isi .tup T.z_isinstance T.z_tuple (by decide +kernel) (de_var 1)) (nomark _))))) (dss_one (ds_ret de_bl)) dss_nil)
      (dss_one (ds_ret (de_and (de_cmp (or_eq hr.units) (de_blt cr_len T.z_len PySem.boot_len (da_cons (de_var 0) da_nil)) (de_blt cr_len T.z_len PySem.boot_len (da_cons (de_var 1) da_nil)) (nomark _)) (de_one (de_blt (Dn.cr_all rfl) T.z_all (by decide +kernel) (da_cons (de_lc (.tup [2, 3]) [("_law_one", 2), ("_law_two", 3)] rfl sc_l_same.nd (by decide) (di_zip T.z_zip (da_cons (de_var 0) (da_cons (de_var 1) da_nil))) (blkOk_by (N := N_l_same) (sc := defScope s_l_same) (by decide +kernel)) (fun _ _ _ _ _ => (pg_tup rfl (pgs_cons (pg_name (i := 2) sc_l_same.nd rfl (by first | exact Or.inl rfl | exact Or.inr rfl)) (pgs_cons (pg_name (i := 3) sc_l_same.nd rfl (by first | exact Or.inl rfl | exact Or.inr rfl)) pgs_nil)))) (fun _ _ _ _ _ => dts_nil) (fun _ _ _ _ _ => (de_call' G hr T.g_l_same T.F_l_same.kp T.b_l_same passL (da_cons (de_var 2) (da_cons (de_var 3) da_nil))))) da_nil))))))) dss_nil)
      (dss_cons (ds_if (dt_w (dw_or (dt_isN (de_var 1)) (dw_or1 (dt_isN (de_var 0))))) (dss_one (ds_ret (de_and (de_isN (de_var 1)) (de_one (de_isN (de_var 0)))))) dss_nil)
      (dss_cons (ds_if (dt_w (dw_or (dt_cmp (or_ne hr.units) (de_isi .bl T.z_isinstance T.z_bool (by decide +kernel) (de_var 0)) (de_isi .bl T.z_isinstance T.z_bool (by decide +kernel) (de_var 1)) (nomark _)) (dw_or1 (dt_cmp (or_ne hr.units) (de_isi .int T.z_isinstance T.z_int (by decide +kernel) (de_var 0)) (de_isi .int T.z_isinstance T.z_int (by decide +kernel) (de_var 1)) (nomark _))))) (dss_one (ds_ret de_bl)) dss_nil)
      (dss_one (ds_ret (de_and (de_cmp (or_eq hr.units) (de_isi .str T.z_isinstance T.z_str (by decide +kernel) (de_var 0)) (de_isi .str T.z_isinstance T.z_str (by decide +kernel) (de_var 1)) (nomark _)) (de_one (de_cmp (or_eq hr.units) (de_var 0) (de_var 1) (nomark _)))))))))
theorem ok_l_names (T : Txt K mg f fd) : FnOk P w K mg base (L2.CX P w) 3 (f 8) (fd 8) ["_law_bag_here", "_law_many"] (spF K F_l_names) :=
  fn_den d_l_names T.F_l_names sc_l_names gd_len gd_run fun cdv A outer s H E hr hp ho =>
    (dss_cons (ds_set (i := 2) sc_l_names.nd rfl (by first | exact Or.inl rfl | exact Or.inr rfl) de_str)
      (dss_cons (ds_set (i := 3) sc_l_names.nd rfl (by first | exact Or.inl rfl | exact Or.inr rfl) (de_join de_str (de_lc (.one 6) [("_law_k", 6)] rfl sc_l_names.nd (by decide) (di_range1 T.z_range (da_cons (de_call' (ok_l_pull T) (hr.mono (by decide)) T.g_l_pull T.F_l_pull.kp T.b_l_pull hp (da_cons (de_var 0) (da_cons de_int da_nil))) da_nil)) (blkOk_by (N := N_l_names) (sc := defScope s_l_names) (by decide +kernel)) (fun _ _ _ _ _ => (pg_name (i := 6) sc_l_names.nd rfl (by first | exact Or.inl rfl | exact Or.inr rfl))) (fun _ _ _ _ _ => dts_nil) (fun _ _ _ _ _ => (de_call' (ok_l_any T) (hr.mono (by decide)) T.g_l_any T.F_l_any.kp T.b_l_any passL (da_cons (de_var 0) (da_cons (de_var 2) da_nil))))) (hstr := fun _ _ _ _ h => by cases h; exact ⟨_, rfl⟩)))
      (dss_cons (ds_asg (.tup [4, 5]) (de_tup (da_cons (de_call' (ok_l_pull T) (hr.mono (by decide)) T.g_l_pull T.F_l_pull.kp T.b_l_pull hp (da_cons (de_var 0) (da_cons (de_bin or_add (de_blt cr_len T.z_len PySem.boot_len (da_cons (de_var 3) da_nil)) de_int) da_nil))) (da_cons (de_call' (ok_l_pull T) (hr.mono (by decide)) T.g_l_pull T.F_l_pull.kp T.b_l_pull hp (da_cons (de_var 0) (da_cons de_int da_nil))) da_nil))) (pg_tup rfl (pgs_cons (pg_name (i := 4) sc_l_names.nd rfl (by first | exact Or.inl rfl | exact Or.inr rfl)) (pgs_cons (pg_name (i := 5) sc_l_names.nd rfl (by first | exact Or.inl rfl | exact Or.inr rfl)) pgs_nil))))
      (dss_one (ds_ret (de_lc (.one 6) [("_law_k", 6)] rfl sc_l_names.nd (by decide) (di_range1 T.z_range (da_cons (de_var 1) da_nil)) (blkOk_by (N := N_l_names) (sc := defScope s_l_names) (by decide +kernel)) (fun _ _ _ _ _ => (pg_name (i := 6) sc_l_names.nd rfl (by first | exact Or.inl rfl | exact Or.inr rfl))) (fun _ _ _ _ _ => dts_nil) (fun _ _ _ _ _ => (de_bin or_add (de_bin or_add (de_sl (de_var 3) do_no (do_so (de_var 4))) (de_ix (de_var 2) (de_bin or_mod (de_ty cr_int T.z_int (by decide +kernel) (da_cons (de_bin or_add (de_var 5) (de_bin or_mul de_int (de_var 6))) da_nil)) de_int))) (de_sl (de_var 3) (do_so (de_var 4)) do_no)))))))))
theorem ok_l_bag (T : Txt K mg f fd) : FnOk P w K mg base (L2.CX P w) 1 (f 9) (fd 9) ["_law_script"] (spF K F_l_bag) := ok_bag 10038 T.F_l_bag sc_l_bag T.z_list T.z_len rfl rfl rfl rfl
theorem ok_law (T : Txt K mg f fd) : FnOk P w K mg base (L2.CX P w) 10 (f 10) (fd 10) ["_law_script"] (spF K F_law) :=
  fn_den d_law T.F_law sc_law gd_len gd_run fun cdv A outer s H E hr hp ho =>
    (dss_cons (ds_set (i := 1) sc_law.nd rfl (by first | exact Or.inl rfl | exact Or.inr rfl) (de_call' (ok_l_bag T) (hr.mono (by decide)) T.g_l_bag T.F_l_bag.kp T.b_l_bag hp (da_cons (de_var 0) da_nil)))
      (dss_cons (ds_for (.one 2) ho rfl (di_range1 T.z_range (da_cons de_int da_nil)) (pg_name (i := 2) sc_law.nd rfl (by first | exact Or.inl rfl | exact Or.inr rfl)) (dss_cons (ds_set (i := 6) sc_law.nd rfl (by first | exact Or.inl rfl | exact Or.inr rfl) (de_ix (de_call' (ok_l_names T) (hr.mono (by decide)) T.g_l_names T.F_l_names.kp T.b_l_names hp (da_cons (de_var 1) (da_cons de_int da_nil))) de_int))
      (dss_cons (ds_set (i := 7) sc_law.nd rfl (by first | exact Or.inl rfl | exact Or.inr rfl) (de_call' (ok_l_pull T) (hr.mono (by decide)) T.g_l_pull T.F_l_pull.kp T.b_l_pull hp (da_cons (de_var 1) (da_cons (de_bin or_add (de_blt cr_len T.z_len PySem.boot_len (da_cons (de_var 6) da_nil)) de_int) da_nil))))
      (dss_cons (ds_set (i := 8) sc_law.nd rfl (by first | exact Or.inl rfl | exact Or.inr rfl) (de_bin or_add (de_bin or_add (de_sl (de_var 6) do_no (do_so (de_var 7))) (de_call' (ok_l_any T) (hr.mono (by decide)) T.g_l_any T.F_l_any.kp T.b_l_any hp (da_cons (de_var 1) (da_cons (de_lst (da_cons de_str (da_cons de_str (da_cons de_str (da_cons de_str (da_cons de_str (da_cons de_str (da_cons de_str (da_cons de_str (da_cons de_str (da_cons de_str da_nil))))))))))) da_nil)))) (de_sl (de_var 6) (do_so (de_var 7)) do_no)))
      (dss_cons (ds_set (i := 9) sc_law.nd rfl (by first | exact Or.inl rfl | exact Or.inr rfl) (de_and (de_cmp (or_ne hr.units) (de_var 8) de_str (nomark _)) (de_one (de_blt (Dn.cr_all rfl) T.z_all (by decide +kernel) (da_cons (de_lc (.one 19) [("_law_sign", 19)] rfl sc_law.nd (by decide) (di_seq (de_var 8)) (blkOk_by (N := N_law) (sc := defScope s_law) (by decide +kernel)) (fun _ _ _ _ _ => (pg_name (i := 19) sc_law.nd rfl (by first | exact Or.inl rfl | exact Or.inr rfl))) (fun _ _ _ _ _ => dts_nil) (fun _ _ _ _ _ => (de_cmp or_in (de_var 19) de_str (by rfl)))) da_nil)))))
      (dss_cons (ds_if (dt_not (dt_tru (de_call' (ok_l_same T 8) (hr.mono (by decide)) T.g_l_same T.F_l_same.kp T.b_l_same hp (da_cons (de_lst (da_cons (de_call' (ok_is_name T) (hr.mono (by decide)) T.g_is_name T.F_is_name.kp T.b_is_name hp (da_cons (de_var 8) da_nil)) (da_cons (de_callK0 (is := [0]) (ok_is_piece T) (hr.mono (by decide)) T.g_is_piece T.F_is_piece.kp T.kb_is_piece_0 hp (dk_cons (de_var 8) dk_nil)) da_nil))) (da_cons (de_lst (da_cons (de_and (de_var 9) (de_one (de_cmp or_lt (de_blt cr_len T.z_len PySem.boot_len (da_cons (de_var 8) da_nil)) de_int (nomark _)))) (da_cons (de_and (de_var 9) (de_one (de_cmp or_lt (de_blt cr_len T.z_len PySem.boot_len (da_cons (de_var 8) da_nil)) de_int (nomark _)))) da_nil))) da_nil))))) (dss_one (ds_ret de_bl)) dss_nil)
      (dss_cons (ds_set (i := 10) sc_law.nd rfl (by first | exact Or.inl rfl | exact Or.inr rfl) (de_call' (ok_l_names T) (hr.mono (by decide)) T.g_l_names T.F_l_names.kp T.b_l_names hp (da_cons (de_var 1) (da_cons (de_call' (ok_l_pull T) (hr.mono (by decide)) T.g_l_pull T.F_l_pull.kp T.b_l_pull hp (da_cons (de_var 1) (da_cons de_int da_nil))) da_nil))))
      (dss_cons (ds_set (i := 11) sc_law.nd rfl (by first | exact Or.inl rfl | exact Or.inr rfl) (de_ty cr_tuple T.z_tuple (by decide +kernel) (da_cons (de_call' (ok_l_any T) (hr.mono (by decide)) T.g_l_any T.F_l_any.kp T.b_l_any hp (da_cons (de_var 1) (da_cons (de_lst (da_cons (de_var 10) (da_cons (de_blt cr_sortD T.z_sorted boot_sorted (da_cons (de_var 10) da_nil)) (da_cons (de_bin or_add (de_blt cr_sortD T.z_sorted boot_sorted (da_cons (de_var 10) da_nil)) (de_sl (de_var 10) do_no (do_so de_int))) (da_cons (de_bin or_add (de_blt cr_sortD T.z_sorted boot_sorted (da_cons (de_var 10) da_nil)) (de_lst (da_cons (de_var 8) da_nil))) da_nil))))) da_nil))) da_nil)))
      (dss_cons (ds_set (i := 12) sc_law.nd rfl (by first | exact Or.inl rfl | exact Or.inr rfl) (de_blt (Dn.cr_all rfl) T.z_all (by decide +kernel) (da_cons (de_lc (.one 18) [("_law_name", 18)] rfl sc_law.nd (by decide) (di_seq (de_var 11)) (blkOk_by (N := N_law) (sc := defScope s_law) (by decide +kernel)) (fun _ _ _ _ _ => (pg_name (i := 18) sc_law.nd rfl (by first | exact Or.inl rfl | exact Or.inr rfl))) (fun _ _ _ _ _ => dts_nil) (fun _ _ _ _ _ => (de_and (de_ch or_le or_le de_int (de_blt cr_len T.z_len PySem.boot_len (da_cons (de_var 18) da_nil)) de_int) (de_one (de_blt (Dn.cr_all rfl) T.z_all (by decide +kernel) (da_cons (de_lc (.one 19) [("_law_sign", 19)] rfl sc_law.nd (by decide) (di_seq (de_var 18)) (blkOk_by (by rfl)) (fun _ _ _ _ _ => (pg_name (i := 19) sc_law.nd rfl (by first | exact Or.inl rfl | exact Or.inr rfl))) (fun _ _ _ _ _ => dts_nil) (fun _ _ _ _ _ => (de_cmp or_in (de_var 19) de_str (by rfl)))) da_nil)))))) da_nil)))
      (dss_cons (ds_set (i := 12) sc_law.nd rfl (by first | exact Or.inl rfl | exact Or.inr rfl) (de_and (de_var 12) (de_one (de_cmp (or_eq hr.units) (de_ty cr_list T.z_list (by decide +kernel) (da_cons (de_var 11) da_nil)) (de_sos (by rfl) T.z_sorted T.z_set (de_var 11)) (nomark _)))))
      (dss_cons (ds_if (dt_not (dt_tru (de_call' (ok_l_same T 8) (hr.mono (by decide)) T.g_l_same T.F_l_same.kp T.b_l_same hp (da_cons (de_lst (da_cons (de_call' (ok_is_group T) (hr.mono (by decide)) T.g_is_group T.F_is_group.kp T.b_is_group hp (da_cons (de_var 11) da_nil)) (da_cons (de_callK0 (is := [0]) (ok_is_group T) (hr.mono (by decide)) T.g_is_group T.F_is_group.kp T.kb_is_group_0 hp (dk_cons (de_ty cr_list T.z_list (by decide +kernel) (da_cons (de_var 11) da_nil)) dk_nil)) da_nil))) (da_cons (de_lst (da_cons (de_var 12) (da_cons de_bl da_nil))) da_nil))))) (dss_one (ds_ret de_bl)) dss_nil)
      (dss_cons (ds_par (i := 13) (j := 14) sc_law.nd (da_cons (de_bin or_sub (de_call' (ok_l_pull T) (hr.mono (by decide)) T.g_l_pull T.F_l_pull.kp T.b_l_pull hp (da_cons (de_var 1) (da_cons de_int da_nil))) de_int) (da_cons (de_call' (ok_l_any T) (hr.mono (by decide)) T.g_l_any T.F_l_any.kp T.b_l_any hp (da_cons (de_var 1) (da_cons (de_lst (da_cons de_int (da_cons de_int (da_cons (de_bin or_pow de_int de_int) da_nil)))) da_nil))) da_nil)))
      (dss_cons (ds_set (i := 15) sc_law.nd rfl (by first | exact Or.inl rfl | exact Or.inr rfl) (de_call' (ok_l_any T) (hr.mono (by decide)) T.g_l_any T.F_l_any.kp T.b_l_any hp (da_cons (de_var 1) (da_cons (de_lst (da_cons (de_bin or_sub (de_var 13) de_int) (da_cons (de_var 13) (da_cons (de_bin or_add (de_var 13) (de_var 14)) (da_cons (de_bin or_add (de_bin or_add (de_var 13) (de_var 14)) de_int) (da_cons (de_call' (ok_l_pull T) (hr.mono (by decide)) T.g_l_pull T.F_l_pull.kp T.b_l_pull hp (da_cons (de_var 1) (da_cons (de_bin or_pow de_int de_int) da_nil))) da_nil)))))) da_nil))))
      (dss_cons (ds_set (i := 16) sc_law.nd rfl (by first | exact Or.inl rfl | exact Or.inr rfl) (de_ch or_le or_le (de_var 13) (de_var 15) (de_bin or_add (de_var 13) (de_var 14))))
      (dss_one (ds_if (dt_not (dt_tru (de_call' (ok_l_same T 8) (hr.mono (by decide)) T.g_l_same T.F_l_same.kp T.b_l_same hp (da_cons (de_lst (da_cons (de_call' (ok_is_number T) (hr.mono (by decide)) T.g_is_number T.F_is_number.kp T.b_is_number hp (da_cons (de_var 15) (da_cons (de_var 13) (da_cons (de_bin or_add (de_var 13) (de_var 14)) da_nil)))) (da_cons (de_callK0 (is := [2, 1, 0]) (ok_is_number T) (hr.mono (by decide)) T.g_is_number T.F_is_number.kp T.kb_is_number_2_1_0 hp (dk_cons (de_bin or_add (de_var 13) (de_var 14)) (dk_cons (de_var 13) (dk_cons (de_var 15) dk_nil)))) da_nil))) (da_cons (de_lst (da_cons (de_var 16) (da_cons (de_var 16) da_nil))) da_nil))))) (dss_one (ds_ret de_bl)) dss_nil))))))))))))))))
      (dss_cons (ds_set (i := 3) sc_law.nd rfl (by first | exact Or.inl rfl | exact Or.inr rfl) (de_lst (da_cons de_non (da_cons de_bl (da_cons de_bl (da_cons de_int (da_cons (de_lst da_nil) (da_cons (de_lst (da_cons de_str da_nil)) (da_cons (de_tup (da_cons de_str da_nil)) (da_cons (de_tup (da_cons de_str (da_cons de_int da_nil))) (da_cons de_str da_nil)))))))))))
      (dss_cons (ds_set (i := 4) sc_law.nd rfl (by first | exact Or.inl rfl | exact Or.inr rfl) (de_bin or_add (de_bin or_add (de_lc (.one 17) [("_law_thing", 17)] rfl sc_law.nd (by decide) (di_seq (de_var 3)) (blkOk_by (N := N_law) (sc := defScope s_law) (by decide +kernel)) (fun _ _ _ _ _ => (pg_name (i := 17) sc_law.nd rfl (by first | exact Or.inl rfl | exact Or.inr rfl))) (fun _ _ _ _ _ => dts_nil) (fun _ _ _ _ _ => (de_call' (ok_is_name T) (hr.mono (by decide)) T.g_is_name T.F_is_name.kp T.b_is_name passL (da_cons (de_var 17) da_nil)))) (de_lc (.one 17) [("_law_thing", 17)] rfl sc_law.nd (by decide) (di_seq (de_var 3)) (blkOk_by (N := N_law) (sc := defScope s_law) (by decide +kernel)) (fun _ _ _ _ _ => (pg_name (i := 17) sc_law.nd rfl (by first | exact Or.inl rfl | exact Or.inr rfl))) (fun _ _ _ _ _ => dts_nil) (fun _ _ _ _ _ => (de_call' (ok_is_piece T) (hr.mono (by decide)) T.g_is_piece T.F_is_piece.kp T.b_is_piece passL (da_cons (de_var 17) da_nil))))) (de_lc (.one 17) [("_law_thing", 17)] rfl sc_law.nd (by decide) (di_seq (de_var 3)) (blkOk_by (N := N_law) (sc := defScope s_law) (by decide +kernel)) (fun _ _ _ _ _ => (pg_name (i := 17) sc_law.nd rfl (by first | exact Or.inl rfl | exact Or.inr rfl))) (fun _ _ _ _ _ => dts_nil) (fun _ _ _ _ _ => (de_call' (ok_is_group T) (hr.mono (by decide)) T.g_is_group T.F_is_group.kp T.b_is_group passL (da_cons (de_var 17) da_nil))))))
      (dss_cons (ds_setLc (i := 5) (.one 17) [("_law_thing", 17)] rfl sc_law.nd (by decide) (di_seq (de_lst (da_cons de_non (da_cons de_bl (da_cons de_bl (da_cons de_str (da_cons (de_lst (da_cons de_int da_nil)) (da_cons (de_tup (da_cons de_int da_nil)) da_nil)))))))) (blkOk_by (N := N_law) (sc := defScope s_law) (by decide +kernel)) (fun _ _ _ _ _ => (pg_name (i := 17) sc_law.nd rfl (by first | exact Or.inl rfl | exact Or.inr rfl))) (fun _ _ _ _ _ => dts_nil) (fun _ _ _ _ _ => (de_call' (ok_is_number T) (hr.mono (by decide)) T.g_is_number T.F_is_number.kp T.b_is_number passL (da_cons (de_var 17) (da_cons (de_neg de_int) (da_cons de_int da_nil))))))
      (dss_one (ds_ret (de_call' (ok_l_same T 8) (hr.mono (by decide)) T.g_l_same T.F_l_same.kp T.b_l_same hp (da_cons (de_bin or_add (de_bin or_add (de_var 4) (de_var 5)) (de_lst (da_cons (de_call' (ok_is_group T) (hr.mono (by decide)) T.g_is_group T.F_is_group.kp T.b_is_group hp (da_cons (de_tup da_nil) da_nil)) (da_cons (de_call' (ok_is_group T) (hr.mono (by decide)) T.g_is_group T.F_is_group.kp T.b_is_group hp (da_cons (de_tup (da_cons de_str da_nil)) da_nil)) da_nil)))) (da_cons (de_bin or_add (de_bin or_mul (de_lst (da_cons de_bl da_nil)) de_int) (de_lst (da_cons de_bl (da_cons de_bl da_nil)))) da_nil))))))))))
end
end Dn

set_option Elab.async false
set_option linter.all false
set_option maxRecDepth 100000
set_option maxHeartbeats 4000000
namespace Dn
open PySem PySem.Spec PyProof.Rows L2
/-! ### reading denotations -/
section
variable {α β : Type} {a : α} {st st1 : Sta} {k : α → Sta → Mo β} {Δ : Dl}
theorem bd_ok : bd (some (.ok a, st)) k = k a st := rfl
theorem omap_some {f : α → β} : Option.map f (some a) = some (f a) := rfl
theorem obind_some {f : α → Option β} : Option.bind (some a) f = f a := rfl
theorem if_t {x y : α} : (if true = true then x else y) = x := if_pos rfl
theorem if_f {x y : α} : (if false = true then x else y) = y := if_neg Bool.false_ne_true
end
/-- a list made of pure items -/
theorem lc_pure {t : Tgt} {te : EDen} {Δ : Dl} {st : Sta} (g : D → D) : ∀ (ds acc : List D), (∀ d ∈ ds, ∃ Δ1, t.put d Δ = some Δ1 ∧ te Δ1 st = some (.ok (g d), st)) → acc.length + ds.length ≤ big →
    lcGo t yesT te Δ ds st acc = some (.ok (.lst (acc ++ ds.map g)), st)
  | [], acc, _, _ => by simp [lcGo]
  | d :: ds, acc, h, hl => by
    obtain ⟨Δ1, h1, h2⟩ := h d List.mem_cons_self
    rw [List.length_cons] at hl
    unfold lcGo
    rw [h1, obind_some]
    show (match te Δ1 st with | some (.ok y, st2) => if acc.length < big then lcGo t yesT te Δ ds st2 (acc ++ [y]) else none | _ => none) = _
    rw [h2]
    simp only
    rw [if_pos (by omega), lc_pure g ds (acc ++ [g d]) (fun x hx => h x (List.mem_cons_of_mem _ hx)) (by rw [List.length_append, List.length_singleton]; omega), List.append_assoc] <;> rfl
theorem bls_map (bs : List Bool) : bls (bs.map .bl) = some bs := by
  induction bs with
  | nil => rfl
  | cons b bs ih => simp only [List.map_cons, bls, ih, Option.map]
def lowC (c : Nat) : Bool := decide (97 ≤ c) && decide (c ≤ 122)
def lowS (z : Str) : Bool := z.cps.toList.all lowC
theorem sLt_one (a b : Nat) : sLt ⟨#[a]⟩ ⟨#[b]⟩ = decide (a < b) := by
  unfold sLt
  simp only [List.cons_lt_cons_iff]
  simp
theorem leD_i (i j : Int) : leD (.int i) (.int j) = some (.bl (decide (i ≤ j))) := rfl
theorem leD_s (x y : Str) : leD (.str x) (.str y) = some (.bl (!sLt y x)) := rfl
theorem ltD_i (i j : Int) : ltD (.int i) (.int j) = some (.bl (decide (i < j))) := rfl
theorem ltD_s (x y : Str) : ltD (.str x) (.str y) = some (.bl (sLt x y)) := rfl
theorem gtD_i (i j : Int) : gtD (.int i) (.int j) = some (.bl (decide (j < i))) := rfl
theorem geD_i (i j : Int) : geD (.int i) (.int j) = some (.bl (decide (j ≤ i))) := rfl
theorem addD_i (i j : Int) : addD (.int i) (.int j) = some (.int (i + j)) := rfl
theorem subD_i (i j : Int) : subD (.int i) (.int j) = some (.int (i - j)) := rfl
theorem mulD_i (i j : Int) : mulD (.int i) (.int j) = (mulI i j).map .int := rfl
theorem lb0 : (0 ≤ big) = True := eq_true (by decide)
theorem lb1 : (1 ≤ big) = True := eq_true (by decide)
theorem lb2 : (2 ≤ big) = True := eq_true (by decide)
theorem lb3 : (3 ≤ big) = True := eq_true (by decide)
theorem lb4 : (4 ≤ big) = True := eq_true (by decide)
theorem lb5 : (5 ≤ big) = True := eq_true (by decide)
theorem lb6 : (6 ≤ big) = True := eq_true (by decide)
theorem lb7 : (7 ≤ big) = True := eq_true (by decide)
theorem lb8 : (8 ≤ big) = True := eq_true (by decide)
theorem lb9 : (9 ≤ big) = True := eq_true (by decide)
theorem lb10 : (10 ≤ big) = True := eq_true (by decide)
theorem lb11 : (11 ≤ big) = True := eq_true (by decide)
theorem lb12 : (12 ≤ big) = True := eq_true (by decide)
theorem s_a : Str.ofString "a" = ⟨#[97]⟩ := rfl
theorem s_z : Str.ofString "z" = ⟨#[122]⟩ := rfl
theorem sLt_a (c : Nat) : (!sLt ⟨#[c]⟩ ⟨#[97]⟩) = decide (97 ≤ c) := by
  rw [sLt_one, Bool.eq_iff_iff, Bool.not_eq_true', decide_eq_false_iff_not, decide_eq_true_eq]
  omega
theorem sLt_z (c : Nat) : (!sLt ⟨#[122]⟩ ⟨#[c]⟩) = decide (c ≤ 122) := by
  rw [sLt_one, Bool.eq_iff_iff, Bool.not_eq_true', decide_eq_false_iff_not, decide_eq_true_eq]
  omega
def lowD : D → D
  | .str z => .bl (lowC (z.cps.getD 0 0))
  | d => d
theorem is_word_str (z : Str) (m : Int) (st : Sta) (hz : z.length ≤ big) : F_is_word [.str z, .int m] st = some (.ok (.bl (decide (1 ≤ (z.length : Int)) && (decide ((z.length : Int) ≤ m) && lowS z))), st) := by
  have hl := lc_pure (t := .one 2) (te := chP leD leD (cstP (.str "a")) (varP 2) (cstP (.str "z"))) (Δ := [some (.str z), some (.int m), none]) (st := st) lowD (z.cps.toList.map fun c => .str ⟨#[c]⟩) [] (fun d hd => by
    obtain ⟨c, _, rfl⟩ := List.mem_map.mp hd
    refine ⟨_, rfl, ?_⟩
    simp only [gd, runD, callP, kwF, pick, rtP, sqP, asP, parP, nxP, ifP, andV, orV, notV, andT, orT, notT, truP, tstP, truD, isiP, isisP, isTys, isNP, notNP, isNon, varP, chP, cstP, bltP, binP, consP, nilP, lstP, tupP, lcP, itP, rng1P, rng2P, slP, noP, soP, intOf, negP, sosP, bd_ok, List.map, List.replicate, List.length_cons, List.length_nil, List.cons_append, List.nil_append, List.append_nil, List.getElem?_cons_zero, List.getElem?_cons_succ, List.filterMap, List.set, omap_some, obind_some, isTy, blOf, if_t, if_f, lenF, leD_i, leD_s, ltD_i, ltD_s, gtD_i, geD_i, addD_i, subD_i, mulD_i, itemsD, wipeD, Tgt.put, setAll, outR, lb0, lb1, lb2, lb3, lb4, lb5, lb6, lb7, lb8, lb9, lb10, lb11, lb12, allF, listF, tupleF, intF, eq_self_iff_true, if_true, if_false, decide_true, decide_false, Bool.true_and, Bool.false_and, Bool.and_true, Bool.and_false, Bool.not_true, Bool.not_false, Nat.sub_self, Nat.reduceAdd, Nat.reduceSub, Nat.reduceEqDiff, s_a, s_z, sLt_a, sLt_z]
    show (if decide (97 ≤ c) = true then some (Except.ok (D.bl (decide (c ≤ 122))), st) else some (Except.ok (D.bl false), st)) = some (.ok (.bl (lowC c)), st)
    unfold lowC
    cases decide (97 ≤ c) <;> rfl) (by rw [List.length_map, List.length_nil, Nat.zero_add]; exact hz)
  rw [List.nil_append, List.map_map, show (lowD ∘ fun c => D.str ⟨#[c]⟩) = (D.bl ∘ lowC) from rfl, ← List.map_map] at hl
  unfold F_is_word d_is_word
  simp only [gd, runD, callP, kwF, pick, rtP, sqP, asP, parP, nxP, ifP, andV, orV, notV, andT, orT, notT, truP, tstP, truD, isiP, isisP, isTys, isNP, notNP, isNon, varP, chP, cstP, bltP, binP, consP, nilP, lstP, tupP, lcP, itP, rng1P, rng2P, slP, noP, soP, intOf, negP, sosP, bd_ok, List.map, List.replicate, List.length_cons, List.length_nil, List.cons_append, List.nil_append, List.append_nil, List.getElem?_cons_zero, List.getElem?_cons_succ, List.filterMap, List.set, omap_some, obind_some, isTy, blOf, if_t, if_f, lenF, leD_i, leD_s, ltD_i, ltD_s, gtD_i, geD_i, addD_i, subD_i, mulD_i, itemsD, wipeD, Tgt.put, setAll, outR, lb0, lb1, lb2, lb3, lb4, lb5, lb6, lb7, lb8, lb9, lb10, lb11, lb12, allF, listF, tupleF, intF, eq_self_iff_true, if_true, if_false, decide_true, decide_false, Bool.true_and, Bool.false_and, Bool.and_true, Bool.and_false, Bool.not_true, Bool.not_false, Nat.sub_self, Nat.reduceAdd, Nat.reduceSub, Nat.reduceEqDiff, if_pos hz, hl, bls_map]
  cases h1 : decide (1 ≤ (z.length : Int))
  · simp only [gd, runD, callP, kwF, pick, rtP, sqP, asP, parP, nxP, ifP, andV, orV, notV, andT, orT, notT, truP, tstP, truD, isiP, isisP, isTys, isNP, notNP, isNon, varP, chP, cstP, bltP, binP, consP, nilP, lstP, tupP, lcP, itP, rng1P, rng2P, slP, noP, soP, intOf, negP, sosP, bd_ok, List.map, List.replicate, List.length_cons, List.length_nil, List.cons_append, List.nil_append, List.append_nil, List.getElem?_cons_zero, List.getElem?_cons_succ, List.filterMap, List.set, omap_some, obind_some, isTy, blOf, if_t, if_f, lenF, leD_i, leD_s, ltD_i, ltD_s, gtD_i, geD_i, addD_i, subD_i, mulD_i, itemsD, wipeD, Tgt.put, setAll, outR, lb0, lb1, lb2, lb3, lb4, lb5, lb6, lb7, lb8, lb9, lb10, lb11, lb12, allF, listF, tupleF, intF, eq_self_iff_true, if_true, if_false, decide_true, decide_false, Bool.true_and, Bool.false_and, Bool.and_true, Bool.and_false, Bool.not_true, Bool.not_false, Nat.sub_self, Nat.reduceAdd, Nat.reduceSub, Nat.reduceEqDiff]
  · simp only [gd, runD, callP, kwF, pick, rtP, sqP, asP, parP, nxP, ifP, andV, orV, notV, andT, orT, notT, truP, tstP, truD, isiP, isisP, isTys, isNP, notNP, isNon, varP, chP, cstP, bltP, binP, consP, nilP, lstP, tupP, lcP, itP, rng1P, rng2P, slP, noP, soP, intOf, negP, sosP, bd_ok, List.map, List.replicate, List.length_cons, List.length_nil, List.cons_append, List.nil_append, List.append_nil, List.getElem?_cons_zero, List.getElem?_cons_succ, List.filterMap, List.set, omap_some, obind_some, isTy, blOf, if_t, if_f, lenF, leD_i, leD_s, ltD_i, ltD_s, gtD_i, geD_i, addD_i, subD_i, mulD_i, itemsD, wipeD, Tgt.put, setAll, outR, lb0, lb1, lb2, lb3, lb4, lb5, lb6, lb7, lb8, lb9, lb10, lb11, lb12, allF, listF, tupleF, intF, eq_self_iff_true, if_true, if_false, decide_true, decide_false, Bool.true_and, Bool.false_and, Bool.and_true, Bool.and_false, Bool.not_true, Bool.not_false, Nat.sub_self, Nat.reduceAdd, Nat.reduceSub, Nat.reduceEqDiff]
    cases h2 : decide ((z.length : Int) ≤ m)
    · simp only [gd, runD, callP, kwF, pick, rtP, sqP, asP, parP, nxP, ifP, andV, orV, notV, andT, orT, notT, truP, tstP, truD, isiP, isisP, isTys, isNP, notNP, isNon, varP, chP, cstP, bltP, binP, consP, nilP, lstP, tupP, lcP, itP, rng1P, rng2P, slP, noP, soP, intOf, negP, sosP, bd_ok, List.map, List.replicate, List.length_cons, List.length_nil, List.cons_append, List.nil_append, List.append_nil, List.getElem?_cons_zero, List.getElem?_cons_succ, List.filterMap, List.set, omap_some, obind_some, isTy, blOf, if_t, if_f, lenF, leD_i, leD_s, ltD_i, ltD_s, gtD_i, geD_i, addD_i, subD_i, mulD_i, itemsD, wipeD, Tgt.put, setAll, outR, lb0, lb1, lb2, lb3, lb4, lb5, lb6, lb7, lb8, lb9, lb10, lb11, lb12, allF, listF, tupleF, intF, eq_self_iff_true, if_true, if_false, decide_true, decide_false, Bool.true_and, Bool.false_and, Bool.and_true, Bool.and_false, Bool.not_true, Bool.not_false, Nat.sub_self, Nat.reduceAdd, Nat.reduceSub, Nat.reduceEqDiff]
    · simp only [gd, runD, callP, kwF, pick, rtP, sqP, asP, parP, nxP, ifP, andV, orV, notV, andT, orT, notT, truP, tstP, truD, isiP, isisP, isTys, isNP, notNP, isNon, varP, chP, cstP, bltP, binP, consP, nilP, lstP, tupP, lcP, itP, rng1P, rng2P, slP, noP, soP, intOf, negP, sosP, bd_ok, List.map, List.replicate, List.length_cons, List.length_nil, List.cons_append, List.nil_append, List.append_nil, List.getElem?_cons_zero, List.getElem?_cons_succ, List.filterMap, List.set, omap_some, obind_some, isTy, blOf, if_t, if_f, lenF, leD_i, leD_s, ltD_i, ltD_s, gtD_i, geD_i, addD_i, subD_i, mulD_i, itemsD, wipeD, Tgt.put, setAll, outR, lb0, lb1, lb2, lb3, lb4, lb5, lb6, lb7, lb8, lb9, lb10, lb11, lb12, allF, listF, tupleF, intF, eq_self_iff_true, if_true, if_false, decide_true, decide_false, Bool.true_and, Bool.false_and, Bool.and_true, Bool.and_false, Bool.not_true, Bool.not_false, Nat.sub_self, Nat.reduceAdd, Nat.reduceSub, Nat.reduceEqDiff, hl, bls_map]
      unfold lowS
      rw [List.all_map]
      rfl
end Dn

set_option Elab.async false
set_option linter.all false
set_option maxRecDepth 100000
set_option maxHeartbeats 4000000
namespace Dn
open PySem PySem.Spec PyProof.Rows L2
theorem eqD_i (i j : Int) : eqD (.int i) (.int j) = some (.bl (i == j)) := rfl
theorem pw18 : intD powI (.int 10) (.int 18) = some (.int 1000000000000000000) := by
  show (powI 10 18).map D.int = _
  have : powI 10 18 = some 1000000000000000000 := by decide +kernel
  rw [this] <;> rfl
theorem mulK (i j : Int) (h : -two64 < j ∧ j < two64) : mulI i j = some (i * j) := if_pos (.inr h)
theorem mulS (i j : Int) (h : -two64 < i ∧ i < two64) : mulI i j = some (i * j) := if_pos (.inl h)
theorem modD (i j : Int) (h : 0 < j) : intD modI (.int i) (.int j) = some (.int (i % j)) := by
  show (modI i j).map D.int = _
  rw [show modI i j = some (i % j) from if_pos h] <;> rfl
theorem fdivD (i j : Int) (h : 0 < j ∧ j < 1073741824) : intD fdivI (.int i) (.int j) = some (.int (i / j)) := by
  show (fdivI i j).map D.int = _
  rw [show fdivI i j = some (i / j) from if_pos h] <;> rfl
def okB (b : BagSt) : Prop := 0 ≤ b.seed ∧ b.seed < 4294967296
theorem ixI (cs : List Int) (n : Nat) (h : n < cs.length) : ixD (.lst (cs.map D.int)) (.int n) = some (.int cs[n]) := by
  show atI _ _ = _
  unfold atI ixN
  rw [List.length_map, if_pos (by omega), if_pos (by omega)]
  simp [h]
theorem sq_step {t u : SDen} {Δ Δ1 : Dl} {st st1 : Sta} {r : Mo Out} (h : t Δ st = some (.ok (.nx Δ1), st1)) (h2 : u Δ1 st1 = r) : sqP t u Δ st = r := by
  unfold sqP
  rw [h]
  exact h2
theorem sq_ret {t u : SDen} {Δ : Dl} {st st1 : Sta} {d : D} (h : t Δ st = some (.ok (.rt d), st1)) : sqP t u Δ st = some (.ok (.rt d), st1) := by
  unfold sqP
  rw [h] <;> rfl
theorem run_ret {t : SDen} {n k : Nat} {ds : List D} {st st1 : Sta} {d : D} (hk : ds.length = k) (h : t (ds.map some ++ List.replicate (n - ds.length) none) st = some (.ok (.rt d), st1)) : gd k (runD t n) ds st = some (.ok d, st1) := by
  unfold gd runD
  rw [if_pos hk, h] <;> rfl
theorem if_tt {α : Type} {c : TDen} {a b : Den α} {Δ : Dl} {st st1 : Sta} {r : Mo α} (h : c Δ st = some (.ok true, st1)) (h2 : a Δ st1 = r) : ifP c a b Δ st = r := by
  unfold ifP
  rw [h]
  exact h2
theorem if_ff {α : Type} {c : TDen} {a b : Den α} {Δ : Dl} {st st1 : Sta} {r : Mo α} (h : c Δ st = some (.ok false, st1)) (h2 : b Δ st1 = r) : ifP c a b Δ st = r := by
  unfold ifP
  rw [h]
  exact h2
/-- the second half of a draw -/
theorem pull_tail (cells : List Int) (at_ : Nat) (rest seed cnt : Int) (x3 : Option D) (scr : Option (Addr × List Int)) (own : List (Nat × Cell)) (m : Int) (hb1 : 0 ≤ seed) (hb2 : seed < 4294967296) (h1 : 0 < m) (h2 : m < 1073741824) (u : SDen) (v : SDen)
    (hu : u = (ifP (tstP (binP gtD (bagIx 0 2) (cstP (.int 0)))) (sqP (asP (.one 4) (binP (intD modI) (bltP intF (consP (bagIx 0 2) nilP)) (varP 1))) (sqP (bagSet 0 2 (binP (intD fdivI) (bagIx 0 2) (varP 1))) (rtP (varP 4)))) nxP))
    (hv : v = (sqP (bagSet 0 4 (binP addD (bagIx 0 4) (cstP (.int 1)))) (sqP (asP (.one 2) (bagIx 0 3)) (sqP (bagSet 0 3 (binP (intD modI) (bltP intF (consP (binP addD (binP addD (binP addD (binP mulD (binP mulD (varP 2) (varP 2)) (cstP (.int 5))) (binP mulD (varP 2) (cstP (.int 31153)))) (binP mulD (bagIx 0 4) (cstP (.int 1299827)))) (cstP (.int 70001))) nilP)) (cstP (.int 2147483549))))
      (rtP (binP (intD modI) (bltP intF (consP (binP addD (binP (intD fdivI) (bagIx 0 3) (cstP (.int 71))) (binP mulD (binP (intD modI) (bltP intF (consP (bagIx 0 3) nilP)) (cstP (.int 7907))) (cstP (.int 61)))) nilP)) (varP 1))))))) :
    ∃ r b', sqP u v [some (.hnd 0), some (.int m), none, x3, none] ⟨some ⟨cells, at_, rest, seed, cnt⟩, scr, own⟩ = some (.ok (.rt (.int r)), ⟨some b', scr, own⟩) ∧ 0 ≤ r ∧ r < m ∧ okB b' := by
  subst hu
  subst hv
  have hs : -two64 < seed ∧ seed < two64 := by unfold two64; omega
  by_cases c : 0 < rest
  · refine ⟨rest % m, ⟨cells, at_, rest / m, seed, cnt⟩, sq_ret (if_tt (st1 := ⟨some ⟨cells, at_, rest, seed, cnt⟩, scr, own⟩) (by simp only [gd, runD, callP, kwF, pick, rtP, sqP, asP, parP, nxP, ifP, andV, orV, notV, andT, orT, notT, truP, tstP, truD, isiP, isisP, isTys, isNP, notNP, isNon, varP, chP, cstP, bltP, binP, consP, nilP, lstP, tupP, lcP, itP, rng1P, rng2P, slP, noP, soP, intOf, negP, sosP, bd_ok, List.map, List.replicate, List.length_cons, List.length_nil, List.cons_append, List.nil_append, List.append_nil, List.getElem?_cons_zero, List.getElem?_cons_succ, List.filterMap, List.set, omap_some, obind_some, isTy, blOf, if_t, if_f, lenF, leD_i, leD_s, ltD_i, ltD_s, gtD_i, geD_i, addD_i, subD_i, mulD_i, itemsD, wipeD, Tgt.put, setAll, outR, lb0, lb1, lb2, lb3, lb4, lb5, lb6, lb7, lb8, lb9, lb10, lb11, lb12, allF, listF, tupleF, intF, eq_self_iff_true, if_true, if_false, decide_true, decide_false, Bool.true_and, Bool.false_and, Bool.and_true, Bool.and_false, Bool.not_true, Bool.not_false, Nat.sub_self, Nat.reduceAdd, Nat.reduceSub, Nat.reduceEqDiff, bagIx, isBag, BagSt.item, c]) ?_), Int.emod_nonneg _ (by omega), Int.emod_lt_of_pos _ h1, hb1, hb2⟩
    (apply sq_step; focus (simp only [gd, runD, callP, kwF, pick, rtP, sqP, asP, parP, nxP, ifP, andV, orV, notV, andT, orT, notT, truP, tstP, truD, isiP, isisP, isTys, isNP, notNP, isNon, varP, chP, cstP, bltP, binP, consP, nilP, lstP, tupP, lcP, itP, rng1P, rng2P, slP, noP, soP, intOf, negP, sosP, bd_ok, List.map, List.replicate, List.length_cons, List.length_nil, List.cons_append, List.nil_append, List.append_nil, List.getElem?_cons_zero, List.getElem?_cons_succ, List.filterMap, List.set, omap_some, obind_some, isTy, blOf, if_t, if_f, lenF, leD_i, leD_s, ltD_i, ltD_s, gtD_i, geD_i, addD_i, subD_i, mulD_i, itemsD, wipeD, Tgt.put, setAll, outR, lb0, lb1, lb2, lb3, lb4, lb5, lb6, lb7, lb8, lb9, lb10, lb11, lb12, allF, listF, tupleF, intF, eq_self_iff_true, if_true, if_false, decide_true, decide_false, Bool.true_and, Bool.false_and, Bool.and_true, Bool.and_false, Bool.not_true, Bool.not_false, Nat.sub_self, Nat.reduceAdd, Nat.reduceSub, Nat.reduceEqDiff, bagIx, isBag, BagSt.item, modD _ _ h1]; first | done | rfl))
    (apply sq_step; focus (simp only [gd, runD, callP, kwF, pick, rtP, sqP, asP, parP, nxP, ifP, andV, orV, notV, andT, orT, notT, truP, tstP, truD, isiP, isisP, isTys, isNP, notNP, isNon, varP, chP, cstP, bltP, binP, consP, nilP, lstP, tupP, lcP, itP, rng1P, rng2P, slP, noP, soP, intOf, negP, sosP, bd_ok, List.map, List.replicate, List.length_cons, List.length_nil, List.cons_append, List.nil_append, List.append_nil, List.getElem?_cons_zero, List.getElem?_cons_succ, List.filterMap, List.set, omap_some, obind_some, isTy, blOf, if_t, if_f, lenF, leD_i, leD_s, ltD_i, ltD_s, gtD_i, geD_i, addD_i, subD_i, mulD_i, itemsD, wipeD, Tgt.put, setAll, outR, lb0, lb1, lb2, lb3, lb4, lb5, lb6, lb7, lb8, lb9, lb10, lb11, lb12, allF, listF, tupleF, intF, eq_self_iff_true, if_true, if_false, decide_true, decide_false, Bool.true_and, Bool.false_and, Bool.and_true, Bool.and_false, Bool.not_true, Bool.not_false, Nat.sub_self, Nat.reduceAdd, Nat.reduceSub, Nat.reduceEqDiff, bagIx, bagSet, isBag, BagSt.item, BagSt.put, fdivD _ _ ⟨h1, h2⟩]; first | done | rfl))
    simp only [gd, runD, callP, kwF, pick, rtP, sqP, asP, parP, nxP, ifP, andV, orV, notV, andT, orT, notT, truP, tstP, truD, isiP, isisP, isTys, isNP, notNP, isNon, varP, chP, cstP, bltP, binP, consP, nilP, lstP, tupP, lcP, itP, rng1P, rng2P, slP, noP, soP, intOf, negP, sosP, bd_ok, List.map, List.replicate, List.length_cons, List.length_nil, List.cons_append, List.nil_append, List.append_nil, List.getElem?_cons_zero, List.getElem?_cons_succ, List.filterMap, List.set, omap_some, obind_some, isTy, blOf, if_t, if_f, lenF, leD_i, leD_s, ltD_i, ltD_s, gtD_i, geD_i, addD_i, subD_i, mulD_i, itemsD, wipeD, Tgt.put, setAll, outR, lb0, lb1, lb2, lb3, lb4, lb5, lb6, lb7, lb8, lb9, lb10, lb11, lb12, allF, listF, tupleF, intF, eq_self_iff_true, if_true, if_false, decide_true, decide_false, Bool.true_and, Bool.false_and, Bool.and_true, Bool.and_false, Bool.not_true, Bool.not_false, Nat.sub_self, Nat.reduceAdd, Nat.reduceSub, Nat.reduceEqDiff]
  · have m1 : mulD (.int seed) (.int seed) = some (.int (seed * seed)) := by show (mulI seed seed).map D.int = _; rw [mulS seed seed hs] <;> rfl
    have k5 : -two64 < (5 : Int) ∧ (5 : Int) < two64 := by decide
    let s2 : Int := (seed * seed * 5 + seed * 31153 + (cnt + 1) * 1299827 + 70001) % 2147483549
    have s2a : 0 ≤ s2 := Int.emod_nonneg _ (by decide)
    have s2b : s2 < 2147483549 := Int.emod_lt_of_pos _ (by decide)
    refine ⟨(s2 / 71 + s2 % 7907 * 61) % m, ⟨cells, at_, rest, s2, cnt + 1⟩, sq_step (if_ff (st1 := ⟨some ⟨cells, at_, rest, seed, cnt⟩, scr, own⟩) (by simp only [gd, runD, callP, kwF, pick, rtP, sqP, asP, parP, nxP, ifP, andV, orV, notV, andT, orT, notT, truP, tstP, truD, isiP, isisP, isTys, isNP, notNP, isNon, varP, chP, cstP, bltP, binP, consP, nilP, lstP, tupP, lcP, itP, rng1P, rng2P, slP, noP, soP, intOf, negP, sosP, bd_ok, List.map, List.replicate, List.length_cons, List.length_nil, List.cons_append, List.nil_append, List.append_nil, List.getElem?_cons_zero, List.getElem?_cons_succ, List.filterMap, List.set, omap_some, obind_some, isTy, blOf, if_t, if_f, lenF, leD_i, leD_s, ltD_i, ltD_s, gtD_i, geD_i, addD_i, subD_i, mulD_i, itemsD, wipeD, Tgt.put, setAll, outR, lb0, lb1, lb2, lb3, lb4, lb5, lb6, lb7, lb8, lb9, lb10, lb11, lb12, allF, listF, tupleF, intF, eq_self_iff_true, if_true, if_false, decide_true, decide_false, Bool.true_and, Bool.false_and, Bool.and_true, Bool.and_false, Bool.not_true, Bool.not_false, Nat.sub_self, Nat.reduceAdd, Nat.reduceSub, Nat.reduceEqDiff, bagIx, isBag, BagSt.item, c]) rfl) ?_, Int.emod_nonneg _ (by omega), Int.emod_lt_of_pos _ h1, s2a, by show s2 < _; omega⟩
    (apply sq_step; focus (simp only [gd, runD, callP, kwF, pick, rtP, sqP, asP, parP, nxP, ifP, andV, orV, notV, andT, orT, notT, truP, tstP, truD, isiP, isisP, isTys, isNP, notNP, isNon, varP, chP, cstP, bltP, binP, consP, nilP, lstP, tupP, lcP, itP, rng1P, rng2P, slP, noP, soP, intOf, negP, sosP, bd_ok, List.map, List.replicate, List.length_cons, List.length_nil, List.cons_append, List.nil_append, List.append_nil, List.getElem?_cons_zero, List.getElem?_cons_succ, List.filterMap, List.set, omap_some, obind_some, isTy, blOf, if_t, if_f, lenF, leD_i, leD_s, ltD_i, ltD_s, gtD_i, geD_i, addD_i, subD_i, mulD_i, itemsD, wipeD, Tgt.put, setAll, outR, lb0, lb1, lb2, lb3, lb4, lb5, lb6, lb7, lb8, lb9, lb10, lb11, lb12, allF, listF, tupleF, intF, eq_self_iff_true, if_true, if_false, decide_true, decide_false, Bool.true_and, Bool.false_and, Bool.and_true, Bool.and_false, Bool.not_true, Bool.not_false, Nat.sub_self, Nat.reduceAdd, Nat.reduceSub, Nat.reduceEqDiff, bagIx, bagSet, isBag, BagSt.item, BagSt.put]; first | done | rfl))
    (apply sq_step; focus (simp only [gd, runD, callP, kwF, pick, rtP, sqP, asP, parP, nxP, ifP, andV, orV, notV, andT, orT, notT, truP, tstP, truD, isiP, isisP, isTys, isNP, notNP, isNon, varP, chP, cstP, bltP, binP, consP, nilP, lstP, tupP, lcP, itP, rng1P, rng2P, slP, noP, soP, intOf, negP, sosP, bd_ok, List.map, List.replicate, List.length_cons, List.length_nil, List.cons_append, List.nil_append, List.append_nil, List.getElem?_cons_zero, List.getElem?_cons_succ, List.filterMap, List.set, omap_some, obind_some, isTy, blOf, if_t, if_f, lenF, leD_i, leD_s, ltD_i, ltD_s, gtD_i, geD_i, addD_i, subD_i, mulD_i, itemsD, wipeD, Tgt.put, setAll, outR, lb0, lb1, lb2, lb3, lb4, lb5, lb6, lb7, lb8, lb9, lb10, lb11, lb12, allF, listF, tupleF, intF, eq_self_iff_true, if_true, if_false, decide_true, decide_false, Bool.true_and, Bool.false_and, Bool.and_true, Bool.and_false, Bool.not_true, Bool.not_false, Nat.sub_self, Nat.reduceAdd, Nat.reduceSub, Nat.reduceEqDiff, bagIx, isBag, BagSt.item]; first | done | rfl))
    (apply sq_step; focus (simp only [gd, runD, callP, kwF, pick, rtP, sqP, asP, parP, nxP, ifP, andV, orV, notV, andT, orT, notT, truP, tstP, truD, isiP, isisP, isTys, isNP, notNP, isNon, varP, chP, cstP, bltP, binP, consP, nilP, lstP, tupP, lcP, itP, rng1P, rng2P, slP, noP, soP, intOf, negP, sosP, bd_ok, List.map, List.replicate, List.length_cons, List.length_nil, List.cons_append, List.nil_append, List.append_nil, List.getElem?_cons_zero, List.getElem?_cons_succ, List.filterMap, List.set, omap_some, obind_some, isTy, blOf, if_t, if_f, lenF, leD_i, leD_s, ltD_i, ltD_s, gtD_i, geD_i, addD_i, subD_i, mulD_i, itemsD, wipeD, Tgt.put, setAll, outR, lb0, lb1, lb2, lb3, lb4, lb5, lb6, lb7, lb8, lb9, lb10, lb11, lb12, allF, listF, tupleF, intF, eq_self_iff_true, if_true, if_false, decide_true, decide_false, Bool.true_and, Bool.false_and, Bool.and_true, Bool.and_false, Bool.not_true, Bool.not_false, Nat.sub_self, Nat.reduceAdd, Nat.reduceSub, Nat.reduceEqDiff, bagIx, bagSet, isBag, BagSt.item, BagSt.put, m1, mulK _ 5 (by decide), mulK _ 31153 (by decide), mulK _ 1299827 (by decide), modD _ 2147483549 (by decide)]; first | done | rfl))
    simp only [gd, runD, callP, kwF, pick, rtP, sqP, asP, parP, nxP, ifP, andV, orV, notV, andT, orT, notT, truP, tstP, truD, isiP, isisP, isTys, isNP, notNP, isNon, varP, chP, cstP, bltP, binP, consP, nilP, lstP, tupP, lcP, itP, rng1P, rng2P, slP, noP, soP, intOf, negP, sosP, bd_ok, List.map, List.replicate, List.length_cons, List.length_nil, List.cons_append, List.nil_append, List.append_nil, List.getElem?_cons_zero, List.getElem?_cons_succ, List.filterMap, List.set, omap_some, obind_some, isTy, blOf, if_t, if_f, lenF, leD_i, leD_s, ltD_i, ltD_s, gtD_i, geD_i, addD_i, subD_i, mulD_i, itemsD, wipeD, Tgt.put, setAll, outR, lb0, lb1, lb2, lb3, lb4, lb5, lb6, lb7, lb8, lb9, lb10, lb11, lb12, allF, listF, tupleF, intF, eq_self_iff_true, if_true, if_false, decide_true, decide_false, Bool.true_and, Bool.false_and, Bool.and_true, Bool.and_false, Bool.not_true, Bool.not_false, Nat.sub_self, Nat.reduceAdd, Nat.reduceSub, Nat.reduceEqDiff, bagIx, isBag, BagSt.item, mulK _ 61 (by decide), modD _ 7907 (by decide), fdivD _ 71 (by decide), modD _ _ h1]
    rfl
theorem pull_ok (b : BagSt) (scr : Option (Addr × List Int)) (own : List (Nat × Cell)) (m : Int) (hb : okB b) (h1 : 0 < m) (h2 : m < 1073741824) :
    ∃ r b', F_l_pull [.hnd 0, .int m] ⟨some b, scr, own⟩ = some (.ok (.int r), ⟨some b', scr, own⟩) ∧ 0 ≤ r ∧ r < m ∧ okB b' := by
  obtain ⟨cells, at_, rest, seed, cnt⟩ := b
  obtain ⟨hb1, hb2⟩ := hb
  simp only at hb1 hb2
  have fin : ∀ {r b'}, d_l_pull [some (.hnd 0), some (.int m), none, none, none] ⟨some ⟨cells, at_, rest, seed, cnt⟩, scr, own⟩ = some (.ok (.rt (.int r)), ⟨some b', scr, own⟩) ∧ 0 ≤ r ∧ r < m ∧ okB b' →
      ∃ r b', F_l_pull [.hnd 0, .int m] ⟨some ⟨cells, at_, rest, seed, cnt⟩, scr, own⟩ = some (.ok (.int r), ⟨some b', scr, own⟩) ∧ 0 ≤ r ∧ r < m ∧ okB b' := fun {r b'} h => ⟨r, b', run_ret rfl h.1, h.2⟩
  unfold d_l_pull at fin
  have tail := fun rest' at' seed' x3 h1' h2' => pull_tail cells at' rest' seed' cnt x3 scr own m h1' h2' h1 h2 _ _ rfl rfl
  by_cases c1 : rest = 0
  · subst c1
    by_cases c2 : at_ < cells.length
    · have c2' : (at_ : Int) < (cells.length : Int) := by omega
      have ix := ixI cells at_ c2
      have pos : 0 ≤ (at_ : Int) + 1 := by omega
      by_cases c3 : 1000000000000000000 ≤ cells[at_]
      · obtain ⟨r, b', h, q⟩ := tail cells[at_] (at_ + 1) seed (some (.int cells[at_])) hb1 hb2
        refine fin ⟨sq_step (Δ1 := [some (.hnd 0), some (.int m), none, some (.int cells[at_]), none]) (st1 := ⟨some ⟨cells, at_ + 1, cells[at_], seed, cnt⟩, scr, own⟩) ?_ h, q⟩
        refine if_tt (st1 := ⟨some ⟨cells, at_, 0, seed, cnt⟩, scr, own⟩) (by simp only [gd, runD, callP, kwF, pick, rtP, sqP, asP, parP, nxP, ifP, andV, orV, notV, andT, orT, notT, truP, tstP, truD, isiP, isisP, isTys, isNP, notNP, isNon, varP, chP, cstP, bltP, binP, consP, nilP, lstP, tupP, lcP, itP, rng1P, rng2P, slP, noP, soP, intOf, negP, sosP, bd_ok, List.map, List.replicate, List.length_cons, List.length_nil, List.cons_append, List.nil_append, List.append_nil, List.getElem?_cons_zero, List.getElem?_cons_succ, List.filterMap, List.set, omap_some, obind_some, isTy, blOf, if_t, if_f, lenF, leD_i, leD_s, ltD_i, ltD_s, gtD_i, geD_i, addD_i, subD_i, mulD_i, itemsD, wipeD, Tgt.put, setAll, outR, lb0, lb1, lb2, lb3, lb4, lb5, lb6, lb7, lb8, lb9, lb10, lb11, lb12, allF, listF, tupleF, intF, eq_self_iff_true, if_true, if_false, decide_true, decide_false, Bool.true_and, Bool.false_and, Bool.and_true, Bool.and_false, Bool.not_true, Bool.not_false, Nat.sub_self, Nat.reduceAdd, Nat.reduceSub, Nat.reduceEqDiff, bagIx, isBag, BagSt.item, eqD_i, List.length_map, c2', beq_self_eq_true]) ?_
        (apply sq_step; focus (simp only [gd, runD, callP, kwF, pick, rtP, sqP, asP, parP, nxP, ifP, andV, orV, notV, andT, orT, notT, truP, tstP, truD, isiP, isisP, isTys, isNP, notNP, isNon, varP, chP, cstP, bltP, binP, consP, nilP, lstP, tupP, lcP, itP, rng1P, rng2P, slP, noP, soP, intOf, negP, sosP, bd_ok, List.map, List.replicate, List.length_cons, List.length_nil, List.cons_append, List.nil_append, List.append_nil, List.getElem?_cons_zero, List.getElem?_cons_succ, List.filterMap, List.set, omap_some, obind_some, isTy, blOf, if_t, if_f, lenF, leD_i, leD_s, ltD_i, ltD_s, gtD_i, geD_i, addD_i, subD_i, mulD_i, itemsD, wipeD, Tgt.put, setAll, outR, lb0, lb1, lb2, lb3, lb4, lb5, lb6, lb7, lb8, lb9, lb10, lb11, lb12, allF, listF, tupleF, intF, eq_self_iff_true, if_true, if_false, decide_true, decide_false, Bool.true_and, Bool.false_and, Bool.and_true, Bool.and_false, Bool.not_true, Bool.not_false, Nat.sub_self, Nat.reduceAdd, Nat.reduceSub, Nat.reduceEqDiff, bagIx, isBag, BagSt.item, ix]; first | done | rfl))
        (apply sq_step; focus (simp only [gd, runD, callP, kwF, pick, rtP, sqP, asP, parP, nxP, ifP, andV, orV, notV, andT, orT, notT, truP, tstP, truD, isiP, isisP, isTys, isNP, notNP, isNon, varP, chP, cstP, bltP, binP, consP, nilP, lstP, tupP, lcP, itP, rng1P, rng2P, slP, noP, soP, intOf, negP, sosP, bd_ok, List.map, List.replicate, List.length_cons, List.length_nil, List.cons_append, List.nil_append, List.append_nil, List.getElem?_cons_zero, List.getElem?_cons_succ, List.filterMap, List.set, omap_some, obind_some, isTy, blOf, if_t, if_f, lenF, leD_i, leD_s, ltD_i, ltD_s, gtD_i, geD_i, addD_i, subD_i, mulD_i, itemsD, wipeD, Tgt.put, setAll, outR, lb0, lb1, lb2, lb3, lb4, lb5, lb6, lb7, lb8, lb9, lb10, lb11, lb12, allF, listF, tupleF, intF, eq_self_iff_true, if_true, if_false, decide_true, decide_false, Bool.true_and, Bool.false_and, Bool.and_true, Bool.and_false, Bool.not_true, Bool.not_false, Nat.sub_self, Nat.reduceAdd, Nat.reduceSub, Nat.reduceEqDiff, bagIx, bagSet, isBag, BagSt.item, BagSt.put, if_pos pos, Int.toNat_natCast_add_one]; first | done | rfl))
        refine if_tt (st1 := ⟨some ⟨cells, at_ + 1, 0, seed, cnt⟩, scr, own⟩) (by simp only [gd, runD, callP, kwF, pick, rtP, sqP, asP, parP, nxP, ifP, andV, orV, notV, andT, orT, notT, truP, tstP, truD, isiP, isisP, isTys, isNP, notNP, isNon, varP, chP, cstP, bltP, binP, consP, nilP, lstP, tupP, lcP, itP, rng1P, rng2P, slP, noP, soP, intOf, negP, sosP, bd_ok, List.map, List.replicate, List.length_cons, List.length_nil, List.cons_append, List.nil_append, List.append_nil, List.getElem?_cons_zero, List.getElem?_cons_succ, List.filterMap, List.set, omap_some, obind_some, isTy, blOf, if_t, if_f, lenF, leD_i, leD_s, ltD_i, ltD_s, gtD_i, geD_i, addD_i, subD_i, mulD_i, itemsD, wipeD, Tgt.put, setAll, outR, lb0, lb1, lb2, lb3, lb4, lb5, lb6, lb7, lb8, lb9, lb10, lb11, lb12, allF, listF, tupleF, intF, eq_self_iff_true, if_true, if_false, decide_true, decide_false, Bool.true_and, Bool.false_and, Bool.and_true, Bool.and_false, Bool.not_true, Bool.not_false, Nat.sub_self, Nat.reduceAdd, Nat.reduceSub, Nat.reduceEqDiff, pw18, c3]) ?_
        simp only [gd, runD, callP, kwF, pick, rtP, sqP, asP, parP, nxP, ifP, andV, orV, notV, andT, orT, notT, truP, tstP, truD, isiP, isisP, isTys, isNP, notNP, isNon, varP, chP, cstP, bltP, binP, consP, nilP, lstP, tupP, lcP, itP, rng1P, rng2P, slP, noP, soP, intOf, negP, sosP, bd_ok, List.map, List.replicate, List.length_cons, List.length_nil, List.cons_append, List.nil_append, List.append_nil, List.getElem?_cons_zero, List.getElem?_cons_succ, List.filterMap, List.set, omap_some, obind_some, isTy, blOf, if_t, if_f, lenF, leD_i, leD_s, ltD_i, ltD_s, gtD_i, geD_i, addD_i, subD_i, mulD_i, itemsD, wipeD, Tgt.put, setAll, outR, lb0, lb1, lb2, lb3, lb4, lb5, lb6, lb7, lb8, lb9, lb10, lb11, lb12, allF, listF, tupleF, intF, eq_self_iff_true, if_true, if_false, decide_true, decide_false, Bool.true_and, Bool.false_and, Bool.and_true, Bool.and_false, Bool.not_true, Bool.not_false, Nat.sub_self, Nat.reduceAdd, Nat.reduceSub, Nat.reduceEqDiff, bagSet, isBag, BagSt.put]
      · let s2 : Int := (seed * 48611 + cells[at_] % 2147483423 * 15013 + 29) % 2147483579
        have s2a : 0 ≤ s2 := Int.emod_nonneg _ (by decide)
        have s2b : s2 < 2147483579 := Int.emod_lt_of_pos _ (by decide)
        obtain ⟨r, b', h, q⟩ := tail 0 (at_ + 1) s2 (some (.int cells[at_])) s2a (by omega)
        refine fin ⟨sq_step (Δ1 := [some (.hnd 0), some (.int m), none, some (.int cells[at_]), none]) (st1 := ⟨some ⟨cells, at_ + 1, 0, s2, cnt⟩, scr, own⟩) ?_ h, q⟩
        refine if_tt (st1 := ⟨some ⟨cells, at_, 0, seed, cnt⟩, scr, own⟩) (by simp only [gd, runD, callP, kwF, pick, rtP, sqP, asP, parP, nxP, ifP, andV, orV, notV, andT, orT, notT, truP, tstP, truD, isiP, isisP, isTys, isNP, notNP, isNon, varP, chP, cstP, bltP, binP, consP, nilP, lstP, tupP, lcP, itP, rng1P, rng2P, slP, noP, soP, intOf, negP, sosP, bd_ok, List.map, List.replicate, List.length_cons, List.length_nil, List.cons_append, List.nil_append, List.append_nil, List.getElem?_cons_zero, List.getElem?_cons_succ, List.filterMap, List.set, omap_some, obind_some, isTy, blOf, if_t, if_f, lenF, leD_i, leD_s, ltD_i, ltD_s, gtD_i, geD_i, addD_i, subD_i, mulD_i, itemsD, wipeD, Tgt.put, setAll, outR, lb0, lb1, lb2, lb3, lb4, lb5, lb6, lb7, lb8, lb9, lb10, lb11, lb12, allF, listF, tupleF, intF, eq_self_iff_true, if_true, if_false, decide_true, decide_false, Bool.true_and, Bool.false_and, Bool.and_true, Bool.and_false, Bool.not_true, Bool.not_false, Nat.sub_self, Nat.reduceAdd, Nat.reduceSub, Nat.reduceEqDiff, bagIx, isBag, BagSt.item, eqD_i, List.length_map, c2', beq_self_eq_true]) ?_
        (apply sq_step; focus (simp only [gd, runD, callP, kwF, pick, rtP, sqP, asP, parP, nxP, ifP, andV, orV, notV, andT, orT, notT, truP, tstP, truD, isiP, isisP, isTys, isNP, notNP, isNon, varP, chP, cstP, bltP, binP, consP, nilP, lstP, tupP, lcP, itP, rng1P, rng2P, slP, noP, soP, intOf, negP, sosP, bd_ok, List.map, List.replicate, List.length_cons, List.length_nil, List.cons_append, List.nil_append, List.append_nil, List.getElem?_cons_zero, List.getElem?_cons_succ, List.filterMap, List.set, omap_some, obind_some, isTy, blOf, if_t, if_f, lenF, leD_i, leD_s, ltD_i, ltD_s, gtD_i, geD_i, addD_i, subD_i, mulD_i, itemsD, wipeD, Tgt.put, setAll, outR, lb0, lb1, lb2, lb3, lb4, lb5, lb6, lb7, lb8, lb9, lb10, lb11, lb12, allF, listF, tupleF, intF, eq_self_iff_true, if_true, if_false, decide_true, decide_false, Bool.true_and, Bool.false_and, Bool.and_true, Bool.and_false, Bool.not_true, Bool.not_false, Nat.sub_self, Nat.reduceAdd, Nat.reduceSub, Nat.reduceEqDiff, bagIx, isBag, BagSt.item, ix]; first | done | rfl))
        (apply sq_step; focus (simp only [gd, runD, callP, kwF, pick, rtP, sqP, asP, parP, nxP, ifP, andV, orV, notV, andT, orT, notT, truP, tstP, truD, isiP, isisP, isTys, isNP, notNP, isNon, varP, chP, cstP, bltP, binP, consP, nilP, lstP, tupP, lcP, itP, rng1P, rng2P, slP, noP, soP, intOf, negP, sosP, bd_ok, List.map, List.replicate, List.length_cons, List.length_nil, List.cons_append, List.nil_append, List.append_nil, List.getElem?_cons_zero, List.getElem?_cons_succ, List.filterMap, List.set, omap_some, obind_some, isTy, blOf, if_t, if_f, lenF, leD_i, leD_s, ltD_i, ltD_s, gtD_i, geD_i, addD_i, subD_i, mulD_i, itemsD, wipeD, Tgt.put, setAll, outR, lb0, lb1, lb2, lb3, lb4, lb5, lb6, lb7, lb8, lb9, lb10, lb11, lb12, allF, listF, tupleF, intF, eq_self_iff_true, if_true, if_false, decide_true, decide_false, Bool.true_and, Bool.false_and, Bool.and_true, Bool.and_false, Bool.not_true, Bool.not_false, Nat.sub_self, Nat.reduceAdd, Nat.reduceSub, Nat.reduceEqDiff, bagIx, bagSet, isBag, BagSt.item, BagSt.put, if_pos pos, Int.toNat_natCast_add_one]; first | done | rfl))
        refine if_ff (st1 := ⟨some ⟨cells, at_ + 1, 0, seed, cnt⟩, scr, own⟩) (by simp only [gd, runD, callP, kwF, pick, rtP, sqP, asP, parP, nxP, ifP, andV, orV, notV, andT, orT, notT, truP, tstP, truD, isiP, isisP, isTys, isNP, notNP, isNon, varP, chP, cstP, bltP, binP, consP, nilP, lstP, tupP, lcP, itP, rng1P, rng2P, slP, noP, soP, intOf, negP, sosP, bd_ok, List.map, List.replicate, List.length_cons, List.length_nil, List.cons_append, List.nil_append, List.append_nil, List.getElem?_cons_zero, List.getElem?_cons_succ, List.filterMap, List.set, omap_some, obind_some, isTy, blOf, if_t, if_f, lenF, leD_i, leD_s, ltD_i, ltD_s, gtD_i, geD_i, addD_i, subD_i, mulD_i, itemsD, wipeD, Tgt.put, setAll, outR, lb0, lb1, lb2, lb3, lb4, lb5, lb6, lb7, lb8, lb9, lb10, lb11, lb12, allF, listF, tupleF, intF, eq_self_iff_true, if_true, if_false, decide_true, decide_false, Bool.true_and, Bool.false_and, Bool.and_true, Bool.and_false, Bool.not_true, Bool.not_false, Nat.sub_self, Nat.reduceAdd, Nat.reduceSub, Nat.reduceEqDiff, pw18, c3]) ?_
        simp only [gd, runD, callP, kwF, pick, rtP, sqP, asP, parP, nxP, ifP, andV, orV, notV, andT, orT, notT, truP, tstP, truD, isiP, isisP, isTys, isNP, notNP, isNon, varP, chP, cstP, bltP, binP, consP, nilP, lstP, tupP, lcP, itP, rng1P, rng2P, slP, noP, soP, intOf, negP, sosP, bd_ok, List.map, List.replicate, List.length_cons, List.length_nil, List.cons_append, List.nil_append, List.append_nil, List.getElem?_cons_zero, List.getElem?_cons_succ, List.filterMap, List.set, omap_some, obind_some, isTy, blOf, if_t, if_f, lenF, leD_i, leD_s, ltD_i, ltD_s, gtD_i, geD_i, addD_i, subD_i, mulD_i, itemsD, wipeD, Tgt.put, setAll, outR, lb0, lb1, lb2, lb3, lb4, lb5, lb6, lb7, lb8, lb9, lb10, lb11, lb12, allF, listF, tupleF, intF, eq_self_iff_true, if_true, if_false, decide_true, decide_false, Bool.true_and, Bool.false_and, Bool.and_true, Bool.and_false, Bool.not_true, Bool.not_false, Nat.sub_self, Nat.reduceAdd, Nat.reduceSub, Nat.reduceEqDiff, bagIx, bagSet, isBag, BagSt.item, BagSt.put, mulK _ 48611 (by decide), mulK _ 15013 (by decide), modD _ 2147483423 (by decide), modD _ 2147483579 (by decide)]
        rfl
    · have c2' : ¬ ((at_ : Int) < (cells.length : Int)) := by omega
      obtain ⟨r, b', h, q⟩ := tail 0 at_ seed none hb1 hb2
      exact fin ⟨sq_step (if_ff (st1 := ⟨some ⟨cells, at_, 0, seed, cnt⟩, scr, own⟩) (by simp only [gd, runD, callP, kwF, pick, rtP, sqP, asP, parP, nxP, ifP, andV, orV, notV, andT, orT, notT, truP, tstP, truD, isiP, isisP, isTys, isNP, notNP, isNon, varP, chP, cstP, bltP, binP, consP, nilP, lstP, tupP, lcP, itP, rng1P, rng2P, slP, noP, soP, intOf, negP, sosP, bd_ok, List.map, List.replicate, List.length_cons, List.length_nil, List.cons_append, List.nil_append, List.append_nil, List.getElem?_cons_zero, List.getElem?_cons_succ, List.filterMap, List.set, omap_some, obind_some, isTy, blOf, if_t, if_f, lenF, leD_i, leD_s, ltD_i, ltD_s, gtD_i, geD_i, addD_i, subD_i, mulD_i, itemsD, wipeD, Tgt.put, setAll, outR, lb0, lb1, lb2, lb3, lb4, lb5, lb6, lb7, lb8, lb9, lb10, lb11, lb12, allF, listF, tupleF, intF, eq_self_iff_true, if_true, if_false, decide_true, decide_false, Bool.true_and, Bool.false_and, Bool.and_true, Bool.and_false, Bool.not_true, Bool.not_false, Nat.sub_self, Nat.reduceAdd, Nat.reduceSub, Nat.reduceEqDiff, bagIx, isBag, BagSt.item, eqD_i, List.length_map, c2', beq_self_eq_true]) rfl) h, q⟩
  · have c1' : (rest == 0) = false := beq_eq_false_iff_ne.mpr c1
    obtain ⟨r, b', h, q⟩ := tail rest at_ seed none hb1 hb2
    exact fin ⟨sq_step (if_ff (st1 := ⟨some ⟨cells, at_, rest, seed, cnt⟩, scr, own⟩) (by simp only [gd, runD, callP, kwF, pick, rtP, sqP, asP, parP, nxP, ifP, andV, orV, notV, andT, orT, notT, truP, tstP, truD, isiP, isisP, isTys, isNP, notNP, isNon, varP, chP, cstP, bltP, binP, consP, nilP, lstP, tupP, lcP, itP, rng1P, rng2P, slP, noP, soP, intOf, negP, sosP, bd_ok, List.map, List.replicate, List.length_cons, List.length_nil, List.cons_append, List.nil_append, List.append_nil, List.getElem?_cons_zero, List.getElem?_cons_succ, List.filterMap, List.set, omap_some, obind_some, isTy, blOf, if_t, if_f, lenF, leD_i, leD_s, ltD_i, ltD_s, gtD_i, geD_i, addD_i, subD_i, mulD_i, itemsD, wipeD, Tgt.put, setAll, outR, lb0, lb1, lb2, lb3, lb4, lb5, lb6, lb7, lb8, lb9, lb10, lb11, lb12, allF, listF, tupleF, intF, eq_self_iff_true, if_true, if_false, decide_true, decide_false, Bool.true_and, Bool.false_and, Bool.and_true, Bool.and_false, Bool.not_true, Bool.not_false, Nat.sub_self, Nat.reduceAdd, Nat.reduceSub, Nat.reduceEqDiff, bagIx, isBag, BagSt.item, eqD_i, c1']) rfl) h, q⟩
end Dn

set_option Elab.async false
set_option linter.all false
set_option maxRecDepth 100000
set_option maxHeartbeats 4000000
namespace Dn
open PySem PySem.Spec PyProof.Rows L2
theorem any_lst (b : BagSt) (scr : Option (Addr × List Int)) (own : List (Nat × Cell)) (ds : List D) (hb : okB b) (h1 : 0 < ds.length) (h2 : ds.length ≤ big) :
    ∃ d b', d ∈ ds ∧ F_l_any [.hnd 0, .lst ds] ⟨some b, scr, own⟩ = some (.ok d, ⟨some b', scr, own⟩) ∧ okB b' := by
  unfold big at h2
  obtain ⟨r, b', h, r0, r1, hb'⟩ := pull_ok b scr own ds.length hb (by omega) (by omega)
  have hr : r.toNat < ds.length := by omega
  have ix : ixD (.lst ds) (.int r) = some ds[r.toNat] := by
    show atI ds r = _
    unfold atI ixN
    rw [if_pos r0, if_pos r1, obind_some, List.getElem?_eq_getElem hr]
  refine ⟨ds[r.toNat], b', List.getElem_mem hr, run_ret rfl ?_, hb'⟩
  unfold d_l_any
  simp only [gd, runD, callP, kwF, pick, rtP, sqP, asP, parP, nxP, ifP, andV, orV, notV, andT, orT, notT, truP, tstP, truD, isiP, isisP, isTys, isNP, notNP, isNon, varP, chP, cstP, bltP, binP, consP, nilP, lstP, tupP, lcP, itP, rng1P, rng2P, slP, noP, soP, intOf, negP, sosP, bd_ok, List.map, List.replicate, List.length_cons, List.length_nil, List.cons_append, List.nil_append, List.append_nil, List.getElem?_cons_zero, List.getElem?_cons_succ, List.filterMap, List.set, omap_some, obind_some, isTy, blOf, if_t, if_f, lenF, leD_i, leD_s, ltD_i, ltD_s, gtD_i, geD_i, addD_i, subD_i, mulD_i, itemsD, wipeD, Tgt.put, setAll, outR, lb0, lb1, lb2, lb3, lb4, lb5, lb6, lb7, lb8, lb9, lb10, lb11, lb12, allF, listF, tupleF, intF, eq_self_iff_true, if_true, if_false, decide_true, decide_false, Bool.true_and, Bool.false_and, Bool.and_true, Bool.and_false, Bool.not_true, Bool.not_false, Nat.sub_self, Nat.reduceAdd, Nat.reduceSub, Nat.reduceEqDiff, h, ix]
theorem any_str (b : BagSt) (scr : Option (Addr × List Int)) (own : List (Nat × Cell)) (z : Str) (hb : okB b) (h1 : 0 < z.length) (h2 : z.length ≤ big) :
    ∃ c b', c ∈ z.cps.toList ∧ F_l_any [.hnd 0, .str z] ⟨some b, scr, own⟩ = some (.ok (.str ⟨#[c]⟩), ⟨some b', scr, own⟩) ∧ okB b' := by
  have h3 : z.length ≤ 1000000 := h2
  obtain ⟨r, b', h, r0, r1, hb'⟩ := pull_ok b scr own z.length hb (by omega) (by omega)
  have e : z.cps.toList.length = z.length := Array.length_toList
  have hr : r.toNat < z.cps.toList.length := by omega
  have ix : ixD (.str z) (.int r) = some (.str ⟨#[z.cps.toList[r.toNat]]⟩) := by
    show (if z.length ≤ big then (atI z.cps.toList r).map fun c => D.str ⟨#[c]⟩ else none) = _
    rw [if_pos h2]
    unfold atI ixN
    rw [if_pos r0, e, if_pos r1, obind_some, List.getElem?_eq_getElem hr] <;> rfl
  refine ⟨z.cps.toList[r.toNat], b', List.getElem_mem hr, run_ret rfl ?_, hb'⟩
  unfold d_l_any
  simp only [gd, runD, callP, kwF, pick, rtP, sqP, asP, parP, nxP, ifP, andV, orV, notV, andT, orT, notT, truP, tstP, truD, isiP, isisP, isTys, isNP, notNP, isNon, varP, chP, cstP, bltP, binP, consP, nilP, lstP, tupP, lcP, itP, rng1P, rng2P, slP, noP, soP, intOf, negP, sosP, bd_ok, List.map, List.replicate, List.length_cons, List.length_nil, List.cons_append, List.nil_append, List.append_nil, List.getElem?_cons_zero, List.getElem?_cons_succ, List.filterMap, List.set, omap_some, obind_some, isTy, blOf, if_t, if_f, lenF, leD_i, leD_s, ltD_i, ltD_s, gtD_i, geD_i, addD_i, subD_i, mulD_i, itemsD, wipeD, Tgt.put, setAll, outR, lb0, lb1, lb2, lb3, lb4, lb5, lb6, lb7, lb8, lb9, lb10, lb11, lb12, allF, listF, tupleF, intF, eq_self_iff_true, if_true, if_false, decide_true, decide_false, Bool.true_and, Bool.false_and, Bool.and_true, Bool.and_false, Bool.not_true, Bool.not_false, Nat.sub_self, Nat.reduceAdd, Nat.reduceSub, Nat.reduceEqDiff, h, ix, if_pos h2]
/-- a list whose items are drawn -/
theorem lc_draw {t : Tgt} {te : EDen} {Δ : Dl} {scr : Option (Addr × List Int)} {own : List (Nat × Cell)} {Pd : D → Prop} : ∀ (ds : List D) (b : BagSt) (acc : List D),
    (∀ d ∈ ds, ∃ Δ1, t.put d Δ = some Δ1 ∧ ∀ b, okB b → ∃ y b', te Δ1 ⟨some b, scr, own⟩ = some (.ok y, ⟨some b', scr, own⟩) ∧ Pd y ∧ okB b') → okB b → acc.length + ds.length ≤ big →
    ∃ ys b', lcGo t yesT te Δ ds ⟨some b, scr, own⟩ acc = some (.ok (.lst (acc ++ ys)), ⟨some b', scr, own⟩) ∧ ys.length = ds.length ∧ (∀ y ∈ ys, Pd y) ∧ okB b'
  | [], b, acc, _, hb, _ => ⟨[], b, by simp [lcGo], rfl, by simp, hb⟩
  | d :: ds, b, acc, h, hb, hl => by
    obtain ⟨Δ1, h1, h2⟩ := h d List.mem_cons_self
    obtain ⟨y, b1, e1, py, hb1⟩ := h2 b hb
    rw [List.length_cons] at hl
    obtain ⟨ys, b2, e2, len, all, hb2⟩ := lc_draw ds b1 (acc ++ [y]) (fun x hx => h x (List.mem_cons_of_mem _ hx)) hb1 (by rw [List.length_append, List.length_singleton]; omega)
    refine ⟨y :: ys, b2, ?_, by rw [List.length_cons, List.length_cons, len], fun z hz => ?_, hb2⟩
    · unfold lcGo
      rw [h1, obind_some]
      show (match te Δ1 ⟨some b, scr, own⟩ with | some (.ok y, st2) => if acc.length < big then lcGo t yesT te Δ ds st2 (acc ++ [y]) else none | _ => none) = _
      rw [e1]
      simp only
      rw [if_pos (by omega), e2, List.append_assoc] <;> rfl
    · rcases List.mem_cons.mp hz with e | e
      · rw [e]; exact py
      · exact all z e
/-! ### texts of small letters -/
abbrev abc : Str := "abcdefghijklmnopqrstuvwxyz"
theorem abc_low : ∀ c ∈ abc.cps.toList, lowC c = true := by decide +kernel
theorem abc_mem (c : Nat) : c ∈ abc.cps.toList ↔ lowC c = true := by
  refine ⟨abc_low c, fun h => ?_⟩
  unfold lowC at h
  rw [Bool.and_eq_true, decide_eq_true_eq, decide_eq_true_eq] at h
  have e : abc.cps.toList = (List.range 26).map (97 + ·) := by decide +kernel
  rw [e]
  exact List.mem_map.mpr ⟨c - 97, List.mem_range.mpr (by omega), by omega⟩
theorem low_app (x y : Str) : lowS (x ++ y) = (lowS x && lowS y) := by
  show ((x.cps ++ y.cps).toList.all lowC) = _
  rw [Array.toList_append, List.all_append] <;> rfl
theorem len_app (x y : Str) : (x ++ y).length = x.length + y.length := by
  show (x.cps ++ y.cps).size = _
  rw [Array.size_append] <;> rfl
theorem low_cut (z : Str) (a b : Option Int) (h : lowS z = true) : lowS (cutS z a b) = true := by
  unfold lowS cutS at *
  rw [List.all_eq_true] at h ⊢
  intro c hc
  exact h c (List.mem_of_mem_drop (List.mem_of_mem_take (by simpa using hc)))
theorem len_cut (z : Str) (n : Nat) (h : n ≤ z.length) : (cutS z none (some n)).length = n ∧ (cutS z (some n) none).length = z.length - n := by
  have e : z.cps.toList.length = z.length := Array.length_toList
  unfold cutS
  rw [HT.sIx_none, HT.sIx_none, HT.sIx_nat, HT.sIx_nat]
  constructor
  · show (List.take _ _).toArray.size = n
    rw [List.size_toArray, List.length_take, List.drop_zero, e, Nat.min_eq_left h]
    omega
  · show (List.take _ _).toArray.size = _
    rw [List.size_toArray, List.length_take, List.length_drop, e, Nat.min_eq_left h]
    omega
theorem joinL_one : ∀ cs : List Nat, TL.joinL [] (cs.map fun c => [c]) = cs
  | [] => rfl
  | [c] => rfl
  | c :: d :: r => by
    show [c] ++ ([] ++ TL.joinL [] ((d :: r).map fun c => [c])) = c :: d :: r
    rw [joinL_one (d :: r)] <;> rfl
theorem glue (cs : List Nat) : Txt.join (Str.ofString "") (cs.map fun c => (⟨#[c]⟩ : Str)) = ⟨cs.toArray⟩ := by
  have h := SX.join_S [] (cs.map fun c => [c])
  rw [joinL_one, List.map_map] at h
  exact h
theorem strsD_map (zs : List Str) : strsD (zs.map .str) = some zs := by
  induction zs with
  | nil => rfl
  | cons z zs ih => simp only [List.map_cons, strsD, ih, Option.map]
theorem sum_one (cs : List Nat) : ((cs.map fun c => (⟨#[c]⟩ : Str)).map (·.length)).sum = cs.length := by
  induction cs with
  | nil => rfl
  | cons c cs ih =>
    rw [List.map_cons, List.map_cons, List.sum_cons, ih, List.length_cons, show Str.length ⟨#[c]⟩ = 1 from rfl]
    omega
theorem rng1_ok (r : Int) (h0 : 0 ≤ r) (h1 : r ≤ 1000000) : rng1F [.int r] = some (rngD 0 r) := if_pos ⟨by unfold mil; omega, h1⟩
/-- a name as the law draws it -/
def NameS (z : Str) : Prop := 1 ≤ z.length ∧ z.length ≤ 4 ∧ lowS z = true
theorem rng_mem {lo hi : Int} {d : D} (h : d ∈ rngD lo hi) : ∃ i : Nat, (i : Int) < hi - lo ∧ d = .int (lo + i) := by
  obtain ⟨i, hi, e⟩ := List.mem_map.mp h
  have := List.mem_range.mp hi
  exact ⟨i, by omega, e.symm⟩
theorem rng_len (lo hi : Int) : (rngD lo hi).length = (hi - lo).toNat := by unfold rngD; rw [List.length_map, List.length_range]
theorem names_ok (b : BagSt) (scr : Option (Addr × List Int)) (own : List (Nat × Cell)) (m : Int) (hb : okB b) (h1 : 0 ≤ m) (h2 : m ≤ 1000) :
    ∃ (zs : List Str) (b' : BagSt), F_l_names [.hnd 0, .int m] ⟨some b, scr, own⟩ = some (.ok (.lst (zs.map .str)), ⟨some b', scr, own⟩) ∧ zs.length = m.toNat ∧ (∀ z ∈ zs, NameS z) ∧ okB b' := by
  obtain ⟨r, b1, p1, r0, r1, hb1⟩ := pull_ok b scr own 4 hb (by decide) (by decide)
  have rl := rng_len 0 r
  obtain ⟨ys, b2, p2, ly, all, hb2⟩ := lc_draw (t := .one 6) (te := callP F_l_any (consP (varP 0) (consP (varP 2) nilP))) (Δ := [some (.hnd 0), some (.int m), some (.str abc), none, none, none, none]) (scr := scr) (own := own)
    (Pd := fun y => ∃ c, lowC c = true ∧ y = .str ⟨#[c]⟩) (rngD 0 r) b1 [] (fun d hd => ⟨_, rfl, fun b hb => by
      obtain ⟨c, b', hc, e, hb'⟩ := any_str b scr own abc hb (by decide) (by decide +kernel)
      exact ⟨_, b', by simp only [gd, runD, callP, kwF, pick, rtP, sqP, asP, parP, nxP, ifP, andV, orV, notV, andT, orT, notT, truP, tstP, truD, isiP, isisP, isTys, isNP, notNP, isNon, varP, chP, cstP, bltP, binP, consP, nilP, lstP, tupP, lcP, itP, rng1P, rng2P, slP, noP, soP, intOf, negP, sosP, bd_ok, List.map, List.replicate, List.length_cons, List.length_nil, List.cons_append, List.nil_append, List.append_nil, List.getElem?_cons_zero, List.getElem?_cons_succ, List.filterMap, List.set, omap_some, obind_some, isTy, blOf, if_t, if_f, lenF, leD_i, leD_s, ltD_i, ltD_s, gtD_i, geD_i, addD_i, subD_i, mulD_i, itemsD, wipeD, Tgt.put, setAll, outR, lb0, lb1, lb2, lb3, lb4, lb5, lb6, lb7, lb8, lb9, lb10, lb11, lb12, allF, listF, tupleF, intF, eq_self_iff_true, if_true, if_false, decide_true, decide_false, Bool.true_and, Bool.false_and, Bool.and_true, Bool.and_false, Bool.not_true, Bool.not_false, Nat.sub_self, Nat.reduceAdd, Nat.reduceSub, Nat.reduceEqDiff, e], ⟨c, abc_low c hc, rfl⟩, hb'⟩⟩) hb1 (by rw [rl, List.length_nil]; unfold big; omega)
  obtain ⟨cs, rfl, low⟩ : ∃ cs : List Nat, ys = cs.map (fun c => D.str ⟨#[c]⟩) ∧ ∀ c ∈ cs, lowC c = true := by
    clear p2 ly
    induction ys with
    | nil => exact ⟨[], rfl, by simp⟩
    | cons y ys ih =>
      obtain ⟨cs, e, h⟩ := ih fun z hz => all z (List.mem_cons_of_mem _ hz)
      obtain ⟨c, hc, ey⟩ := all y List.mem_cons_self
      refine ⟨c :: cs, by rw [e, ey] <;> rfl, fun x hx => ?_⟩
      rcases List.mem_cons.mp hx with q | q
      · rw [q]; exact hc
      · exact h x q
  rw [List.length_map, rl] at ly
  have len3 : cs.length ≤ 3 := by omega
  have jn : joinF (.str (Str.ofString "")) (.lst (cs.map fun c => D.str ⟨#[c]⟩)) = some (.str ⟨cs.toArray⟩) := by
    have sd : strsD (cs.map fun c => D.str ⟨#[c]⟩) = some (cs.map fun c => ⟨#[c]⟩) := by
      have q := strsD_map (cs.map fun c => (⟨#[c]⟩ : Str))
      rw [List.map_map] at q
      exact q
    show (strsD (cs.map fun c => D.str ⟨#[c]⟩)).bind _ = _
    rw [sd, obind_some, sum_one, List.length_map, show (Str.ofString "").length = 0 from rfl, Nat.mul_zero, Nat.add_zero, if_pos (by unfold big; omega), glue]
  obtain ⟨stem, es⟩ : ∃ s : Str, s = ⟨cs.toArray⟩ := ⟨_, rfl⟩
  have stl : stem.length = cs.length := by rw [es]; show cs.toArray.size = _; rw [List.size_toArray]
  have stw : lowS stem = true := by rw [es]; show (cs.toArray.toList.all lowC) = true; rw [List.all_eq_true]; simpa using low
  rw [← es] at jn
  obtain ⟨at_, b3, p3, a0, a1, hb3⟩ := pull_ok b2 scr own (stem.length + 1) hb2 (by omega) (by omega)
  obtain ⟨fi, b4, p4, f0, f1, hb4⟩ := pull_ok b3 scr own 26 hb3 (by decide) (by decide)
  obtain ⟨n, rfl⟩ : ∃ n : Nat, at_ = n := ⟨at_.toNat, by omega⟩
  have nl : n ≤ stem.length := by omega
  have stb : stem.length ≤ big := by unfold big; omega
  obtain ⟨c1, c2⟩ := len_cut stem n nl
  have l1 := low_cut stem none (some n) stw
  have l2 := low_cut stem (some n) none stw
  let let_ : Int → Str := fun k => ⟨#[abc.cps.toList.getD ((fi + 7 * k) % 26).toNat 0]⟩
  let mk : Int → Str := fun k => cutS stem none (some n) ++ let_ k ++ cutS stem (some n) none
  have abl : abc.cps.toList.length = 26 := by decide +kernel
  have ix : ∀ k : Int, ixD (.str abc) (.int ((fi + 7 * k) % 26)) = some (.str (let_ k)) := fun k => by
    have h0 : 0 ≤ (fi + 7 * k) % 26 := Int.emod_nonneg _ (by decide)
    have h1 : (fi + 7 * k) % 26 < 26 := Int.emod_lt_of_pos _ (by decide)
    show (if abc.length ≤ big then (atI abc.cps.toList ((fi + 7 * k) % 26)).map fun c => D.str ⟨#[c]⟩ else none) = _
    rw [if_pos (by decide +kernel)]
    unfold atI ixN
    rw [abl, if_pos h0, if_pos (show _ < ((26 : Nat) : Int) from h1), obind_some]
    have hh : ((fi + 7 * k) % 26).toNat < abc.cps.toList.length := by omega
    show Option.map _ _ = some (D.str ⟨#[abc.cps.toList.getD _ 0]⟩)
    rw [List.getElem?_eq_getElem hh, List.getD_eq_getElem?_getD, List.getElem?_eq_getElem hh] <;> rfl
  have letl : ∀ k, lowS (let_ k) = true := fun k => by
    have h1 : (fi + 7 * k) % 26 < 26 := Int.emod_lt_of_pos _ (by decide)
    have hh : ((fi + 7 * k) % 26).toNat < abc.cps.toList.length := by omega
    show ([abc.cps.toList.getD ((fi + 7 * k) % 26).toNat 0].all lowC) = true
    rw [List.getD_eq_getElem?_getD, List.getElem?_eq_getElem hh]
    simpa using abc_low _ (List.getElem_mem hh)
  have lc := lc_pure (t := .one 6) (te := (binP addD (binP addD (slP (varP 3) noP (soP (varP 4))) (binP ixD (varP 2) (binP (intD modI) (bltP intF (consP (binP addD (varP 5) (binP mulD (cstP (.int 7)) (varP 6))) nilP)) (cstP (.int 26))))) (slP (varP 3) (soP (varP 4)) noP)))
    (Δ := [some (.hnd 0), some (.int m), some (.str abc), some (.str stem), some (.int n), some (.int fi), none]) (st := ⟨some b4, scr, own⟩) (fun d => match d with | .int k => .str (mk k) | d => d) (rngD 0 m) [] (fun d hd => by
      obtain ⟨i, hi, rfl⟩ := rng_mem hd
      refine ⟨_, rfl, ?_⟩
      have k7 : mulI 7 (0 + (i : Int)) = some (7 * (0 + (i : Int))) := mulS 7 _ (by decide)
      have lk : (let_ (0 + (i : Int))).length = 1 := rfl
      have ad1 : addD (.str (cutS stem none (some (n : Int)))) (.str (let_ (0 + (i : Int)))) = some (.str (cutS stem none (some (n : Int)) ++ let_ (0 + (i : Int)))) := if_pos (by rw [c1, lk]; unfold big; omega)
      have ad2 : addD (.str (cutS stem none (some (n : Int)) ++ let_ (0 + (i : Int)))) (.str (cutS stem (some (n : Int)) none)) = some (.str (mk (0 + (i : Int)))) := if_pos (by rw [len_app, c1, lk, c2]; unfold big; omega)
      simp only [gd, runD, callP, kwF, pick, rtP, sqP, asP, parP, nxP, ifP, andV, orV, notV, andT, orT, notT, truP, tstP, truD, isiP, isisP, isTys, isNP, notNP, isNon, varP, chP, cstP, bltP, binP, consP, nilP, lstP, tupP, lcP, itP, rng1P, rng2P, slP, noP, soP, intOf, negP, sosP, bd_ok, List.map, List.replicate, List.length_cons, List.length_nil, List.cons_append, List.nil_append, List.append_nil, List.getElem?_cons_zero, List.getElem?_cons_succ, List.filterMap, List.set, omap_some, obind_some, isTy, blOf, if_t, if_f, lenF, leD_i, leD_s, ltD_i, ltD_s, gtD_i, geD_i, addD_i, subD_i, mulD_i, itemsD, wipeD, Tgt.put, setAll, outR, lb0, lb1, lb2, lb3, lb4, lb5, lb6, lb7, lb8, lb9, lb10, lb11, lb12, allF, listF, tupleF, intF, eq_self_iff_true, if_true, if_false, decide_true, decide_false, Bool.true_and, Bool.false_and, Bool.and_true, Bool.and_false, Bool.not_true, Bool.not_false, Nat.sub_self, Nat.reduceAdd, Nat.reduceSub, Nat.reduceEqDiff, slD, if_pos stb, ix, k7, modD _ 26 (by decide), ad1, ad2]) (by rw [rng_len, List.length_nil]; unfold big; omega)
  refine ⟨(List.range (m - 0).toNat).map fun i => mk (0 + (i : Nat)), b4, run_ret rfl ?_, ?_, ?_, hb4⟩
  · unfold d_l_names
    rw [List.nil_append] at p2 lc
    (apply sq_step; focus (simp only [gd, runD, callP, kwF, pick, rtP, sqP, asP, parP, nxP, ifP, andV, orV, notV, andT, orT, notT, truP, tstP, truD, isiP, isisP, isTys, isNP, notNP, isNon, varP, chP, cstP, bltP, binP, consP, nilP, lstP, tupP, lcP, itP, rng1P, rng2P, slP, noP, soP, intOf, negP, sosP, bd_ok, List.map, List.replicate, List.length_cons, List.length_nil, List.cons_append, List.nil_append, List.append_nil, List.getElem?_cons_zero, List.getElem?_cons_succ, List.filterMap, List.set, omap_some, obind_some, isTy, blOf, if_t, if_f, lenF, leD_i, leD_s, ltD_i, ltD_s, gtD_i, geD_i, addD_i, subD_i, mulD_i, itemsD, wipeD, Tgt.put, setAll, outR, lb0, lb1, lb2, lb3, lb4, lb5, lb6, lb7, lb8, lb9, lb10, lb11, lb12, allF, listF, tupleF, intF, eq_self_iff_true, if_true, if_false, decide_true, decide_false, Bool.true_and, Bool.false_and, Bool.and_true, Bool.and_false, Bool.not_true, Bool.not_false, Nat.sub_self, Nat.reduceAdd, Nat.reduceSub, Nat.reduceEqDiff]; first | done | rfl))
    (apply sq_step; focus (simp only [gd, runD, callP, kwF, pick, rtP, sqP, asP, parP, nxP, ifP, andV, orV, notV, andT, orT, notT, truP, tstP, truD, isiP, isisP, isTys, isNP, notNP, isNon, varP, chP, cstP, bltP, binP, consP, nilP, lstP, tupP, lcP, itP, rng1P, rng2P, slP, noP, soP, intOf, negP, sosP, bd_ok, List.map, List.replicate, List.length_cons, List.length_nil, List.cons_append, List.nil_append, List.append_nil, List.getElem?_cons_zero, List.getElem?_cons_succ, List.filterMap, List.set, omap_some, obind_some, isTy, blOf, if_t, if_f, lenF, leD_i, leD_s, ltD_i, ltD_s, gtD_i, geD_i, addD_i, subD_i, mulD_i, itemsD, wipeD, Tgt.put, setAll, outR, lb0, lb1, lb2, lb3, lb4, lb5, lb6, lb7, lb8, lb9, lb10, lb11, lb12, allF, listF, tupleF, intF, eq_self_iff_true, if_true, if_false, decide_true, decide_false, Bool.true_and, Bool.false_and, Bool.and_true, Bool.and_false, Bool.not_true, Bool.not_false, Nat.sub_self, Nat.reduceAdd, Nat.reduceSub, Nat.reduceEqDiff, p1, rng1_ok r r0 (by omega), p2, jn]; first | done | rfl))
    (apply sq_step; focus (simp only [gd, runD, callP, kwF, pick, rtP, sqP, asP, parP, nxP, ifP, andV, orV, notV, andT, orT, notT, truP, tstP, truD, isiP, isisP, isTys, isNP, notNP, isNon, varP, chP, cstP, bltP, binP, consP, nilP, lstP, tupP, lcP, itP, rng1P, rng2P, slP, noP, soP, intOf, negP, sosP, bd_ok, List.map, List.replicate, List.length_cons, List.length_nil, List.cons_append, List.nil_append, List.append_nil, List.getElem?_cons_zero, List.getElem?_cons_succ, List.filterMap, List.set, omap_some, obind_some, isTy, blOf, if_t, if_f, lenF, leD_i, leD_s, ltD_i, ltD_s, gtD_i, geD_i, addD_i, subD_i, mulD_i, itemsD, wipeD, Tgt.put, setAll, outR, lb0, lb1, lb2, lb3, lb4, lb5, lb6, lb7, lb8, lb9, lb10, lb11, lb12, allF, listF, tupleF, intF, eq_self_iff_true, if_true, if_false, decide_true, decide_false, Bool.true_and, Bool.false_and, Bool.and_true, Bool.and_false, Bool.not_true, Bool.not_false, Nat.sub_self, Nat.reduceAdd, Nat.reduceSub, Nat.reduceEqDiff, if_pos stb, p3, p4]; first | done | rfl))
    simp only [gd, runD, callP, kwF, pick, rtP, sqP, asP, parP, nxP, ifP, andV, orV, notV, andT, orT, notT, truP, tstP, truD, isiP, isisP, isTys, isNP, notNP, isNon, varP, chP, cstP, bltP, binP, consP, nilP, lstP, tupP, lcP, itP, rng1P, rng2P, slP, noP, soP, intOf, negP, sosP, bd_ok, List.map, List.replicate, List.length_cons, List.length_nil, List.cons_append, List.nil_append, List.append_nil, List.getElem?_cons_zero, List.getElem?_cons_succ, List.filterMap, List.set, omap_some, obind_some, isTy, blOf, if_t, if_f, lenF, leD_i, leD_s, ltD_i, ltD_s, gtD_i, geD_i, addD_i, subD_i, mulD_i, itemsD, wipeD, Tgt.put, setAll, outR, lb0, lb1, lb2, lb3, lb4, lb5, lb6, lb7, lb8, lb9, lb10, lb11, lb12, allF, listF, tupleF, intF, eq_self_iff_true, if_true, if_false, decide_true, decide_false, Bool.true_and, Bool.false_and, Bool.and_true, Bool.and_false, Bool.not_true, Bool.not_false, Nat.sub_self, Nat.reduceAdd, Nat.reduceSub, Nat.reduceEqDiff, rng1_ok m h1 (by omega), lc]
    unfold rngD
    rw [List.map_map, List.map_map]
    rfl
  · rw [List.length_map, List.length_range]
    omega
  · intro z hz
    obtain ⟨i, _, rfl⟩ := List.mem_map.mp hz
    have lk : (let_ (0 + (i : Int))).length = 1 := rfl
    refine ⟨?_, ?_, ?_⟩
    · show 1 ≤ (cutS stem none (some (n : Int)) ++ let_ _ ++ cutS stem (some (n : Int)) none).length
      rw [len_app, len_app, c1, c2, lk]; omega
    · show (cutS stem none (some (n : Int)) ++ let_ _ ++ cutS stem (some (n : Int)) none).length ≤ 4
      rw [len_app, len_app, c1, c2, lk]; omega
    · show lowS (cutS stem none (some (n : Int)) ++ let_ _ ++ cutS stem (some (n : Int)) none) = true
      rw [low_app, low_app, l1, l2, letl] <;> rfl
end Dn

set_option Elab.async false
set_option linter.all false
set_option maxRecDepth 100000
set_option maxHeartbeats 4000000
namespace Dn
open PySem PySem.Spec PyProof.Rows L2
/-! ### the program's answers -/
def okN (k : Int) (z : Str) : Bool := decide (1 ≤ (z.length : Int)) && (decide ((z.length : Int) ≤ k) && lowS z)
theorem is_name_str (z : Str) (st : Sta) (hz : z.length ≤ big) : F_is_name [.str z] st = some (.ok (.bl (okN 4 z)), st) := by
  refine run_ret rfl ?_
  unfold d_is_name
  simp only [gd, runD, callP, kwF, pick, rtP, sqP, asP, parP, nxP, ifP, andV, orV, notV, andT, orT, notT, truP, tstP, truD, isiP, isisP, isTys, isNP, notNP, isNon, varP, chP, cstP, bltP, binP, consP, nilP, lstP, tupP, lcP, itP, rng1P, rng2P, slP, noP, soP, intOf, negP, sosP, bd_ok, List.map, List.replicate, List.length_cons, List.length_nil, List.cons_append, List.nil_append, List.append_nil, List.getElem?_cons_zero, List.getElem?_cons_succ, List.filterMap, List.set, omap_some, obind_some, isTy, blOf, if_t, if_f, lenF, leD_i, leD_s, ltD_i, ltD_s, gtD_i, geD_i, addD_i, subD_i, mulD_i, itemsD, wipeD, Tgt.put, setAll, outR, lb0, lb1, lb2, lb3, lb4, lb5, lb6, lb7, lb8, lb9, lb10, lb11, lb12, allF, listF, tupleF, intF, eq_self_iff_true, if_true, if_false, decide_true, decide_false, Bool.true_and, Bool.false_and, Bool.and_true, Bool.and_false, Bool.not_true, Bool.not_false, Nat.sub_self, Nat.reduceAdd, Nat.reduceSub, Nat.reduceEqDiff, is_word_str z 4 st hz]
  rfl
theorem is_piece_str (z : Str) (st : Sta) (hz : z.length ≤ big) : F_is_piece [.str z] st = some (.ok (.bl (okN 6 z)), st) := by
  refine run_ret rfl ?_
  unfold d_is_piece
  simp only [gd, runD, callP, kwF, pick, rtP, sqP, asP, parP, nxP, ifP, andV, orV, notV, andT, orT, notT, truP, tstP, truD, isiP, isisP, isTys, isNP, notNP, isNon, varP, chP, cstP, bltP, binP, consP, nilP, lstP, tupP, lcP, itP, rng1P, rng2P, slP, noP, soP, intOf, negP, sosP, bd_ok, List.map, List.replicate, List.length_cons, List.length_nil, List.cons_append, List.nil_append, List.append_nil, List.getElem?_cons_zero, List.getElem?_cons_succ, List.filterMap, List.set, omap_some, obind_some, isTy, blOf, if_t, if_f, lenF, leD_i, leD_s, ltD_i, ltD_s, gtD_i, geD_i, addD_i, subD_i, mulD_i, itemsD, wipeD, Tgt.put, setAll, outR, lb0, lb1, lb2, lb3, lb4, lb5, lb6, lb7, lb8, lb9, lb10, lb11, lb12, allF, listF, tupleF, intF, eq_self_iff_true, if_true, if_false, decide_true, decide_false, Bool.true_and, Bool.false_and, Bool.and_true, Bool.and_false, Bool.not_true, Bool.not_false, Nat.sub_self, Nat.reduceAdd, Nat.reduceSub, Nat.reduceEqDiff, is_word_str z 6 st hz]
  rfl
theorem is_number_int (v a b : Int) (st : Sta) : F_is_number [.int v, .int a, .int b] st = some (.ok (.bl (decide (a ≤ v) && decide (v ≤ b))), st) := by
  refine run_ret rfl ?_
  unfold d_is_number
  simp only [gd, runD, callP, kwF, pick, rtP, sqP, asP, parP, nxP, ifP, andV, orV, notV, andT, orT, notT, truP, tstP, truD, isiP, isisP, isTys, isNP, notNP, isNon, varP, chP, cstP, bltP, binP, consP, nilP, lstP, tupP, lcP, itP, rng1P, rng2P, slP, noP, soP, intOf, negP, sosP, bd_ok, List.map, List.replicate, List.length_cons, List.length_nil, List.cons_append, List.nil_append, List.append_nil, List.getElem?_cons_zero, List.getElem?_cons_succ, List.filterMap, List.set, omap_some, obind_some, isTy, blOf, if_t, if_f, lenF, leD_i, leD_s, ltD_i, ltD_s, gtD_i, geD_i, addD_i, subD_i, mulD_i, itemsD, wipeD, Tgt.put, setAll, outR, lb0, lb1, lb2, lb3, lb4, lb5, lb6, lb7, lb8, lb9, lb10, lb11, lb12, allF, listF, tupleF, intF, eq_self_iff_true, if_true, if_false, decide_true, decide_false, Bool.true_and, Bool.false_and, Bool.and_true, Bool.and_false, Bool.not_true, Bool.not_false, Nat.sub_self, Nat.reduceAdd, Nat.reduceSub, Nat.reduceEqDiff]
  cases decide (a ≤ v) <;> simp only [gd, runD, callP, kwF, pick, rtP, sqP, asP, parP, nxP, ifP, andV, orV, notV, andT, orT, notT, truP, tstP, truD, isiP, isisP, isTys, isNP, notNP, isNon, varP, chP, cstP, bltP, binP, consP, nilP, lstP, tupP, lcP, itP, rng1P, rng2P, slP, noP, soP, intOf, negP, sosP, bd_ok, List.map, List.replicate, List.length_cons, List.length_nil, List.cons_append, List.nil_append, List.append_nil, List.getElem?_cons_zero, List.getElem?_cons_succ, List.filterMap, List.set, omap_some, obind_some, isTy, blOf, if_t, if_f, lenF, leD_i, leD_s, ltD_i, ltD_s, gtD_i, geD_i, addD_i, subD_i, mulD_i, itemsD, wipeD, Tgt.put, setAll, outR, lb0, lb1, lb2, lb3, lb4, lb5, lb6, lb7, lb8, lb9, lb10, lb11, lb12, allF, listF, tupleF, intF, eq_self_iff_true, if_true, if_false, decide_true, decide_false, Bool.true_and, Bool.false_and, Bool.and_true, Bool.and_false, Bool.not_true, Bool.not_false, Nat.sub_self, Nat.reduceAdd, Nat.reduceSub, Nat.reduceEqDiff]
theorem is_group_lst (ds : List D) (st : Sta) : F_is_group [.lst ds] st = some (.ok (.bl false), st) := by
  refine run_ret rfl ?_
  unfold d_is_group
  exact sq_ret (by simp only [gd, runD, callP, kwF, pick, rtP, sqP, asP, parP, nxP, ifP, andV, orV, notV, andT, orT, notT, truP, tstP, truD, isiP, isisP, isTys, isNP, notNP, isNon, varP, chP, cstP, bltP, binP, consP, nilP, lstP, tupP, lcP, itP, rng1P, rng2P, slP, noP, soP, intOf, negP, sosP, bd_ok, List.map, List.replicate, List.length_cons, List.length_nil, List.cons_append, List.nil_append, List.append_nil, List.getElem?_cons_zero, List.getElem?_cons_succ, List.filterMap, List.set, omap_some, obind_some, isTy, blOf, if_t, if_f, lenF, leD_i, leD_s, ltD_i, ltD_s, gtD_i, geD_i, addD_i, subD_i, mulD_i, itemsD, wipeD, Tgt.put, setAll, outR, lb0, lb1, lb2, lb3, lb4, lb5, lb6, lb7, lb8, lb9, lb10, lb11, lb12, allF, listF, tupleF, intF, eq_self_iff_true, if_true, if_false, decide_true, decide_false, Bool.true_and, Bool.false_and, Bool.and_true, Bool.and_false, Bool.not_true, Bool.not_false, Nat.sub_self, Nat.reduceAdd, Nat.reduceSub, Nat.reduceEqDiff])
theorem eqD_b (a b : Bool) : eqD (.bl a) (.bl b) = some (.bl (a == b)) := by cases a <;> cases b <;> rfl
theorem neD_b (a b : Bool) : neD (.bl a) (.bl b) = some (.bl (!(a == b))) := by cases a <;> cases b <;> rfl
theorem same_bl (n : Nat) (b : Bool) (st : Sta) : F_l_same (n + 1) [.bl b, .bl b] st = some (.ok (.bl true), st) := by
  refine run_ret rfl ?_
  unfold d_l_same
  simp only [gd, runD, callP, kwF, pick, rtP, sqP, asP, parP, nxP, ifP, andV, orV, notV, andT, orT, notT, truP, tstP, truD, isiP, isisP, isTys, isNP, notNP, isNon, varP, chP, cstP, bltP, binP, consP, nilP, lstP, tupP, lcP, itP, rng1P, rng2P, slP, noP, soP, intOf, negP, sosP, bd_ok, List.map, List.replicate, List.length_cons, List.length_nil, List.cons_append, List.nil_append, List.append_nil, List.getElem?_cons_zero, List.getElem?_cons_succ, List.filterMap, List.set, omap_some, obind_some, isTy, blOf, if_t, if_f, lenF, leD_i, leD_s, ltD_i, ltD_s, gtD_i, geD_i, addD_i, subD_i, mulD_i, itemsD, wipeD, Tgt.put, setAll, outR, lb0, lb1, lb2, lb3, lb4, lb5, lb6, lb7, lb8, lb9, lb10, lb11, lb12, allF, listF, tupleF, intF, eq_self_iff_true, if_true, if_false, decide_true, decide_false, Bool.true_and, Bool.false_and, Bool.and_true, Bool.and_false, Bool.not_true, Bool.not_false, Nat.sub_self, Nat.reduceAdd, Nat.reduceSub, Nat.reduceEqDiff, eqD_b, neD_b, beq_self_eq_true]
theorem zip_same (ds : List D) : zipL ds ds = ds.map fun d => .tup [d, d] := by
  induction ds with
  | nil => rfl
  | cons d ds ih => simp only [zipL, List.map_cons, ih]
theorem same_bls (n : Nat) (bs : List Bool) (st : Sta) (h : bs.length ≤ big) : F_l_same (n + 2) [.lst (bs.map .bl), .lst (bs.map .bl)] st = some (.ok (.bl true), st) := by
  have lc := lc_pure (t := .tup [2, 3]) (te := callP (F_l_same (n + 1)) (consP (varP 2) (consP (varP 3) nilP))) (Δ := [some (.lst (bs.map .bl)), some (.lst (bs.map .bl)), none, none]) (st := st) (fun _ => .bl true) (zipL (bs.map .bl) (bs.map .bl)) [] (fun d hd => by
    rw [zip_same] at hd
    obtain ⟨x, hx, rfl⟩ := List.mem_map.mp hd
    obtain ⟨b, _, rfl⟩ := List.mem_map.mp hx
    exact ⟨_, rfl, by simp only [gd, runD, callP, kwF, pick, rtP, sqP, asP, parP, nxP, ifP, andV, orV, notV, andT, orT, notT, truP, tstP, truD, isiP, isisP, isTys, isNP, notNP, isNon, varP, chP, cstP, bltP, binP, consP, nilP, lstP, tupP, lcP, itP, rng1P, rng2P, slP, noP, soP, intOf, negP, sosP, bd_ok, List.map, List.replicate, List.length_cons, List.length_nil, List.cons_append, List.nil_append, List.append_nil, List.getElem?_cons_zero, List.getElem?_cons_succ, List.filterMap, List.set, omap_some, obind_some, isTy, blOf, if_t, if_f, lenF, leD_i, leD_s, ltD_i, ltD_s, gtD_i, geD_i, addD_i, subD_i, mulD_i, itemsD, wipeD, Tgt.put, setAll, outR, lb0, lb1, lb2, lb3, lb4, lb5, lb6, lb7, lb8, lb9, lb10, lb11, lb12, allF, listF, tupleF, intF, eq_self_iff_true, if_true, if_false, decide_true, decide_false, Bool.true_and, Bool.false_and, Bool.and_true, Bool.and_false, Bool.not_true, Bool.not_false, Nat.sub_self, Nat.reduceAdd, Nat.reduceSub, Nat.reduceEqDiff, same_bl]⟩) (by rw [zip_same, List.length_map, List.length_map, List.length_nil]; omega)
  have all : ∀ ds : List D, bls (ds.map fun _ => D.bl true) = some (ds.map fun _ => true) := fun ds => by
    have := bls_map (ds.map fun _ => true)
    rw [List.map_map] at this
    exact this
  rw [List.nil_append] at lc
  refine run_ret rfl ?_
  unfold d_l_same
  have zf : zipF [.lst (bs.map .bl), .lst (bs.map .bl)] = some (zipL (bs.map .bl) (bs.map .bl)) := rfl
  simp only [gd, runD, callP, kwF, pick, rtP, sqP, asP, parP, nxP, ifP, andV, orV, notV, andT, orT, notT, truP, tstP, truD, isiP, isisP, isTys, isNP, notNP, isNon, varP, chP, cstP, bltP, binP, consP, nilP, lstP, tupP, lcP, itP, rng1P, rng2P, slP, noP, soP, intOf, negP, sosP, bd_ok, List.map, List.replicate, List.length_cons, List.length_nil, List.cons_append, List.nil_append, List.append_nil, List.getElem?_cons_zero, List.getElem?_cons_succ, List.filterMap, List.set, omap_some, obind_some, isTy, blOf, if_t, if_f, lenF, leD_i, leD_s, ltD_i, ltD_s, gtD_i, geD_i, addD_i, subD_i, mulD_i, itemsD, wipeD, Tgt.put, setAll, outR, lb0, lb1, lb2, lb3, lb4, lb5, lb6, lb7, lb8, lb9, lb10, lb11, lb12, allF, listF, tupleF, intF, eq_self_iff_true, if_true, if_false, decide_true, decide_false, Bool.true_and, Bool.false_and, Bool.and_true, Bool.and_false, Bool.not_true, Bool.not_false, Nat.sub_self, Nat.reduceAdd, Nat.reduceSub, Nat.reduceEqDiff, neD_b, eqD_i, beq_self_eq_true, zipP, zf, lc, all]
  have : ((zipL (bs.map D.bl) (bs.map D.bl)).map fun _ => true).all id = true := by rw [List.all_eq_true]; intro x hx; obtain ⟨_, _, rfl⟩ := List.mem_map.mp hx; rfl
  rw [this]
end Dn

set_option Elab.async false
set_option linter.all false
set_option maxRecDepth 100000
set_option maxHeartbeats 4000000
namespace Dn
open PySem PySem.Spec PyProof.Rows L2
def incS (zs : List Str) : Bool := (List.range (zs.length - 1)).all fun i => sLt (zs.getD i Str.empty) (zs.getD (i + 1) Str.empty)
theorem sLt_iff (x y : Str) : sLt x y = true ↔ x.cps.toList < y.cps.toList := by unfold sLt; rw [decide_eq_true_eq]
theorem incS_next {zs : List Str} (h : incS zs = true) (i : Nat) (hi : i + 1 < zs.length) : zs[i].cps.toList < zs[i + 1].cps.toList := by
  unfold incS at h
  rw [List.all_eq_true] at h
  have q := h i (List.mem_range.mpr (by omega))
  rw [sLt_iff, List.getD_eq_getElem?_getD, List.getD_eq_getElem?_getD, List.getElem?_eq_getElem (by omega), List.getElem?_eq_getElem hi] at q
  exact q
theorem incS_lt {zs : List Str} (h : incS zs = true) : zs.Pairwise fun a b => a.cps.toList < b.cps.toList := by
  rw [List.pairwise_iff_getElem]
  intro i j hi hj hij
  obtain ⟨d, rfl⟩ : ∃ d, j = i + 1 + d := ⟨j - (i + 1), by omega⟩
  induction d with
  | zero => exact incS_next h i hj
  | succ d ih =>
    exact List.lt_trans (ih (by omega) (by omega)) (incS_next h (i + 1 + d) (by omega))
theorem incS_iff (zs : List Str) : incS zs = decide (zs = srtS (metS zs)) := by
  rw [Bool.eq_iff_iff, decide_eq_true_eq]
  constructor
  · intro h
    have p := incS_lt h
    have nd : zs.Nodup := p.imp fun {a b} l e => by
      subst e
      exact List.lt_asymm l l
    exact srtS_one (perm_of_sub nd (fun x hx => metS_mem.mpr hx) (metS_len zs)) (p.imp fun l => List.lt_asymm l)
  · intro h
    have o : zs.Pairwise leS := by rw [h]; exact srtS_ord _
    have nd : zs.Nodup := by rw [h]; exact (srtS_perm _).nodup_iff.mpr (metS_nd zs)
    unfold incS
    rw [List.all_eq_true]
    intro i hi
    have hi := List.mem_range.mp hi
    have h1 : i < zs.length := by omega
    have h2 : i + 1 < zs.length := by omega
    rw [sLt_iff, List.getD_eq_getElem?_getD, List.getD_eq_getElem?_getD, List.getElem?_eq_getElem h1, List.getElem?_eq_getElem h2]
    show zs[i].cps.toList < zs[i + 1].cps.toList
    by_cases c : zs[i].cps.toList < zs[i + 1].cps.toList
    · exact c
    · have e : zs[i] = zs[i + 1] := leS_anti (List.pairwise_iff_getElem.mp o i (i + 1) h1 h2 (Nat.lt_succ_self i)) c
      exact absurd e (List.pairwise_iff_getElem.mp nd i (i + 1) h1 h2 (Nat.lt_succ_self i))
theorem toPys_str (zs : List Str) : toPys (zs.map .str) = some (zs.map PyData.str) := by
  induction zs with
  | nil => rfl
  | cons z zs ih => simp only [List.map_cons, toPys, toPy, ih, Option.bind, Option.map]
theorem lay_str (zs : List Str) (h : ∀ z ∈ zs, PyData.strOk z = true) : PyData.canLayAll0 (zs.map PyData.str) = true := by
  induction zs with
  | nil => rfl
  | cons z zs ih =>
    rw [List.map_cons]
    unfold PyData.canLayAll0 PyData.canLay0
    rw [h z List.mem_cons_self, ih fun x hx => h x (List.mem_cons_of_mem _ hx)] <;> rfl
theorem depth_str (zs : List Str) : PyData.depthAll (zs.map PyData.str) = 0 := by
  induction zs with
  | nil => rfl
  | cons z zs ih =>
    rw [List.map_cons]
    unfold PyData.depthAll PyData.depth
    rw [ih] <;> rfl
theorem shP_strs (zs : List Str) (h : ∀ z ∈ zs, PyData.strOk z = true) : shP (.lst (zs.map .str)) = some (.list (zs.map PyData.str)) := by
  unfold shP
  have e : toPy (.lst (zs.map .str)) = some (.list (zs.map PyData.str)) := by unfold toPy; rw [toPys_str] <;> rfl
  rw [e, obind_some]
  refine if_pos ?_
  unfold SeqAt.shaped PyData.canLay0 PyData.depth
  rw [lay_str zs h, depth_str] <;> rfl
theorem shP_str (z : Str) (h : PyData.strOk z = true) : shP (.str z) = some (.str z) := by
  unfold shP toPy
  rw [obind_some]
  refine if_pos ?_
  unfold SeqAt.shaped PyData.canLay0 PyData.depth
  rw [h] <;> rfl
theorem eqv_strs : ∀ zs ys : List Str, PyData.eqvAll (zs.map PyData.str) (ys.map PyData.str) = decide (zs = ys)
  | [], [] => by unfold PyData.eqvAll; simp
  | [], _ :: _ => by simp [PyData.eqvAll]
  | _ :: _, [] => by simp [PyData.eqvAll]
  | z :: zs, y :: ys => by
    rw [List.map_cons, List.map_cons]
    unfold PyData.eqvAll PyData.eqv
    rw [eqv_strs zs ys, Bool.eq_iff_iff, Bool.and_eq_true, beq_iff_eq, decide_eq_true_eq, decide_eq_true_eq, List.cons.injEq]
theorem eqD_strs (zs ys : List Str) (hz : ∀ z ∈ zs, PyData.strOk z = true) (hy : ∀ z ∈ ys, PyData.strOk z = true) : eqD (.lst (zs.map .str)) (.lst (ys.map .str)) = some (.bl (decide (zs = ys))) := by
  unfold eqD eqB
  rw [shP_strs zs hz, shP_strs ys hy]
  show some (D.bl (PyData.eqv (.list _) (.list _))) = _
  unfold PyData.eqv
  rw [eqv_strs]
theorem neD_str (x y : Str) (hx : PyData.strOk x = true) (hy : PyData.strOk y = true) : neD (.str x) (.str y) = some (.bl (!(x == y))) := by
  unfold neD eqB
  rw [shP_str x hx, shP_str y hy] <;> rfl
theorem ix_str (zs : List Str) (i : Nat) (h : i < zs.length) : ixD (.tup (zs.map .str)) (.int i) = some (.str (zs.getD i Str.empty)) := by
  show atI _ _ = _
  unfold atI ixN
  rw [List.length_map, if_pos (by omega), if_pos (by omega), obind_some, Int.toNat_natCast, List.getElem?_map, List.getD_eq_getElem?_getD, List.getElem?_eq_getElem h] <;> rfl
theorem rng2_ok (i j : Int) (h0 : -1000000 ≤ i ∧ i ≤ 1000000) (h1 : -1000000 ≤ j ∧ j ≤ 1000000) : rng2F [.int i, .int j] = some (rngD i j) := if_pos ⟨h0.1, h0.2, h1.1, h1.2⟩
theorem is_group_tup (zs : List Str) (st : Sta) (h : ∀ z ∈ zs, z.length ≤ big) (hl : zs.length ≤ big) : F_is_group [.tup (zs.map .str)] st = some (.ok (.bl (zs.all (okN 4) && incS zs)), st) := by
  have hl' : zs.length ≤ 1000000 := hl
  have lc1 := lc_pure (t := .one 2) (te := callP F_is_name (consP (varP 2) nilP)) (Δ := [some (.tup (zs.map .str)), none, none]) (st := st) (fun d => match d with | .str z => .bl (okN 4 z) | d => d) (zs.map .str) [] (fun d hd => by
    obtain ⟨z, hz, rfl⟩ := List.mem_map.mp hd
    exact ⟨_, rfl, by simp only [gd, runD, callP, kwF, pick, rtP, sqP, asP, parP, nxP, ifP, andV, orV, notV, andT, orT, notT, truP, tstP, truD, isiP, isisP, isTys, isNP, notNP, isNon, varP, chP, cstP, bltP, binP, consP, nilP, lstP, tupP, lcP, itP, rng1P, rng2P, slP, noP, soP, intOf, negP, sosP, bd_ok, List.map, List.replicate, List.length_cons, List.length_nil, List.cons_append, List.nil_append, List.append_nil, List.getElem?_cons_zero, List.getElem?_cons_succ, List.filterMap, List.set, omap_some, obind_some, isTy, blOf, if_t, if_f, lenF, leD_i, leD_s, ltD_i, ltD_s, gtD_i, geD_i, addD_i, subD_i, mulD_i, itemsD, wipeD, Tgt.put, setAll, outR, lb0, lb1, lb2, lb3, lb4, lb5, lb6, lb7, lb8, lb9, lb10, lb11, lb12, allF, listF, tupleF, intF, eq_self_iff_true, if_true, if_false, decide_true, decide_false, Bool.true_and, Bool.false_and, Bool.and_true, Bool.and_false, Bool.not_true, Bool.not_false, Nat.sub_self, Nat.reduceAdd, Nat.reduceSub, Nat.reduceEqDiff, is_name_str z st (h z hz)]⟩) (by rw [List.length_map, List.length_nil]; omega)
  have lc2 := lc_pure (t := .one 1) (te := binP ltD (binP ixD (varP 0) (binP subD (varP 1) (cstP (.int 1)))) (binP ixD (varP 0) (varP 1))) (Δ := [some (.tup (zs.map .str)), none, none]) (st := st) (fun d => match d with | .int k => .bl (sLt (zs.getD (k - 1).toNat Str.empty) (zs.getD k.toNat Str.empty)) | d => d) (rngD 1 zs.length) [] (fun d hd => by
    obtain ⟨i, hi, rfl⟩ := rng_mem hd
    refine ⟨_, rfl, ?_⟩
    have e1 : (1 + (i : Int)) - 1 = (i : Int) := by omega
    have e2 : (1 + (i : Int)) = ((i + 1 : Nat) : Int) := by omega
    simp only [gd, runD, callP, kwF, pick, rtP, sqP, asP, parP, nxP, ifP, andV, orV, notV, andT, orT, notT, truP, tstP, truD, isiP, isisP, isTys, isNP, notNP, isNon, varP, chP, cstP, bltP, binP, consP, nilP, lstP, tupP, lcP, itP, rng1P, rng2P, slP, noP, soP, intOf, negP, sosP, bd_ok, List.map, List.replicate, List.length_cons, List.length_nil, List.cons_append, List.nil_append, List.append_nil, List.getElem?_cons_zero, List.getElem?_cons_succ, List.filterMap, List.set, omap_some, obind_some, isTy, blOf, if_t, if_f, lenF, leD_i, leD_s, ltD_i, ltD_s, gtD_i, geD_i, addD_i, subD_i, mulD_i, itemsD, wipeD, Tgt.put, setAll, outR, lb0, lb1, lb2, lb3, lb4, lb5, lb6, lb7, lb8, lb9, lb10, lb11, lb12, allF, listF, tupleF, intF, eq_self_iff_true, if_true, if_false, decide_true, decide_false, Bool.true_and, Bool.false_and, Bool.and_true, Bool.and_false, Bool.not_true, Bool.not_false, Nat.sub_self, Nat.reduceAdd, Nat.reduceSub, Nat.reduceEqDiff, e1]
    rw [e2]
    simp only [gd, runD, callP, kwF, pick, rtP, sqP, asP, parP, nxP, ifP, andV, orV, notV, andT, orT, notT, truP, tstP, truD, isiP, isisP, isTys, isNP, notNP, isNon, varP, chP, cstP, bltP, binP, consP, nilP, lstP, tupP, lcP, itP, rng1P, rng2P, slP, noP, soP, intOf, negP, sosP, bd_ok, List.map, List.replicate, List.length_cons, List.length_nil, List.cons_append, List.nil_append, List.append_nil, List.getElem?_cons_zero, List.getElem?_cons_succ, List.filterMap, List.set, omap_some, obind_some, isTy, blOf, if_t, if_f, lenF, leD_i, leD_s, ltD_i, ltD_s, gtD_i, geD_i, addD_i, subD_i, mulD_i, itemsD, wipeD, Tgt.put, setAll, outR, lb0, lb1, lb2, lb3, lb4, lb5, lb6, lb7, lb8, lb9, lb10, lb11, lb12, allF, listF, tupleF, intF, eq_self_iff_true, if_true, if_false, decide_true, decide_false, Bool.true_and, Bool.false_and, Bool.and_true, Bool.and_false, Bool.not_true, Bool.not_false, Nat.sub_self, Nat.reduceAdd, Nat.reduceSub, Nat.reduceEqDiff, ix_str zs i (by omega), ix_str zs (i + 1) (by omega), Int.toNat_natCast]) (by rw [rng_len, List.length_nil]; omega)
  rw [List.nil_append] at lc1 lc2
  have b1 : bls ((zs.map D.str).map fun d => match d with | .str z => D.bl (okN 4 z) | d => d) = some (zs.map (okN 4)) := by
    have := bls_map (zs.map (okN 4))
    rw [List.map_map] at this ⊢
    exact this
  have b2 : bls ((rngD 1 zs.length).map fun d => match d with | .int k => D.bl (sLt (zs.getD (k - 1).toNat Str.empty) (zs.getD k.toNat Str.empty)) | d => d) = some ((List.range (zs.length - 1)).map fun i => sLt (zs.getD i Str.empty) (zs.getD (i + 1) Str.empty)) := by
    have := bls_map ((List.range (zs.length - 1)).map fun i => sLt (zs.getD i Str.empty) (zs.getD (i + 1) Str.empty))
    rw [List.map_map] at this
    unfold rngD
    rw [List.map_map, show ((zs.length : Int) - 1).toNat = zs.length - 1 by omega]
    rw [← this]
    congr 1
    refine List.map_congr_left fun i _ => ?_
    show D.bl (sLt (zs.getD (1 + (i : Int) - 1).toNat Str.empty) (zs.getD (1 + (i : Int)).toNat Str.empty)) = D.bl _
    rw [show (1 + (i : Int) - 1).toNat = i by omega, show (1 + (i : Int)).toNat = i + 1 by omega]
  have a1 : (zs.map (okN 4)).all id = zs.all (okN 4) := by rw [List.all_map] <;> rfl
  have a2 : ((List.range (zs.length - 1)).map fun i => sLt (zs.getD i Str.empty) (zs.getD (i + 1) Str.empty)).all id = incS zs := by rw [List.all_map] <;> rfl
  refine run_ret rfl ?_
  unfold d_is_group
  cases c : zs.all (okN 4)
  · refine sq_ret ?_
    simp only [gd, runD, callP, kwF, pick, rtP, sqP, asP, parP, nxP, ifP, andV, orV, notV, andT, orT, notT, truP, tstP, truD, isiP, isisP, isTys, isNP, notNP, isNon, varP, chP, cstP, bltP, binP, consP, nilP, lstP, tupP, lcP, itP, rng1P, rng2P, slP, noP, soP, intOf, negP, sosP, bd_ok, List.map, List.replicate, List.length_cons, List.length_nil, List.cons_append, List.nil_append, List.append_nil, List.getElem?_cons_zero, List.getElem?_cons_succ, List.filterMap, List.set, omap_some, obind_some, isTy, blOf, if_t, if_f, lenF, leD_i, leD_s, ltD_i, ltD_s, gtD_i, geD_i, addD_i, subD_i, mulD_i, itemsD, wipeD, Tgt.put, setAll, outR, lb0, lb1, lb2, lb3, lb4, lb5, lb6, lb7, lb8, lb9, lb10, lb11, lb12, allF, listF, tupleF, intF, eq_self_iff_true, if_true, if_false, decide_true, decide_false, Bool.true_and, Bool.false_and, Bool.and_true, Bool.and_false, Bool.not_true, Bool.not_false, Nat.sub_self, Nat.reduceAdd, Nat.reduceSub, Nat.reduceEqDiff, lc1, b1, a1, c]
  · refine sq_step (Δ1 := [some (.tup (zs.map .str)), none, none]) (st1 := st) ?_ ?_
    · simp only [gd, runD, callP, kwF, pick, rtP, sqP, asP, parP, nxP, ifP, andV, orV, notV, andT, orT, notT, truP, tstP, truD, isiP, isisP, isTys, isNP, notNP, isNon, varP, chP, cstP, bltP, binP, consP, nilP, lstP, tupP, lcP, itP, rng1P, rng2P, slP, noP, soP, intOf, negP, sosP, bd_ok, List.map, List.replicate, List.length_cons, List.length_nil, List.cons_append, List.nil_append, List.append_nil, List.getElem?_cons_zero, List.getElem?_cons_succ, List.filterMap, List.set, omap_some, obind_some, isTy, blOf, if_t, if_f, lenF, leD_i, leD_s, ltD_i, ltD_s, gtD_i, geD_i, addD_i, subD_i, mulD_i, itemsD, wipeD, Tgt.put, setAll, outR, lb0, lb1, lb2, lb3, lb4, lb5, lb6, lb7, lb8, lb9, lb10, lb11, lb12, allF, listF, tupleF, intF, eq_self_iff_true, if_true, if_false, decide_true, decide_false, Bool.true_and, Bool.false_and, Bool.and_true, Bool.and_false, Bool.not_true, Bool.not_false, Nat.sub_self, Nat.reduceAdd, Nat.reduceSub, Nat.reduceEqDiff, lc1, b1, a1, c]
    · simp only [gd, runD, callP, kwF, pick, rtP, sqP, asP, parP, nxP, ifP, andV, orV, notV, andT, orT, notT, truP, tstP, truD, isiP, isisP, isTys, isNP, notNP, isNon, varP, chP, cstP, bltP, binP, consP, nilP, lstP, tupP, lcP, itP, rng1P, rng2P, slP, noP, soP, intOf, negP, sosP, bd_ok, List.map, List.replicate, List.length_cons, List.length_nil, List.cons_append, List.nil_append, List.append_nil, List.getElem?_cons_zero, List.getElem?_cons_succ, List.filterMap, List.set, omap_some, obind_some, isTy, blOf, if_t, if_f, lenF, leD_i, leD_s, ltD_i, ltD_s, gtD_i, geD_i, addD_i, subD_i, mulD_i, itemsD, wipeD, Tgt.put, setAll, outR, lb0, lb1, lb2, lb3, lb4, lb5, lb6, lb7, lb8, lb9, lb10, lb11, lb12, allF, listF, tupleF, intF, eq_self_iff_true, if_true, if_false, decide_true, decide_false, Bool.true_and, Bool.false_and, Bool.and_true, Bool.and_false, Bool.not_true, Bool.not_false, Nat.sub_self, Nat.reduceAdd, Nat.reduceSub, Nat.reduceEqDiff, List.length_map, rng2_ok 1 zs.length (by decide) (by omega), lc2, b2, a2]
end Dn

set_option Elab.async false
set_option linter.all false
set_option maxRecDepth 100000
set_option maxHeartbeats 4000000
namespace Dn
open PySem PySem.Spec PyProof.Rows L2
def st1 : SDen :=
    (asP (.one 1) (callP F_l_bag (consP (varP 0) nilP)))
def tn1 : SDen :=
    (asP (.one 6) (binP ixD (callP F_l_names (consP (varP 1) (consP (cstP (.int 1)) nilP))) (cstP (.int 0))))
def tn2 : SDen :=
    (asP (.one 7) (callP F_l_pull (consP (varP 1) (consP (binP addD (bltP lenF (consP (varP 6) nilP)) (cstP (.int 1))) nilP))))
def tn3 : SDen :=
    (asP (.one 8) (binP addD (binP addD (slP (varP 6) noP (soP (varP 7))) (callP F_l_any (consP (varP 1) (consP (lstP (consP (cstP (.str "")) (consP (cstP (.str "a")) (consP (cstP (.str "z")) (consP (cstP (.str "A")) (consP (cstP (.str "1")) (consP (cstP (.str " ")) (consP (cstP (.str "-")) (consP (cstP (.str "\n")) (consP (cstP (.str "bc")) (consP (cstP (.str "bcde")) nilP))))))))))) nilP)))) (slP (varP 6) (soP (varP 7)) noP)))
def tn4 : SDen :=
    (asP (.one 9) (andV (binP neD (varP 8) (cstP (.str ""))) (bltP allF (consP (lcP (itP (varP 8)) (.one 19) yesT (binP inD (varP 19) (cstP (.str "abcdefghijklmnopqrstuvwxyz"))) [19]) nilP))))
def tn5 : SDen :=
    (ifP (notT (truP (callP (F_l_same 8) (consP (lstP (consP (callP F_is_name (consP (varP 8) nilP)) (consP (callP (kwF 1 [0] F_is_piece) (consP (varP 8) nilP)) nilP))) (consP (lstP (consP (andV (varP 9) (binP ltD (bltP lenF (consP (varP 8) nilP)) (cstP (.int 5)))) (consP (andV (varP 9) (binP ltD (bltP lenF (consP (varP 8) nilP)) (cstP (.int 7)))) nilP))) nilP))))) (rtP (cstP (.bl false))) nxP)
def tn6 : SDen :=
    (asP (.one 10) (callP F_l_names (consP (varP 1) (consP (callP F_l_pull (consP (varP 1) (consP (cstP (.int 5)) nilP))) nilP))))
def tn7 : SDen :=
    (asP (.one 11) (bltP tupleF (consP (callP F_l_any (consP (varP 1) (consP (lstP (consP (varP 10) (consP (bltP sortF (consP (varP 10) nilP)) (consP (binP addD (bltP sortF (consP (varP 10) nilP)) (slP (varP 10) noP (soP (cstP (.int 1))))) (consP (binP addD (bltP sortF (consP (varP 10) nilP)) (lstP (consP (varP 8) nilP))) nilP))))) nilP))) nilP)))
def tn8 : SDen :=
    (asP (.one 12) (bltP allF (consP (lcP (itP (varP 11)) (.one 18) yesT (andV (chP leD leD (cstP (.int 1)) (bltP lenF (consP (varP 18) nilP)) (cstP (.int 4))) (bltP allF (consP (lcP (itP (varP 18)) (.one 19) yesT (binP inD (varP 19) (cstP (.str "abcdefghijklmnopqrstuvwxyz"))) [19]) nilP))) [18]) nilP)))
def tn9 : SDen :=
    (asP (.one 12) (andV (varP 12) (binP eqD (bltP listF (consP (varP 11) nilP)) (sosP (varP 11)))))
def tn10 : SDen :=
    (ifP (notT (truP (callP (F_l_same 8) (consP (lstP (consP (callP F_is_group (consP (varP 11) nilP)) (consP (callP (kwF 1 [0] F_is_group) (consP (bltP listF (consP (varP 11) nilP)) nilP)) nilP))) (consP (lstP (consP (varP 12) (consP (cstP (.bl false)) nilP))) nilP))))) (rtP (cstP (.bl false))) nxP)
def tn11 : SDen :=
    (parP 13 14 (consP (binP subD (callP F_l_pull (consP (varP 1) (consP (cstP (.int 9)) nilP))) (cstP (.int 4))) (consP (callP F_l_any (consP (varP 1) (consP (lstP (consP (cstP (.int 0)) (consP (cstP (.int 3)) (consP (binP (intD powI) (cstP (.int 10)) (cstP (.int 5))) nilP)))) nilP))) nilP)))
def tn12 : SDen :=
    (asP (.one 15) (callP F_l_any (consP (varP 1) (consP (lstP (consP (binP subD (varP 13) (cstP (.int 1))) (consP (varP 13) (consP (binP addD (varP 13) (varP 14)) (consP (binP addD (binP addD (varP 13) (varP 14)) (cstP (.int 1))) (consP (callP F_l_pull (consP (varP 1) (consP (binP (intD powI) (cstP (.int 10)) (cstP (.int 6))) nilP))) nilP)))))) nilP))))
def tn13 : SDen :=
    (asP (.one 16) (chP leD leD (varP 13) (varP 15) (binP addD (varP 13) (varP 14))))
def tn14 : SDen :=
    (ifP (notT (truP (callP (F_l_same 8) (consP (lstP (consP (callP F_is_number (consP (varP 15) (consP (varP 13) (consP (binP addD (varP 13) (varP 14)) nilP)))) (consP (callP (kwF 3 [2, 1, 0] F_is_number) (consP (binP addD (varP 13) (varP 14)) (consP (varP 13) (consP (varP 15) nilP)))) nilP))) (consP (lstP (consP (varP 16) (consP (varP 16) nilP))) nilP))))) (rtP (cstP (.bl false))) nxP)
def turn : SDen := (sqP tn1 (sqP tn2 (sqP tn3 (sqP tn4 (sqP tn5 (sqP tn6 (sqP tn7 (sqP tn8 (sqP tn9 (sqP tn10 (sqP tn11 (sqP tn12 (sqP tn13 tn14)))))))))))))
def st2 : SDen := foP (rng1P (consP (cstP (.int 6)) nilP)) (.one 2) turn
def st3 : SDen :=
    (asP (.one 3) (lstP (consP (cstP .non) (consP (cstP (.bl true)) (consP (cstP (.bl false)) (consP (cstP (.int 3)) (consP (lstP nilP) (consP (lstP (consP (cstP (.str "a")) nilP)) (consP (tupP (consP (cstP (.str "A")) nilP)) (consP (tupP (consP (cstP (.str "a")) (consP (cstP (.int 3)) nilP))) (consP (cstP (.str "1")) nilP)))))))))))
def st4 : SDen :=
    (asP (.one 4) (binP addD (binP addD (lcP (itP (varP 3)) (.one 17) yesT (callP F_is_name (consP (varP 17) nilP)) [17]) (lcP (itP (varP 3)) (.one 17) yesT (callP F_is_piece (consP (varP 17) nilP)) [17])) (lcP (itP (varP 3)) (.one 17) yesT (callP F_is_group (consP (varP 17) nilP)) [17])))
def st5 : SDen :=
    (asP (.one 5) (lcP (itP (lstP (consP (cstP .non) (consP (cstP (.bl true)) (consP (cstP (.bl false)) (consP (cstP (.str "1")) (consP (lstP (consP (cstP (.int 1)) nilP)) (consP (tupP (consP (cstP (.int 1)) nilP)) nilP)))))))) (.one 17) yesT (callP F_is_number (consP (varP 17) (consP (negP (cstP (.int 5))) (consP (cstP (.int 9)) nilP)))) [17]))
def st6 : SDen :=
    (rtP (callP (F_l_same 8) (consP (binP addD (binP addD (varP 4) (varP 5)) (lstP (consP (callP F_is_group (consP (tupP nilP) nilP)) (consP (callP F_is_group (consP (tupP (consP (cstP (.str "a")) nilP)) nilP)) nilP)))) (consP (binP addD (binP mulD (lstP (consP (cstP (.bl false)) nilP)) (cstP (.int 33))) (lstP (consP (cstP (.bl true)) (consP (cstP (.bl true)) nilP)))) nilP))))
theorem law_parts : d_law = (sqP st1 (sqP st2 (sqP st3 (sqP st4 (sqP st5 st6))))) := rfl
theorem strOk_app (x y : Str) : PyData.strOk (x ++ y) = (PyData.strOk x && PyData.strOk y) := by
  show ((x.cps ++ y.cps).all _) = (x.cps.all _ && y.cps.all _)
  rw [Array.all_append]
theorem strOk_low (z : Str) (h : lowS z = true) : PyData.strOk z = true := by
  unfold PyData.strOk
  unfold lowS at h
  rw [← Array.all_toList]
  rw [List.all_eq_true] at h ⊢
  intro c hc
  have q := h c hc
  unfold lowC at q
  rw [Bool.and_eq_true, decide_eq_true_eq, decide_eq_true_eq] at q
  rw [decide_eq_true_eq]
  omega
theorem sort_ok (zs : List Str) (h : zs.length < 64) : sortF [.lst (zs.map .str)] = some (.lst ((srtS zs).map .str)) := by
  show (strsD (zs.map .str)).bind _ = _
  rw [strsD_map, obind_some, if_pos h]
theorem sos_ok (zs : List Str) (h : zs.length < 64) : sosD (.tup (zs.map .str)) = some (.lst ((srtS (metS zs)).map .str)) := by
  show (strsD (zs.map .str)).bind _ = _
  rw [strsD_map, obind_some, if_pos h]
theorem addL (xs ys : List Str) (h : xs.length + ys.length ≤ big) : addD (.lst (xs.map .str)) (.lst (ys.map .str)) = some (.lst ((xs ++ ys).map .str)) := by
  show (if (xs.map D.str).length + (ys.map D.str).length ≤ big then _ else _) = _
  rw [List.length_map, List.length_map, if_pos h, List.map_append]
theorem cut1 (zs : List Str) : slD (.lst (zs.map .str)) none (some 1) = some (.lst ((zs.take 1).map .str)) := by
  show some (D.lst (cutL _ _ _)) = _
  unfold cutL
  rw [HT.sIx_none, show HT.sIx (zs.map D.str).length (zs.map D.str).length (some 1) = min 1 (zs.map D.str).length from HT.sIx_nat _ _ 1, List.drop_zero, Nat.sub_zero, List.map_take]
  cases zs with
  | nil => rfl
  | cons z zs => rw [show min 1 ((z :: zs).map D.str).length = 1 by rw [List.length_map, List.length_cons]; omega]
theorem same2 (x y : Bool) (st : Sta) : F_l_same 8 [.lst [.bl x, .bl y], .lst [.bl x, .bl y]] st = some (.ok (.bl true), st) := same_bls 6 [x, y] st (by show 2 ≤ big; decide)
/-- one sign after the other of a text, each a small letter -/
theorem signs (z : Str) (i : Nat) (Δ : Dl) (st : Sta) (hz : z.length ≤ big) (hi : i < Δ.length) : lcGo (.one i) yesT (binP inD (varP i) (cstP (.str "abcdefghijklmnopqrstuvwxyz"))) Δ (z.cps.toList.map fun c => .str ⟨#[c]⟩) st [] = some (.ok (.lst ((z.cps.toList.map lowC).map .bl)), st) := by
  have lc := lc_pure (t := .one i) (te := binP inD (varP i) (cstP (.str "abcdefghijklmnopqrstuvwxyz"))) (Δ := Δ) (st := st) lowD (z.cps.toList.map fun c => .str ⟨#[c]⟩) [] (fun d hd => by
    obtain ⟨c, _, rfl⟩ := List.mem_map.mp hd
    refine ⟨_, rfl, ?_⟩
    have e : (Δ.set i (some (D.str ⟨#[c]⟩)))[i]? = some (some (.str ⟨#[c]⟩)) := by rw [List.getElem?_set_self hi]
    have q : inD (.str ⟨#[c]⟩) (.str abc) = some (.bl (lowC c)) := by
      show (if (#[c] : Array Nat) = #[(#[c] : Array Nat).getD 0 0] then some (decide ((#[c] : Array Nat).getD 0 0 ∈ abc.cps.toList)) else none).map D.bl = _
      rw [if_pos (show (#[c] : Array Nat) = #[(#[c] : Array Nat).getD 0 0] from rfl)]
      show some (D.bl (decide (c ∈ abc.cps.toList))) = _
      congr 2
      rw [Bool.eq_iff_iff, decide_eq_true_eq]
      exact abc_mem c
    simp only [gd, runD, callP, kwF, pick, rtP, sqP, asP, parP, nxP, ifP, andV, orV, notV, andT, orT, notT, truP, tstP, truD, isiP, isisP, isTys, isNP, notNP, isNon, varP, chP, cstP, bltP, binP, consP, nilP, lstP, tupP, lcP, itP, rng1P, rng2P, slP, noP, soP, intOf, negP, sosP, bd_ok, List.map, List.replicate, List.length_cons, List.length_nil, List.cons_append, List.nil_append, List.append_nil, List.getElem?_cons_zero, List.getElem?_cons_succ, List.filterMap, List.set, omap_some, obind_some, isTy, blOf, if_t, if_f, lenF, leD_i, leD_s, ltD_i, ltD_s, gtD_i, geD_i, addD_i, subD_i, mulD_i, itemsD, wipeD, Tgt.put, setAll, outR, lb0, lb1, lb2, lb3, lb4, lb5, lb6, lb7, lb8, lb9, lb10, lb11, lb12, allF, listF, tupleF, intF, eq_self_iff_true, if_true, if_false, decide_true, decide_false, Bool.true_and, Bool.false_and, Bool.and_true, Bool.and_false, Bool.not_true, Bool.not_false, Nat.sub_self, Nat.reduceAdd, Nat.reduceSub, Nat.reduceEqDiff, e, q]
    rfl) (by rw [List.length_map, List.length_nil, Nat.zero_add]; exact hz)
  rw [List.nil_append, List.map_map, show (lowD ∘ fun c => D.str ⟨#[c]⟩) = (D.bl ∘ lowC) from rfl, ← List.map_map] at lc
  exact lc
theorem all_low (z : Str) : (z.cps.toList.map lowC).all id = lowS z := by rw [List.all_map] <;> rfl
end Dn

set_option Elab.async false
set_option linter.all false
set_option maxRecDepth 100000
set_option maxHeartbeats 8000000
namespace Dn
open PySem PySem.Spec PyProof.Rows L2
def fr (s0 : D) (x2 y6 y7 y8 y9 y10 y11 y12 y13 y14 y15 y16 : Option D) : Dl := [some s0, some (.hnd 0), x2, none, none, none, y6, y7, y8, y9, y10, y11, y12, y13, y14, y15, y16, none, none, none]
theorem lc18 (ws : List Str) (Δ : Dl) (st : Sta) (hw : ∀ w ∈ ws, w.length ≤ big) (hl : ws.length ≤ big) (hi : Δ.length = 20) (h19 : Δ[19]? = some none) :
    lcGo (.one 18) yesT (andV (chP leD leD (cstP (.int 1)) (bltP lenF (consP (varP 18) nilP)) (cstP (.int 4))) (bltP allF (consP (lcP (itP (varP 18)) (.one 19) yesT (binP inD (varP 19) (cstP (.str "abcdefghijklmnopqrstuvwxyz"))) [19]) nilP))) Δ (ws.map .str) st [] =
      some (.ok (.lst ((ws.map (okN 4)).map .bl)), st) := by
  have lc := lc_pure (t := .one 18) (te := andV (chP leD leD (cstP (.int 1)) (bltP lenF (consP (varP 18) nilP)) (cstP (.int 4))) (bltP allF (consP (lcP (itP (varP 18)) (.one 19) yesT (binP inD (varP 19) (cstP (.str "abcdefghijklmnopqrstuvwxyz"))) [19]) nilP))) (Δ := Δ) (st := st)
    (fun d => match d with | .str z => .bl (okN 4 z) | d => d) (ws.map .str) [] (fun d hd => by
    obtain ⟨w, hm, rfl⟩ := List.mem_map.mp hd
    refine ⟨_, rfl, ?_⟩
    have e : (Δ.set 18 (some (D.str w)))[18]? = some (some (.str w)) := by rw [List.getElem?_set_self (by omega)]
    have sg := signs w 19 ((Δ.set 18 (some (D.str w))).set 19 none) st (hw w hm) (by rw [List.length_set, List.length_set]; omega)
    unfold okN
    cases h1 : decide (1 ≤ (w.length : Int))
    · simp only [gd, runD, callP, kwF, pick, rtP, sqP, asP, parP, nxP, ifP, andV, orV, notV, andT, orT, notT, truP, tstP, truD, isiP, isisP, isTys, isNP, notNP, isNon, varP, chP, cstP, bltP, binP, consP, nilP, lstP, tupP, lcP, itP, rng1P, rng2P, slP, noP, soP, intOf, negP, sosP, bd_ok, List.map, List.replicate, List.length_cons, List.length_nil, List.cons_append, List.nil_append, List.append_nil, List.getElem?_cons_zero, List.getElem?_cons_succ, List.filterMap, List.set, omap_some, obind_some, isTy, blOf, if_t, if_f, lenF, leD_i, leD_s, ltD_i, ltD_s, gtD_i, geD_i, addD_i, subD_i, mulD_i, itemsD, wipeD, Tgt.put, setAll, outR, lb0, lb1, lb2, lb3, lb4, lb5, lb6, lb7, lb8, lb9, lb10, lb11, lb12, allF, listF, tupleF, intF, eq_self_iff_true, if_true, if_false, decide_true, decide_false, Bool.true_and, Bool.false_and, Bool.and_true, Bool.and_false, Bool.not_true, Bool.not_false, Nat.sub_self, Nat.reduceAdd, Nat.reduceSub, Nat.reduceEqDiff, e, if_pos (hw w hm), h1]
    · cases h2 : decide ((w.length : Int) ≤ 4)
      · simp only [gd, runD, callP, kwF, pick, rtP, sqP, asP, parP, nxP, ifP, andV, orV, notV, andT, orT, notT, truP, tstP, truD, isiP, isisP, isTys, isNP, notNP, isNon, varP, chP, cstP, bltP, binP, consP, nilP, lstP, tupP, lcP, itP, rng1P, rng2P, slP, noP, soP, intOf, negP, sosP, bd_ok, List.map, List.replicate, List.length_cons, List.length_nil, List.cons_append, List.nil_append, List.append_nil, List.getElem?_cons_zero, List.getElem?_cons_succ, List.filterMap, List.set, omap_some, obind_some, isTy, blOf, if_t, if_f, lenF, leD_i, leD_s, ltD_i, ltD_s, gtD_i, geD_i, addD_i, subD_i, mulD_i, itemsD, wipeD, Tgt.put, setAll, outR, lb0, lb1, lb2, lb3, lb4, lb5, lb6, lb7, lb8, lb9, lb10, lb11, lb12, allF, listF, tupleF, intF, eq_self_iff_true, if_true, if_false, decide_true, decide_false, Bool.true_and, Bool.false_and, Bool.and_true, Bool.and_false, Bool.not_true, Bool.not_false, Nat.sub_self, Nat.reduceAdd, Nat.reduceSub, Nat.reduceEqDiff, e, if_pos (hw w hm), h1, h2]
      · simp only [gd, runD, callP, kwF, pick, rtP, sqP, asP, parP, nxP, ifP, andV, orV, notV, andT, orT, notT, truP, tstP, truD, isiP, isisP, isTys, isNP, notNP, isNon, varP, chP, cstP, bltP, binP, consP, nilP, lstP, tupP, lcP, itP, rng1P, rng2P, slP, noP, soP, intOf, negP, sosP, bd_ok, List.map, List.replicate, List.length_cons, List.length_nil, List.cons_append, List.nil_append, List.append_nil, List.getElem?_cons_zero, List.getElem?_cons_succ, List.filterMap, List.set, omap_some, obind_some, isTy, blOf, if_t, if_f, lenF, leD_i, leD_s, ltD_i, ltD_s, gtD_i, geD_i, addD_i, subD_i, mulD_i, itemsD, wipeD, Tgt.put, setAll, outR, lb0, lb1, lb2, lb3, lb4, lb5, lb6, lb7, lb8, lb9, lb10, lb11, lb12, allF, listF, tupleF, intF, eq_self_iff_true, if_true, if_false, decide_true, decide_false, Bool.true_and, Bool.false_and, Bool.and_true, Bool.and_false, Bool.not_true, Bool.not_false, Nat.sub_self, Nat.reduceAdd, Nat.reduceSub, Nat.reduceEqDiff, e, if_pos (hw w hm), h1, h2, sg, bls_map, all_low]) (by rw [List.length_map, List.length_nil]; omega)
  rw [List.nil_append, List.map_map] at lc
  rw [List.map_map]
  exact lc
theorem ten : ∀ d ∈ [D.str "", .str "a", .str "z", .str "A", .str "1", .str " ", .str "-", .str "\n", .str "bc", .str "bcde"], ∃ s : Str, d = .str s ∧ s.length ≤ 4 ∧ PyData.strOk s = true := by
  intro d hd
  simp only [List.mem_cons, List.not_mem_nil, or_false] at hd
  rcases hd with h | h | h | h | h | h | h | h | h | h <;> exact ⟨_, h, by decide +kernel, by decide +kernel⟩
theorem str_nil (z : Str) : (z == (Str.ofString "")) = decide (z.length = 0) := by
  rw [Bool.eq_iff_iff, beq_iff_eq, decide_eq_true_eq]
  constructor
  · rintro rfl; rfl
  · intro h
    obtain ⟨a⟩ := z
    have : a = #[] := Array.size_eq_zero_iff.mp h
    rw [this] <;> rfl
theorem okN_plain (z : Str) (k j : Int) (h : j = k + 1) : okN k z = ((!(z == (Str.ofString "")) && lowS z) && decide ((z.length : Int) < j)) := by
  subst h
  unfold okN
  rw [str_nil, Bool.eq_iff_iff]
  simp only [Bool.and_eq_true, decide_eq_true_eq, Bool.not_eq_true', decide_eq_false_iff_not]
  constructor
  · rintro ⟨a, b, c⟩
    exact ⟨⟨by omega, c⟩, by omega⟩
  · rintro ⟨⟨a, c⟩, b⟩
    exact ⟨by omega, by omega, c⟩
theorem turnA (s0 : D) (x2 y6 y7 y8 y9 y10 y11 y12 y13 y14 y15 y16 : Option D) (b : BagSt) (scr : Option (Addr × List Int)) (own : List (Nat × Cell)) (hb : okB b) (rest : SDen) :
    ∃ (z6 z7 z9 : Option D) (bent : Str) (b' : BagSt), okB b' ∧ bent.length ≤ 8 ∧ PyData.strOk bent = true ∧
      sqP tn1 (sqP tn2 (sqP tn3 (sqP tn4 (sqP tn5 rest)))) (fr s0 x2 y6 y7 y8 y9 y10 y11 y12 y13 y14 y15 y16) ⟨some b, scr, own⟩ = rest (fr s0 x2 z6 z7 (some (.str bent)) z9 y10 y11 y12 y13 y14 y15 y16) ⟨some b', scr, own⟩ := by
  obtain ⟨zs, b1, p1, l1, g1, hb1⟩ := names_ok b scr own 1 hb (by decide) (by decide)
  obtain ⟨w, rfl⟩ : ∃ w, zs = [w] := by
    match zs, l1 with
    | [w], _ => exact ⟨w, rfl⟩
  obtain ⟨w1, w2, w3⟩ := g1 w List.mem_cons_self
  have wb : w.length ≤ big := by unfold big; omega
  obtain ⟨at_, b2, p2, a0, a1, hb2⟩ := pull_ok b1 scr own (w.length + 1) hb1 (by omega) (by omega)
  obtain ⟨n, rfl⟩ : ∃ n : Nat, at_ = n := ⟨at_.toNat, by omega⟩
  obtain ⟨d, b3, hd, p3, hb3⟩ := any_lst b2 scr own [D.str "", .str "a", .str "z", .str "A", .str "1", .str " ", .str "-", .str "\n", .str "bc", .str "bcde"] hb2 (by decide) (by decide)
  obtain ⟨s, rfl, s4, sok⟩ := ten d hd
  obtain ⟨c1, c2⟩ := len_cut w n (by omega)
  have ad1 : addD (.str (cutS w none (some (n : Int)))) (.str s) = some (.str (cutS w none (some (n : Int)) ++ s)) := if_pos (by rw [c1]; unfold big; omega)
  have ad2 : addD (.str (cutS w none (some (n : Int)) ++ s)) (.str (cutS w (some (n : Int)) none)) = some (.str (cutS w none (some (n : Int)) ++ s ++ cutS w (some (n : Int)) none)) := if_pos (by rw [len_app, c1, c2]; unfold big; omega)
  obtain ⟨bent, eb⟩ : ∃ x, x = cutS w none (some (n : Int)) ++ s ++ cutS w (some (n : Int)) none := ⟨_, rfl⟩
  rw [← eb] at ad2
  have lb : bent.length ≤ 8 := by rw [eb, len_app, len_app, c1, c2]; omega
  have bb : bent.length ≤ big := by unfold big; omega
  have ob : PyData.strOk bent = true := by
    rw [eb, strOk_app, strOk_app, sok, strOk_low _ (low_cut w _ _ w3), strOk_low _ (low_cut w _ _ w3)] <;> rfl
  have ne := neD_str bent "" ob (by decide +kernel)
  have ix0 : ixD (.lst [.str w]) (.int 0) = some (.str w) := rfl
  obtain ⟨plain, ep⟩ : ∃ p, p = (!(bent == (Str.ofString "")) && lowS bent) := ⟨_, rfl⟩
  have k4 : okN 4 bent = (plain && decide ((bent.length : Int) < 5)) := by rw [ep]; exact okN_plain bent 4 5 rfl
  have k6 : okN 6 bent = (plain && decide ((bent.length : Int) < 7)) := by rw [ep]; exact okN_plain bent 6 7 rfl
  have n1 := fun st => is_name_str bent st bb
  have n2 := fun st => is_piece_str bent st bb
  refine ⟨some (.str w), some (.int n), some (.bl plain), bent, b3, hb3, lb, ob, ?_⟩
  unfold fr
  (apply sq_step; focus (simp only [gd, runD, callP, kwF, pick, rtP, sqP, asP, parP, nxP, ifP, andV, orV, notV, andT, orT, notT, truP, tstP, truD, isiP, isisP, isTys, isNP, notNP, isNon, varP, chP, cstP, bltP, binP, consP, nilP, lstP, tupP, lcP, itP, rng1P, rng2P, slP, noP, soP, intOf, negP, sosP, bd_ok, List.map, List.replicate, List.length_cons, List.length_nil, List.cons_append, List.nil_append, List.append_nil, List.getElem?_cons_zero, List.getElem?_cons_succ, List.filterMap, List.set, omap_some, obind_some, isTy, blOf, if_t, if_f, lenF, leD_i, leD_s, ltD_i, ltD_s, gtD_i, geD_i, addD_i, subD_i, mulD_i, itemsD, wipeD, Tgt.put, setAll, outR, lb0, lb1, lb2, lb3, lb4, lb5, lb6, lb7, lb8, lb9, lb10, lb11, lb12, allF, listF, tupleF, intF, eq_self_iff_true, if_true, if_false, decide_true, decide_false, Bool.true_and, Bool.false_and, Bool.and_true, Bool.and_false, Bool.not_true, Bool.not_false, Nat.sub_self, Nat.reduceAdd, Nat.reduceSub, Nat.reduceEqDiff, tn1, p1, ix0]; first | done | rfl))
  (apply sq_step; focus (simp only [gd, runD, callP, kwF, pick, rtP, sqP, asP, parP, nxP, ifP, andV, orV, notV, andT, orT, notT, truP, tstP, truD, isiP, isisP, isTys, isNP, notNP, isNon, varP, chP, cstP, bltP, binP, consP, nilP, lstP, tupP, lcP, itP, rng1P, rng2P, slP, noP, soP, intOf, negP, sosP, bd_ok, List.map, List.replicate, List.length_cons, List.length_nil, List.cons_append, List.nil_append, List.append_nil, List.getElem?_cons_zero, List.getElem?_cons_succ, List.filterMap, List.set, omap_some, obind_some, isTy, blOf, if_t, if_f, lenF, leD_i, leD_s, ltD_i, ltD_s, gtD_i, geD_i, addD_i, subD_i, mulD_i, itemsD, wipeD, Tgt.put, setAll, outR, lb0, lb1, lb2, lb3, lb4, lb5, lb6, lb7, lb8, lb9, lb10, lb11, lb12, allF, listF, tupleF, intF, eq_self_iff_true, if_true, if_false, decide_true, decide_false, Bool.true_and, Bool.false_and, Bool.and_true, Bool.and_false, Bool.not_true, Bool.not_false, Nat.sub_self, Nat.reduceAdd, Nat.reduceSub, Nat.reduceEqDiff, tn2, if_pos wb, p2]; first | done | rfl))
  (apply sq_step; focus (simp only [gd, runD, callP, kwF, pick, rtP, sqP, asP, parP, nxP, ifP, andV, orV, notV, andT, orT, notT, truP, tstP, truD, isiP, isisP, isTys, isNP, notNP, isNon, varP, chP, cstP, bltP, binP, consP, nilP, lstP, tupP, lcP, itP, rng1P, rng2P, slP, noP, soP, intOf, negP, sosP, bd_ok, List.map, List.replicate, List.length_cons, List.length_nil, List.cons_append, List.nil_append, List.append_nil, List.getElem?_cons_zero, List.getElem?_cons_succ, List.filterMap, List.set, omap_some, obind_some, isTy, blOf, if_t, if_f, lenF, leD_i, leD_s, ltD_i, ltD_s, gtD_i, geD_i, addD_i, subD_i, mulD_i, itemsD, wipeD, Tgt.put, setAll, outR, lb0, lb1, lb2, lb3, lb4, lb5, lb6, lb7, lb8, lb9, lb10, lb11, lb12, allF, listF, tupleF, intF, eq_self_iff_true, if_true, if_false, decide_true, decide_false, Bool.true_and, Bool.false_and, Bool.and_true, Bool.and_false, Bool.not_true, Bool.not_false, Nat.sub_self, Nat.reduceAdd, Nat.reduceSub, Nat.reduceEqDiff, tn3, slD, if_pos wb, p3, ad1, ad2]; first | done | rfl))
  refine sq_step (Δ1 := fr s0 x2 (some (.str w)) (some (.int n)) (some (.str bent)) (some (.bl plain)) y10 y11 y12 y13 y14 y15 y16) (st1 := ⟨some b3, scr, own⟩) ?_ ?_
  · have sg := signs bent 19 (fr s0 x2 (some (.str w)) (some (.int n)) (some (.str bent)) y9 y10 y11 y12 y13 y14 y15 y16) ⟨some b3, scr, own⟩ bb (by show 19 < 20; decide)
    unfold fr at sg ⊢
    cases h : !(bent == (Str.ofString ""))
    · rw [h] at ne ep
      simp only [gd, runD, callP, kwF, pick, rtP, sqP, asP, parP, nxP, ifP, andV, orV, notV, andT, orT, notT, truP, tstP, truD, isiP, isisP, isTys, isNP, notNP, isNon, varP, chP, cstP, bltP, binP, consP, nilP, lstP, tupP, lcP, itP, rng1P, rng2P, slP, noP, soP, intOf, negP, sosP, bd_ok, List.map, List.replicate, List.length_cons, List.length_nil, List.cons_append, List.nil_append, List.append_nil, List.getElem?_cons_zero, List.getElem?_cons_succ, List.filterMap, List.set, omap_some, obind_some, isTy, blOf, if_t, if_f, lenF, leD_i, leD_s, ltD_i, ltD_s, gtD_i, geD_i, addD_i, subD_i, mulD_i, itemsD, wipeD, Tgt.put, setAll, outR, lb0, lb1, lb2, lb3, lb4, lb5, lb6, lb7, lb8, lb9, lb10, lb11, lb12, allF, listF, tupleF, intF, eq_self_iff_true, if_true, if_false, decide_true, decide_false, Bool.true_and, Bool.false_and, Bool.and_true, Bool.and_false, Bool.not_true, Bool.not_false, Nat.sub_self, Nat.reduceAdd, Nat.reduceSub, Nat.reduceEqDiff, tn4, ne]
      rw [ep] <;> rfl
    · rw [h] at ne ep
      simp only [gd, runD, callP, kwF, pick, rtP, sqP, asP, parP, nxP, ifP, andV, orV, notV, andT, orT, notT, truP, tstP, truD, isiP, isisP, isTys, isNP, notNP, isNon, varP, chP, cstP, bltP, binP, consP, nilP, lstP, tupP, lcP, itP, rng1P, rng2P, slP, noP, soP, intOf, negP, sosP, bd_ok, List.map, List.replicate, List.length_cons, List.length_nil, List.cons_append, List.nil_append, List.append_nil, List.getElem?_cons_zero, List.getElem?_cons_succ, List.filterMap, List.set, omap_some, obind_some, isTy, blOf, if_t, if_f, lenF, leD_i, leD_s, ltD_i, ltD_s, gtD_i, geD_i, addD_i, subD_i, mulD_i, itemsD, wipeD, Tgt.put, setAll, outR, lb0, lb1, lb2, lb3, lb4, lb5, lb6, lb7, lb8, lb9, lb10, lb11, lb12, allF, listF, tupleF, intF, eq_self_iff_true, if_true, if_false, decide_true, decide_false, Bool.true_and, Bool.false_and, Bool.and_true, Bool.and_false, Bool.not_true, Bool.not_false, Nat.sub_self, Nat.reduceAdd, Nat.reduceSub, Nat.reduceEqDiff, tn4, ne, sg, bls_map, all_low]
      rw [ep] <;> rfl
  · unfold fr
    refine sq_step (Δ1 := fr s0 x2 (some (.str w)) (some (.int n)) (some (.str bent)) (some (.bl plain)) y10 y11 y12 y13 y14 y15 y16) (st1 := ⟨some b3, scr, own⟩) ?_ rfl
    unfold fr
    cases plain
    · rw [Bool.false_and] at k4 k6
      simp only [gd, runD, callP, kwF, pick, rtP, sqP, asP, parP, nxP, ifP, andV, orV, notV, andT, orT, notT, truP, tstP, truD, isiP, isisP, isTys, isNP, notNP, isNon, varP, chP, cstP, bltP, binP, consP, nilP, lstP, tupP, lcP, itP, rng1P, rng2P, slP, noP, soP, intOf, negP, sosP, bd_ok, List.map, List.replicate, List.length_cons, List.length_nil, List.cons_append, List.nil_append, List.append_nil, List.getElem?_cons_zero, List.getElem?_cons_succ, List.filterMap, List.set, omap_some, obind_some, isTy, blOf, if_t, if_f, lenF, leD_i, leD_s, ltD_i, ltD_s, gtD_i, geD_i, addD_i, subD_i, mulD_i, itemsD, wipeD, Tgt.put, setAll, outR, lb0, lb1, lb2, lb3, lb4, lb5, lb6, lb7, lb8, lb9, lb10, lb11, lb12, allF, listF, tupleF, intF, eq_self_iff_true, if_true, if_false, decide_true, decide_false, Bool.true_and, Bool.false_and, Bool.and_true, Bool.and_false, Bool.not_true, Bool.not_false, Nat.sub_self, Nat.reduceAdd, Nat.reduceSub, Nat.reduceEqDiff, tn5, n1, n2, k4, k6, same2]
    · rw [Bool.true_and] at k4 k6
      simp only [gd, runD, callP, kwF, pick, rtP, sqP, asP, parP, nxP, ifP, andV, orV, notV, andT, orT, notT, truP, tstP, truD, isiP, isisP, isTys, isNP, notNP, isNon, varP, chP, cstP, bltP, binP, consP, nilP, lstP, tupP, lcP, itP, rng1P, rng2P, slP, noP, soP, intOf, negP, sosP, bd_ok, List.map, List.replicate, List.length_cons, List.length_nil, List.cons_append, List.nil_append, List.append_nil, List.getElem?_cons_zero, List.getElem?_cons_succ, List.filterMap, List.set, omap_some, obind_some, isTy, blOf, if_t, if_f, lenF, leD_i, leD_s, ltD_i, ltD_s, gtD_i, geD_i, addD_i, subD_i, mulD_i, itemsD, wipeD, Tgt.put, setAll, outR, lb0, lb1, lb2, lb3, lb4, lb5, lb6, lb7, lb8, lb9, lb10, lb11, lb12, allF, listF, tupleF, intF, eq_self_iff_true, if_true, if_false, decide_true, decide_false, Bool.true_and, Bool.false_and, Bool.and_true, Bool.and_false, Bool.not_true, Bool.not_false, Nat.sub_self, Nat.reduceAdd, Nat.reduceSub, Nat.reduceEqDiff, tn5, n1, n2, k4, k6, if_pos bb, same2]
end Dn

set_option Elab.async false
set_option linter.all false
set_option maxRecDepth 100000
set_option maxHeartbeats 8000000
namespace Dn
open PySem PySem.Spec PyProof.Rows L2
theorem turnB (s0 : D) (x2 y6 y7 y9 y10 y11 y12 y13 y14 y15 y16 : Option D) (bent : Str) (b : BagSt) (scr : Option (Addr × List Int)) (own : List (Nat × Cell)) (hb : okB b) (hl : bent.length ≤ 8) (hk : PyData.strOk bent = true) (rest : SDen) :
    ∃ (z10 z11 z12 : Option D) (b' : BagSt), okB b' ∧
      sqP tn6 (sqP tn7 (sqP tn8 (sqP tn9 (sqP tn10 rest)))) (fr s0 x2 y6 y7 (some (.str bent)) y9 y10 y11 y12 y13 y14 y15 y16) ⟨some b, scr, own⟩ = rest (fr s0 x2 y6 y7 (some (.str bent)) y9 z10 z11 z12 y13 y14 y15 y16) ⟨some b', scr, own⟩ := by
  obtain ⟨r, b1, p1, r0, r1, hb1⟩ := pull_ok b scr own 5 hb (by decide) (by decide)
  obtain ⟨zs, b2, p2, l2, g2, hb2⟩ := names_ok b1 scr own r hb1 r0 (by omega)
  have zl : zs.length ≤ 4 := by omega
  have so := sort_ok zs (by omega)
  have sl := srtS_len zs
  have a1 := addL (srtS zs) (zs.take 1) (by rw [sl, List.length_take]; unfold big; omega)
  have a2 : addD (.lst ((srtS zs).map .str)) (.lst [.str bent]) = some (.lst ((srtS zs ++ [bent]).map .str)) := addL (srtS zs) [bent] (by rw [sl]; show zs.length + 1 ≤ big; unfold big; omega)
  obtain ⟨d, b3, hd, p3, hb3⟩ := any_lst b2 scr own [.lst (zs.map .str), .lst ((srtS zs).map .str), .lst ((srtS zs ++ zs.take 1).map .str), .lst ((srtS zs ++ [bent]).map .str)] hb2 (by show 0 < 4; decide) (by show 4 ≤ big; decide)
  have good : ∀ z ∈ zs, z.length ≤ 8 ∧ PyData.strOk z = true := fun z hz => ⟨by have := (g2 z hz).2.1; omega, strOk_low z (g2 z hz).2.2⟩
  have goodS : ∀ z ∈ srtS zs, z.length ≤ 8 ∧ PyData.strOk z = true := fun z hz => good z ((srtS_perm zs).mem_iff.mp hz)
  obtain ⟨ws, rfl, gw, lw⟩ : ∃ ws : List Str, d = .lst (ws.map .str) ∧ (∀ w ∈ ws, w.length ≤ 8 ∧ PyData.strOk w = true) ∧ ws.length ≤ 5 := by
    simp only [List.mem_cons, List.not_mem_nil, or_false] at hd
    rcases hd with h | h | h | h
    · exact ⟨_, h, good, by omega⟩
    · exact ⟨_, h, goodS, by omega⟩
    · refine ⟨_, h, fun w hw => ?_, by rw [List.length_append, List.length_take]; omega⟩
      rcases List.mem_append.mp hw with q | q
      · exact goodS w q
      · exact good w (List.mem_of_mem_take q)
    · refine ⟨_, h, fun w hw => ?_, by rw [List.length_append, List.length_singleton]; omega⟩
      rcases List.mem_append.mp hw with q | q
      · exact goodS w q
      · rw [List.mem_singleton.mp q]; exact ⟨hl, hk⟩
  have wb : ∀ w ∈ ws, w.length ≤ big := fun w hw => by have := (gw w hw).1; unfold big; omega
  have lb : ws.length ≤ big := by unfold big; omega
  have sos := sos_ok ws (by omega)
  have eq := eqD_strs ws (srtS (metS ws)) (fun w hw => (gw w hw).2) (fun w hw => (gw w (metS_mem.mp ((srtS_perm _).mem_iff.mp hw))).2)
  have grp := fun st => is_group_tup ws st wb lb
  have grl := fun ds st => is_group_lst ds st
  have al : (ws.map (okN 4)).all id = ws.all (okN 4) := by rw [List.all_map] <;> rfl
  refine ⟨some (.lst (zs.map .str)), some (.tup (ws.map .str)), some (.bl (ws.all (okN 4) && incS ws)), b3, hb3, ?_⟩
  unfold fr
  (apply sq_step; focus (simp only [gd, runD, callP, kwF, pick, rtP, sqP, asP, parP, nxP, ifP, andV, orV, notV, andT, orT, notT, truP, tstP, truD, isiP, isisP, isTys, isNP, notNP, isNon, varP, chP, cstP, bltP, binP, consP, nilP, lstP, tupP, lcP, itP, rng1P, rng2P, slP, noP, soP, intOf, negP, sosP, bd_ok, List.map, List.replicate, List.length_cons, List.length_nil, List.cons_append, List.nil_append, List.append_nil, List.getElem?_cons_zero, List.getElem?_cons_succ, List.filterMap, List.set, omap_some, obind_some, isTy, blOf, if_t, if_f, lenF, leD_i, leD_s, ltD_i, ltD_s, gtD_i, geD_i, addD_i, subD_i, mulD_i, itemsD, wipeD, Tgt.put, setAll, outR, lb0, lb1, lb2, lb3, lb4, lb5, lb6, lb7, lb8, lb9, lb10, lb11, lb12, allF, listF, tupleF, intF, eq_self_iff_true, if_true, if_false, decide_true, decide_false, Bool.true_and, Bool.false_and, Bool.and_true, Bool.and_false, Bool.not_true, Bool.not_false, Nat.sub_self, Nat.reduceAdd, Nat.reduceSub, Nat.reduceEqDiff, tn6, p1, p2]; first | done | rfl))
  (apply sq_step; focus (simp only [gd, runD, callP, kwF, pick, rtP, sqP, asP, parP, nxP, ifP, andV, orV, notV, andT, orT, notT, truP, tstP, truD, isiP, isisP, isTys, isNP, notNP, isNon, varP, chP, cstP, bltP, binP, consP, nilP, lstP, tupP, lcP, itP, rng1P, rng2P, slP, noP, soP, intOf, negP, sosP, bd_ok, List.map, List.replicate, List.length_cons, List.length_nil, List.cons_append, List.nil_append, List.append_nil, List.getElem?_cons_zero, List.getElem?_cons_succ, List.filterMap, List.set, omap_some, obind_some, isTy, blOf, if_t, if_f, lenF, leD_i, leD_s, ltD_i, ltD_s, gtD_i, geD_i, addD_i, subD_i, mulD_i, itemsD, wipeD, Tgt.put, setAll, outR, lb0, lb1, lb2, lb3, lb4, lb5, lb6, lb7, lb8, lb9, lb10, lb11, lb12, allF, listF, tupleF, intF, eq_self_iff_true, if_true, if_false, decide_true, decide_false, Bool.true_and, Bool.false_and, Bool.and_true, Bool.and_false, Bool.not_true, Bool.not_false, Nat.sub_self, Nat.reduceAdd, Nat.reduceSub, Nat.reduceEqDiff, tn7, so, cut1, a1, a2, p3]; first | done | rfl))
  have l18 := lc18 ws (fr s0 x2 y6 y7 (some (.str bent)) y9 (some (.lst (zs.map .str))) (some (.tup (ws.map .str))) y12 y13 y14 y15 y16) ⟨some b3, scr, own⟩ wb lb rfl rfl
  unfold fr at l18
  (apply sq_step; focus (simp only [gd, runD, callP, kwF, pick, rtP, sqP, asP, parP, nxP, ifP, andV, orV, notV, andT, orT, notT, truP, tstP, truD, isiP, isisP, isTys, isNP, notNP, isNon, varP, chP, cstP, bltP, binP, consP, nilP, lstP, tupP, lcP, itP, rng1P, rng2P, slP, noP, soP, intOf, negP, sosP, bd_ok, List.map, List.replicate, List.length_cons, List.length_nil, List.cons_append, List.nil_append, List.append_nil, List.getElem?_cons_zero, List.getElem?_cons_succ, List.filterMap, List.set, omap_some, obind_some, isTy, blOf, if_t, if_f, lenF, leD_i, leD_s, ltD_i, ltD_s, gtD_i, geD_i, addD_i, subD_i, mulD_i, itemsD, wipeD, Tgt.put, setAll, outR, lb0, lb1, lb2, lb3, lb4, lb5, lb6, lb7, lb8, lb9, lb10, lb11, lb12, allF, listF, tupleF, intF, eq_self_iff_true, if_true, if_false, decide_true, decide_false, Bool.true_and, Bool.false_and, Bool.and_true, Bool.and_false, Bool.not_true, Bool.not_false, Nat.sub_self, Nat.reduceAdd, Nat.reduceSub, Nat.reduceEqDiff, tn8, l18, bls_map, al]; first | done | rfl))
  refine sq_step (Δ1 := fr s0 x2 y6 y7 (some (.str bent)) y9 (some (.lst (zs.map .str))) (some (.tup (ws.map .str))) (some (.bl (ws.all (okN 4) && incS ws))) y13 y14 y15 y16) (st1 := ⟨some b3, scr, own⟩) ?_ ?_
  · unfold fr
    cases c : ws.all (okN 4)
    · simp only [gd, runD, callP, kwF, pick, rtP, sqP, asP, parP, nxP, ifP, andV, orV, notV, andT, orT, notT, truP, tstP, truD, isiP, isisP, isTys, isNP, notNP, isNon, varP, chP, cstP, bltP, binP, consP, nilP, lstP, tupP, lcP, itP, rng1P, rng2P, slP, noP, soP, intOf, negP, sosP, bd_ok, List.map, List.replicate, List.length_cons, List.length_nil, List.cons_append, List.nil_append, List.append_nil, List.getElem?_cons_zero, List.getElem?_cons_succ, List.filterMap, List.set, omap_some, obind_some, isTy, blOf, if_t, if_f, lenF, leD_i, leD_s, ltD_i, ltD_s, gtD_i, geD_i, addD_i, subD_i, mulD_i, itemsD, wipeD, Tgt.put, setAll, outR, lb0, lb1, lb2, lb3, lb4, lb5, lb6, lb7, lb8, lb9, lb10, lb11, lb12, allF, listF, tupleF, intF, eq_self_iff_true, if_true, if_false, decide_true, decide_false, Bool.true_and, Bool.false_and, Bool.and_true, Bool.and_false, Bool.not_true, Bool.not_false, Nat.sub_self, Nat.reduceAdd, Nat.reduceSub, Nat.reduceEqDiff, tn9]
    · simp only [gd, runD, callP, kwF, pick, rtP, sqP, asP, parP, nxP, ifP, andV, orV, notV, andT, orT, notT, truP, tstP, truD, isiP, isisP, isTys, isNP, notNP, isNon, varP, chP, cstP, bltP, binP, consP, nilP, lstP, tupP, lcP, itP, rng1P, rng2P, slP, noP, soP, intOf, negP, sosP, bd_ok, List.map, List.replicate, List.length_cons, List.length_nil, List.cons_append, List.nil_append, List.append_nil, List.getElem?_cons_zero, List.getElem?_cons_succ, List.filterMap, List.set, omap_some, obind_some, isTy, blOf, if_t, if_f, lenF, leD_i, leD_s, ltD_i, ltD_s, gtD_i, geD_i, addD_i, subD_i, mulD_i, itemsD, wipeD, Tgt.put, setAll, outR, lb0, lb1, lb2, lb3, lb4, lb5, lb6, lb7, lb8, lb9, lb10, lb11, lb12, allF, listF, tupleF, intF, eq_self_iff_true, if_true, if_false, decide_true, decide_false, Bool.true_and, Bool.false_and, Bool.and_true, Bool.and_false, Bool.not_true, Bool.not_false, Nat.sub_self, Nat.reduceAdd, Nat.reduceSub, Nat.reduceEqDiff, tn9, sos, eq, ← incS_iff]
  · refine sq_step (Δ1 := fr s0 x2 y6 y7 (some (.str bent)) y9 (some (.lst (zs.map .str))) (some (.tup (ws.map .str))) (some (.bl (ws.all (okN 4) && incS ws))) y13 y14 y15 y16) (st1 := ⟨some b3, scr, own⟩) ?_ rfl
    unfold fr
    simp only [gd, runD, callP, kwF, pick, rtP, sqP, asP, parP, nxP, ifP, andV, orV, notV, andT, orT, notT, truP, tstP, truD, isiP, isisP, isTys, isNP, notNP, isNon, varP, chP, cstP, bltP, binP, consP, nilP, lstP, tupP, lcP, itP, rng1P, rng2P, slP, noP, soP, intOf, negP, sosP, bd_ok, List.map, List.replicate, List.length_cons, List.length_nil, List.cons_append, List.nil_append, List.append_nil, List.getElem?_cons_zero, List.getElem?_cons_succ, List.filterMap, List.set, omap_some, obind_some, isTy, blOf, if_t, if_f, lenF, leD_i, leD_s, ltD_i, ltD_s, gtD_i, geD_i, addD_i, subD_i, mulD_i, itemsD, wipeD, Tgt.put, setAll, outR, lb0, lb1, lb2, lb3, lb4, lb5, lb6, lb7, lb8, lb9, lb10, lb11, lb12, allF, listF, tupleF, intF, eq_self_iff_true, if_true, if_false, decide_true, decide_false, Bool.true_and, Bool.false_and, Bool.and_true, Bool.and_false, Bool.not_true, Bool.not_false, Nat.sub_self, Nat.reduceAdd, Nat.reduceSub, Nat.reduceEqDiff, tn10, grp, grl, same2]
theorem pw5 : intD powI (.int 10) (.int 5) = some (.int 100000) := by
  show (powI 10 5).map D.int = _
  have : powI 10 5 = some 100000 := by decide +kernel
  rw [this] <;> rfl
theorem pw6 : intD powI (.int 10) (.int 6) = some (.int 1000000) := by
  show (powI 10 6).map D.int = _
  have : powI 10 6 = some 1000000 := by decide +kernel
  rw [this] <;> rfl
theorem turnC (s0 : D) (x2 y6 y7 y8 y9 y10 y11 y12 y13 y14 y15 y16 : Option D) (b : BagSt) (scr : Option (Addr × List Int)) (own : List (Nat × Cell)) (hb : okB b) :
    ∃ (z13 z14 z15 z16 : Option D) (b' : BagSt), okB b' ∧
      sqP tn11 (sqP tn12 (sqP tn13 tn14)) (fr s0 x2 y6 y7 y8 y9 y10 y11 y12 y13 y14 y15 y16) ⟨some b, scr, own⟩ = some (.ok (.nx (fr s0 x2 y6 y7 y8 y9 y10 y11 y12 z13 z14 z15 z16)), ⟨some b', scr, own⟩) := by
  obtain ⟨r, b1, p1, r0, r1, hb1⟩ := pull_ok b scr own 9 hb (by decide) (by decide)
  obtain ⟨d, b2, hd, p2, hb2⟩ := any_lst b1 scr own [.int 0, .int 3, .int 100000] hb1 (by decide) (by decide)
  obtain ⟨wide, rfl⟩ : ∃ w : Int, d = .int w := by
    simp only [List.mem_cons, List.not_mem_nil, or_false] at hd
    rcases hd with h | h | h <;> exact ⟨_, h⟩
  obtain ⟨t, b3, p3, t0, t1, hb3⟩ := pull_ok b2 scr own 1000000 hb2 (by decide) (by decide)
  obtain ⟨d, b4, hd, p4, hb4⟩ := any_lst b3 scr own [.int (r - 4 - 1), .int (r - 4), .int (r - 4 + wide), .int (r - 4 + wide + 1), .int t] hb3 (by show 0 < 5; decide) (by show 5 ≤ big; decide)
  obtain ⟨v, rfl⟩ : ∃ w : Int, d = .int w := by
    simp only [List.mem_cons, List.not_mem_nil, or_false] at hd
    rcases hd with h | h | h | h | h <;> exact ⟨_, h⟩
  have num := fun v a b st => is_number_int v a b st
  refine ⟨some (.int (r - 4)), some (.int wide), some (.int v), some (.bl (decide (r - 4 ≤ v) && decide (v ≤ r - 4 + wide))), b4, hb4, ?_⟩
  unfold fr
  (apply sq_step; focus (simp only [gd, runD, callP, kwF, pick, rtP, sqP, asP, parP, nxP, ifP, andV, orV, notV, andT, orT, notT, truP, tstP, truD, isiP, isisP, isTys, isNP, notNP, isNon, varP, chP, cstP, bltP, binP, consP, nilP, lstP, tupP, lcP, itP, rng1P, rng2P, slP, noP, soP, intOf, negP, sosP, bd_ok, List.map, List.replicate, List.length_cons, List.length_nil, List.cons_append, List.nil_append, List.append_nil, List.getElem?_cons_zero, List.getElem?_cons_succ, List.filterMap, List.set, omap_some, obind_some, isTy, blOf, if_t, if_f, lenF, leD_i, leD_s, ltD_i, ltD_s, gtD_i, geD_i, addD_i, subD_i, mulD_i, itemsD, wipeD, Tgt.put, setAll, outR, lb0, lb1, lb2, lb3, lb4, lb5, lb6, lb7, lb8, lb9, lb10, lb11, lb12, allF, listF, tupleF, intF, eq_self_iff_true, if_true, if_false, decide_true, decide_false, Bool.true_and, Bool.false_and, Bool.and_true, Bool.and_false, Bool.not_true, Bool.not_false, Nat.sub_self, Nat.reduceAdd, Nat.reduceSub, Nat.reduceEqDiff, tn11, p1, pw5, p2]; first | done | rfl))
  (apply sq_step; focus (simp only [gd, runD, callP, kwF, pick, rtP, sqP, asP, parP, nxP, ifP, andV, orV, notV, andT, orT, notT, truP, tstP, truD, isiP, isisP, isTys, isNP, notNP, isNon, varP, chP, cstP, bltP, binP, consP, nilP, lstP, tupP, lcP, itP, rng1P, rng2P, slP, noP, soP, intOf, negP, sosP, bd_ok, List.map, List.replicate, List.length_cons, List.length_nil, List.cons_append, List.nil_append, List.append_nil, List.getElem?_cons_zero, List.getElem?_cons_succ, List.filterMap, List.set, omap_some, obind_some, isTy, blOf, if_t, if_f, lenF, leD_i, leD_s, ltD_i, ltD_s, gtD_i, geD_i, addD_i, subD_i, mulD_i, itemsD, wipeD, Tgt.put, setAll, outR, lb0, lb1, lb2, lb3, lb4, lb5, lb6, lb7, lb8, lb9, lb10, lb11, lb12, allF, listF, tupleF, intF, eq_self_iff_true, if_true, if_false, decide_true, decide_false, Bool.true_and, Bool.false_and, Bool.and_true, Bool.and_false, Bool.not_true, Bool.not_false, Nat.sub_self, Nat.reduceAdd, Nat.reduceSub, Nat.reduceEqDiff, tn12, pw6, p3, p4]; first | done | rfl))
  refine sq_step (Δ1 := fr s0 x2 y6 y7 y8 y9 y10 y11 y12 (some (.int (r - 4))) (some (.int wide)) (some (.int v)) (some (.bl (decide (r - 4 ≤ v) && decide (v ≤ r - 4 + wide))))) (st1 := ⟨some b4, scr, own⟩) ?_ ?_
  · unfold fr
    cases c : decide (r - 4 ≤ v) <;> simp only [gd, runD, callP, kwF, pick, rtP, sqP, asP, parP, nxP, ifP, andV, orV, notV, andT, orT, notT, truP, tstP, truD, isiP, isisP, isTys, isNP, notNP, isNon, varP, chP, cstP, bltP, binP, consP, nilP, lstP, tupP, lcP, itP, rng1P, rng2P, slP, noP, soP, intOf, negP, sosP, bd_ok, List.map, List.replicate, List.length_cons, List.length_nil, List.cons_append, List.nil_append, List.append_nil, List.getElem?_cons_zero, List.getElem?_cons_succ, List.filterMap, List.set, omap_some, obind_some, isTy, blOf, if_t, if_f, lenF, leD_i, leD_s, ltD_i, ltD_s, gtD_i, geD_i, addD_i, subD_i, mulD_i, itemsD, wipeD, Tgt.put, setAll, outR, lb0, lb1, lb2, lb3, lb4, lb5, lb6, lb7, lb8, lb9, lb10, lb11, lb12, allF, listF, tupleF, intF, eq_self_iff_true, if_true, if_false, decide_true, decide_false, Bool.true_and, Bool.false_and, Bool.and_true, Bool.and_false, Bool.not_true, Bool.not_false, Nat.sub_self, Nat.reduceAdd, Nat.reduceSub, Nat.reduceEqDiff, tn13, c]
  · unfold fr
    simp only [gd, runD, callP, kwF, pick, rtP, sqP, asP, parP, nxP, ifP, andV, orV, notV, andT, orT, notT, truP, tstP, truD, isiP, isisP, isTys, isNP, notNP, isNon, varP, chP, cstP, bltP, binP, consP, nilP, lstP, tupP, lcP, itP, rng1P, rng2P, slP, noP, soP, intOf, negP, sosP, bd_ok, List.map, List.replicate, List.length_cons, List.length_nil, List.cons_append, List.nil_append, List.append_nil, List.getElem?_cons_zero, List.getElem?_cons_succ, List.filterMap, List.set, omap_some, obind_some, isTy, blOf, if_t, if_f, lenF, leD_i, leD_s, ltD_i, ltD_s, gtD_i, geD_i, addD_i, subD_i, mulD_i, itemsD, wipeD, Tgt.put, setAll, outR, lb0, lb1, lb2, lb3, lb4, lb5, lb6, lb7, lb8, lb9, lb10, lb11, lb12, allF, listF, tupleF, intF, eq_self_iff_true, if_true, if_false, decide_true, decide_false, Bool.true_and, Bool.false_and, Bool.and_true, Bool.and_false, Bool.not_true, Bool.not_false, Nat.sub_self, Nat.reduceAdd, Nat.reduceSub, Nat.reduceEqDiff, tn14, num, same2]
theorem turn_ok (s0 : D) (x2 y6 y7 y8 y9 y10 y11 y12 y13 y14 y15 y16 : Option D) (b : BagSt) (scr : Option (Addr × List Int)) (own : List (Nat × Cell)) (hb : okB b) :
    ∃ (z6 z7 z8 z9 z10 z11 z12 z13 z14 z15 z16 : Option D) (b' : BagSt), okB b' ∧
      turn (fr s0 x2 y6 y7 y8 y9 y10 y11 y12 y13 y14 y15 y16) ⟨some b, scr, own⟩ = some (.ok (.nx (fr s0 x2 z6 z7 z8 z9 z10 z11 z12 z13 z14 z15 z16)), ⟨some b', scr, own⟩) := by
  obtain ⟨z6, z7, z9, bent, b1, h1, l1, o1, e1⟩ := turnA s0 x2 y6 y7 y8 y9 y10 y11 y12 y13 y14 y15 y16 b scr own hb (sqP tn6 (sqP tn7 (sqP tn8 (sqP tn9 (sqP tn10 (sqP tn11 (sqP tn12 (sqP tn13 tn14))))))))
  obtain ⟨z10, z11, z12, b2, h2, e2⟩ := turnB s0 x2 z6 z7 z9 y10 y11 y12 y13 y14 y15 y16 bent b1 scr own h1 l1 o1 (sqP tn11 (sqP tn12 (sqP tn13 tn14)))
  obtain ⟨z13, z14, z15, z16, b3, h3, e3⟩ := turnC s0 x2 z6 z7 (some (.str bent)) z9 z10 z11 z12 y13 y14 y15 y16 b2 scr own h2
  exact ⟨z6, z7, _, z9, z10, z11, z12, z13, z14, z15, z16, b3, h3, (e1.trans e2).trans e3⟩
theorem for_ok (s0 : D) (scr : Option (Addr × List Int)) (own : List (Nat × Cell)) : ∀ (ds : List D) (x2 y6 y7 y8 y9 y10 y11 y12 y13 y14 y15 y16 : Option D) (b : BagSt), okB b →
    ∃ (z2 z6 z7 z8 z9 z10 z11 z12 z13 z14 z15 z16 : Option D) (b' : BagSt), okB b' ∧
      foGo (.one 2) turn ds (fr s0 x2 y6 y7 y8 y9 y10 y11 y12 y13 y14 y15 y16) ⟨some b, scr, own⟩ = some (.ok (.nx (fr s0 z2 z6 z7 z8 z9 z10 z11 z12 z13 z14 z15 z16)), ⟨some b', scr, own⟩)
  | [], x2, y6, y7, y8, y9, y10, y11, y12, y13, y14, y15, y16, b, hb => ⟨x2, y6, y7, y8, y9, y10, y11, y12, y13, y14, y15, y16, b, hb, rfl⟩
  | d :: ds, x2, y6, y7, y8, y9, y10, y11, y12, y13, y14, y15, y16, b, hb => by
    obtain ⟨z6, z7, z8, z9, z10, z11, z12, z13, z14, z15, z16, b1, h1, e1⟩ := turn_ok s0 (some d) y6 y7 y8 y9 y10 y11 y12 y13 y14 y15 y16 b scr own hb
    obtain ⟨w2, w6, w7, w8, w9, w10, w11, w12, w13, w14, w15, w16, b2, h2, e2⟩ := for_ok s0 scr own ds (some d) z6 z7 z8 z9 z10 z11 z12 z13 z14 z15 z16 b1 h1
    refine ⟨w2, w6, w7, w8, w9, w10, w11, w12, w13, w14, w15, w16, b2, h2, ?_⟩
    unfold foGo
    show (match turn (fr s0 (some d) y6 y7 y8 y9 y10 y11 y12 y13 y14 y15 y16) ⟨some b, scr, own⟩ with
      | some (.ok (.nx Δ2), st2) => foGo (.one 2) turn ds Δ2 st2
      | some (.ok (.ct Δ2), st2) => foGo (.one 2) turn ds Δ2 st2
      | some (.ok (.bk Δ2), st2) => some (.ok (.nx Δ2), st2)
      | r => r) = _
    rw [e1]
    exact e2
end Dn

set_option Elab.async false
set_option linter.all false
set_option maxRecDepth 100000
set_option maxHeartbeats 8000000
namespace Dn
open PySem PySem.Spec PyProof.Rows L2
/-! ### the end of the law: plain answers -/
def oddsD : List D := [.non, .bl true, .bl false, .int 3, .lst [], .lst [.str "a"], .tup [.str "A"], .tup [.str "a", .int 3], .str "1"]
theorem is_word_odd (d : D) (m : Int) (st : Sta) (h : isTy d .str = some false) : F_is_word [d, .int m] st = some (.ok (.bl false), st) := by
  refine run_ret rfl ?_
  unfold d_is_word
  cases d <;> first | (simp only [gd, runD, callP, kwF, pick, rtP, sqP, asP, parP, nxP, ifP, andV, orV, notV, andT, orT, notT, truP, tstP, truD, isiP, isisP, isTys, isNP, notNP, isNon, varP, chP, cstP, bltP, binP, consP, nilP, lstP, tupP, lcP, itP, rng1P, rng2P, slP, noP, soP, intOf, negP, sosP, bd_ok, List.map, List.replicate, List.length_cons, List.length_nil, List.cons_append, List.nil_append, List.append_nil, List.getElem?_cons_zero, List.getElem?_cons_succ, List.filterMap, List.set, omap_some, obind_some, isTy, blOf, if_t, if_f, lenF, leD_i, leD_s, ltD_i, ltD_s, gtD_i, geD_i, addD_i, subD_i, mulD_i, itemsD, wipeD, Tgt.put, setAll, outR, lb0, lb1, lb2, lb3, lb4, lb5, lb6, lb7, lb8, lb9, lb10, lb11, lb12, allF, listF, tupleF, intF, eq_self_iff_true, if_true, if_false, decide_true, decide_false, Bool.true_and, Bool.false_and, Bool.and_true, Bool.and_false, Bool.not_true, Bool.not_false, Nat.sub_self, Nat.reduceAdd, Nat.reduceSub, Nat.reduceEqDiff]; done) | (simp [isTy] at h; done)
theorem is_name_odd (d : D) (st : Sta) (h : isTy d .str = some false) : F_is_name [d] st = some (.ok (.bl false), st) := by
  refine run_ret rfl ?_
  unfold d_is_name
  simp only [gd, runD, callP, kwF, pick, rtP, sqP, asP, parP, nxP, ifP, andV, orV, notV, andT, orT, notT, truP, tstP, truD, isiP, isisP, isTys, isNP, notNP, isNon, varP, chP, cstP, bltP, binP, consP, nilP, lstP, tupP, lcP, itP, rng1P, rng2P, slP, noP, soP, intOf, negP, sosP, bd_ok, List.map, List.replicate, List.length_cons, List.length_nil, List.cons_append, List.nil_append, List.append_nil, List.getElem?_cons_zero, List.getElem?_cons_succ, List.filterMap, List.set, omap_some, obind_some, isTy, blOf, if_t, if_f, lenF, leD_i, leD_s, ltD_i, ltD_s, gtD_i, geD_i, addD_i, subD_i, mulD_i, itemsD, wipeD, Tgt.put, setAll, outR, lb0, lb1, lb2, lb3, lb4, lb5, lb6, lb7, lb8, lb9, lb10, lb11, lb12, allF, listF, tupleF, intF, eq_self_iff_true, if_true, if_false, decide_true, decide_false, Bool.true_and, Bool.false_and, Bool.and_true, Bool.and_false, Bool.not_true, Bool.not_false, Nat.sub_self, Nat.reduceAdd, Nat.reduceSub, Nat.reduceEqDiff, is_word_odd d 4 st h]
theorem is_piece_odd (d : D) (st : Sta) (h : isTy d .str = some false) : F_is_piece [d] st = some (.ok (.bl false), st) := by
  refine run_ret rfl ?_
  unfold d_is_piece
  simp only [gd, runD, callP, kwF, pick, rtP, sqP, asP, parP, nxP, ifP, andV, orV, notV, andT, orT, notT, truP, tstP, truD, isiP, isisP, isTys, isNP, notNP, isNon, varP, chP, cstP, bltP, binP, consP, nilP, lstP, tupP, lcP, itP, rng1P, rng2P, slP, noP, soP, intOf, negP, sosP, bd_ok, List.map, List.replicate, List.length_cons, List.length_nil, List.cons_append, List.nil_append, List.append_nil, List.getElem?_cons_zero, List.getElem?_cons_succ, List.filterMap, List.set, omap_some, obind_some, isTy, blOf, if_t, if_f, lenF, leD_i, leD_s, ltD_i, ltD_s, gtD_i, geD_i, addD_i, subD_i, mulD_i, itemsD, wipeD, Tgt.put, setAll, outR, lb0, lb1, lb2, lb3, lb4, lb5, lb6, lb7, lb8, lb9, lb10, lb11, lb12, allF, listF, tupleF, intF, eq_self_iff_true, if_true, if_false, decide_true, decide_false, Bool.true_and, Bool.false_and, Bool.and_true, Bool.and_false, Bool.not_true, Bool.not_false, Nat.sub_self, Nat.reduceAdd, Nat.reduceSub, Nat.reduceEqDiff, is_word_odd d 6 st h]
theorem is_group_odd (d : D) (st : Sta) (h : isTy d .tup = some false) : F_is_group [d] st = some (.ok (.bl false), st) := by
  refine run_ret rfl ?_
  unfold d_is_group
  refine sq_ret ?_
  cases d <;> first | (simp only [gd, runD, callP, kwF, pick, rtP, sqP, asP, parP, nxP, ifP, andV, orV, notV, andT, orT, notT, truP, tstP, truD, isiP, isisP, isTys, isNP, notNP, isNon, varP, chP, cstP, bltP, binP, consP, nilP, lstP, tupP, lcP, itP, rng1P, rng2P, slP, noP, soP, intOf, negP, sosP, bd_ok, List.map, List.replicate, List.length_cons, List.length_nil, List.cons_append, List.nil_append, List.append_nil, List.getElem?_cons_zero, List.getElem?_cons_succ, List.filterMap, List.set, omap_some, obind_some, isTy, blOf, if_t, if_f, lenF, leD_i, leD_s, ltD_i, ltD_s, gtD_i, geD_i, addD_i, subD_i, mulD_i, itemsD, wipeD, Tgt.put, setAll, outR, lb0, lb1, lb2, lb3, lb4, lb5, lb6, lb7, lb8, lb9, lb10, lb11, lb12, allF, listF, tupleF, intF, eq_self_iff_true, if_true, if_false, decide_true, decide_false, Bool.true_and, Bool.false_and, Bool.and_true, Bool.and_false, Bool.not_true, Bool.not_false, Nat.sub_self, Nat.reduceAdd, Nat.reduceSub, Nat.reduceEqDiff]; done) | (simp [isTy] at h; done)
theorem is_number_odd (d : D) (a b : Int) (st : Sta) (h : isTy d .int = some false) : F_is_number [d, .int a, .int b] st = some (.ok (.bl false), st) := by
  refine run_ret rfl ?_
  unfold d_is_number
  cases d <;> first | (simp only [gd, runD, callP, kwF, pick, rtP, sqP, asP, parP, nxP, ifP, andV, orV, notV, andT, orT, notT, truP, tstP, truD, isiP, isisP, isTys, isNP, notNP, isNon, varP, chP, cstP, bltP, binP, consP, nilP, lstP, tupP, lcP, itP, rng1P, rng2P, slP, noP, soP, intOf, negP, sosP, bd_ok, List.map, List.replicate, List.length_cons, List.length_nil, List.cons_append, List.nil_append, List.append_nil, List.getElem?_cons_zero, List.getElem?_cons_succ, List.filterMap, List.set, omap_some, obind_some, isTy, blOf, if_t, if_f, lenF, leD_i, leD_s, ltD_i, ltD_s, gtD_i, geD_i, addD_i, subD_i, mulD_i, itemsD, wipeD, Tgt.put, setAll, outR, lb0, lb1, lb2, lb3, lb4, lb5, lb6, lb7, lb8, lb9, lb10, lb11, lb12, allF, listF, tupleF, intF, eq_self_iff_true, if_true, if_false, decide_true, decide_false, Bool.true_and, Bool.false_and, Bool.and_true, Bool.and_false, Bool.not_true, Bool.not_false, Nat.sub_self, Nat.reduceAdd, Nat.reduceSub, Nat.reduceEqDiff]; done) | (simp [isTy] at h; done)
theorem is_number_bool (x : Bool) (a b : Int) (st : Sta) : F_is_number [.bl x, .int a, .int b] st = some (.ok (.bl false), st) := by
  refine run_ret rfl ?_
  unfold d_is_number
  simp only [gd, runD, callP, kwF, pick, rtP, sqP, asP, parP, nxP, ifP, andV, orV, notV, andT, orT, notT, truP, tstP, truD, isiP, isisP, isTys, isNP, notNP, isNon, varP, chP, cstP, bltP, binP, consP, nilP, lstP, tupP, lcP, itP, rng1P, rng2P, slP, noP, soP, intOf, negP, sosP, bd_ok, List.map, List.replicate, List.length_cons, List.length_nil, List.cons_append, List.nil_append, List.append_nil, List.getElem?_cons_zero, List.getElem?_cons_succ, List.filterMap, List.set, omap_some, obind_some, isTy, blOf, if_t, if_f, lenF, leD_i, leD_s, ltD_i, ltD_s, gtD_i, geD_i, addD_i, subD_i, mulD_i, itemsD, wipeD, Tgt.put, setAll, outR, lb0, lb1, lb2, lb3, lb4, lb5, lb6, lb7, lb8, lb9, lb10, lb11, lb12, allF, listF, tupleF, intF, eq_self_iff_true, if_true, if_false, decide_true, decide_false, Bool.true_and, Bool.false_and, Bool.and_true, Bool.and_false, Bool.not_true, Bool.not_false, Nat.sub_self, Nat.reduceAdd, Nat.reduceSub, Nat.reduceEqDiff]
theorem one_1 : okN 4 "1" = false := by decide +kernel
theorem one_2 : okN 6 "1" = false := by decide +kernel
theorem names_odd : ∀ d ∈ oddsD, ∀ st, F_is_name [d] st = some (.ok (.bl false), st) := by
  intro d hd st
  unfold oddsD at hd
  simp only [List.mem_cons, List.not_mem_nil, or_false] at hd
  rcases hd with h | h | h | h | h | h | h | h | h <;> subst h <;> first | exact is_name_odd _ st rfl | (rw [is_name_str _ st (by decide +kernel), one_1])
theorem pieces_odd : ∀ d ∈ oddsD, ∀ st, F_is_piece [d] st = some (.ok (.bl false), st) := by
  intro d hd st
  unfold oddsD at hd
  simp only [List.mem_cons, List.not_mem_nil, or_false] at hd
  rcases hd with h | h | h | h | h | h | h | h | h <;> subst h <;> first | exact is_piece_odd _ st rfl | (rw [is_piece_str _ st (by decide +kernel), one_2])
theorem grp_A (st : Sta) : F_is_group [.tup [.str "A"]] st = some (.ok (.bl false), st) := by
  have h := is_group_tup ["A"] st (by decide +kernel) (by decide +kernel)
  rw [show (([("A" : Str)].all (okN 4)) && incS ["A"]) = false from by decide +kernel] at h
  exact h
theorem grp_a (st : Sta) : F_is_group [.tup [.str "a"]] st = some (.ok (.bl true), st) := by
  have h := is_group_tup ["a"] st (by decide +kernel) (by decide +kernel)
  rw [show (([("a" : Str)].all (okN 4)) && incS ["a"]) = true from by decide +kernel] at h
  exact h
theorem grp_0 (st : Sta) : F_is_group [.tup []] st = some (.ok (.bl true), st) := is_group_tup [] st (by decide +kernel) (by decide +kernel)
theorem name_a (st : Sta) : F_is_name [.str "a"] st = some (.ok (.bl true), st) := by
  rw [is_name_str _ st (by decide +kernel), show okN 4 "a" = true by decide +kernel]
theorem grp_a3 (st : Sta) : F_is_group [.tup [.str "a", .int 3]] st = some (.ok (.bl false), st) := by
  have lc := lc_pure (t := .one 2) (te := callP F_is_name (consP (varP 2) nilP)) (Δ := [some (.tup [.str "a", .int 3]), none, none]) (st := st) (fun d => match d with | .str z => .bl true | d => .bl false) [.str "a", .int 3] [] (fun d hd => by
    simp only [List.mem_cons, List.not_mem_nil, or_false] at hd
    rcases hd with h | h <;> subst h
    · exact ⟨_, rfl, by simp only [gd, runD, callP, kwF, pick, rtP, sqP, asP, parP, nxP, ifP, andV, orV, notV, andT, orT, notT, truP, tstP, truD, isiP, isisP, isTys, isNP, notNP, isNon, varP, chP, cstP, bltP, binP, consP, nilP, lstP, tupP, lcP, itP, rng1P, rng2P, slP, noP, soP, intOf, negP, sosP, bd_ok, List.map, List.replicate, List.length_cons, List.length_nil, List.cons_append, List.nil_append, List.append_nil, List.getElem?_cons_zero, List.getElem?_cons_succ, List.filterMap, List.set, omap_some, obind_some, isTy, blOf, if_t, if_f, lenF, leD_i, leD_s, ltD_i, ltD_s, gtD_i, geD_i, addD_i, subD_i, mulD_i, itemsD, wipeD, Tgt.put, setAll, outR, lb0, lb1, lb2, lb3, lb4, lb5, lb6, lb7, lb8, lb9, lb10, lb11, lb12, allF, listF, tupleF, intF, eq_self_iff_true, if_true, if_false, decide_true, decide_false, Bool.true_and, Bool.false_and, Bool.and_true, Bool.and_false, Bool.not_true, Bool.not_false, Nat.sub_self, Nat.reduceAdd, Nat.reduceSub, Nat.reduceEqDiff, name_a]⟩
    · exact ⟨_, rfl, by simp only [gd, runD, callP, kwF, pick, rtP, sqP, asP, parP, nxP, ifP, andV, orV, notV, andT, orT, notT, truP, tstP, truD, isiP, isisP, isTys, isNP, notNP, isNon, varP, chP, cstP, bltP, binP, consP, nilP, lstP, tupP, lcP, itP, rng1P, rng2P, slP, noP, soP, intOf, negP, sosP, bd_ok, List.map, List.replicate, List.length_cons, List.length_nil, List.cons_append, List.nil_append, List.append_nil, List.getElem?_cons_zero, List.getElem?_cons_succ, List.filterMap, List.set, omap_some, obind_some, isTy, blOf, if_t, if_f, lenF, leD_i, leD_s, ltD_i, ltD_s, gtD_i, geD_i, addD_i, subD_i, mulD_i, itemsD, wipeD, Tgt.put, setAll, outR, lb0, lb1, lb2, lb3, lb4, lb5, lb6, lb7, lb8, lb9, lb10, lb11, lb12, allF, listF, tupleF, intF, eq_self_iff_true, if_true, if_false, decide_true, decide_false, Bool.true_and, Bool.false_and, Bool.and_true, Bool.and_false, Bool.not_true, Bool.not_false, Nat.sub_self, Nat.reduceAdd, Nat.reduceSub, Nat.reduceEqDiff, is_name_odd (.int 3) st rfl]⟩) (by decide)
  rw [List.nil_append] at lc
  refine run_ret rfl ?_
  unfold d_is_group
  refine sq_ret ?_
  have b : bls [.bl true, .bl false] = some [true, false] := rfl
  simp only [gd, runD, callP, kwF, pick, rtP, sqP, asP, parP, nxP, ifP, andV, orV, notV, andT, orT, notT, truP, tstP, truD, isiP, isisP, isTys, isNP, notNP, isNon, varP, chP, cstP, bltP, binP, consP, nilP, lstP, tupP, lcP, itP, rng1P, rng2P, slP, noP, soP, intOf, negP, sosP, bd_ok, List.map, List.replicate, List.length_cons, List.length_nil, List.cons_append, List.nil_append, List.append_nil, List.getElem?_cons_zero, List.getElem?_cons_succ, List.filterMap, List.set, omap_some, obind_some, isTy, blOf, if_t, if_f, lenF, leD_i, leD_s, ltD_i, ltD_s, gtD_i, geD_i, addD_i, subD_i, mulD_i, itemsD, wipeD, Tgt.put, setAll, outR, lb0, lb1, lb2, lb3, lb4, lb5, lb6, lb7, lb8, lb9, lb10, lb11, lb12, allF, listF, tupleF, intF, eq_self_iff_true, if_true, if_false, decide_true, decide_false, Bool.true_and, Bool.false_and, Bool.and_true, Bool.and_false, Bool.not_true, Bool.not_false, Nat.sub_self, Nat.reduceAdd, Nat.reduceSub, Nat.reduceEqDiff, lc, b, List.all_cons, id]
theorem groups_odd : ∀ d ∈ oddsD, ∀ st, F_is_group [d] st = some (.ok (.bl false), st) := by
  intro d hd st
  unfold oddsD at hd
  simp only [List.mem_cons, List.not_mem_nil, or_false] at hd
  rcases hd with h | h | h | h | h | h | h | h | h <;> subst h <;> first | exact is_group_odd _ st rfl | exact grp_A st | exact grp_a3 st
theorem nums_odd : ∀ d ∈ [D.non, .bl true, .bl false, .str "1", .lst [.int 1], .tup [.int 1]], ∀ st, F_is_number [d, .int (-5), .int 9] st = some (.ok (.bl false), st) := by
  intro d hd st
  simp only [List.mem_cons, List.not_mem_nil, or_false] at hd
  rcases hd with h | h | h | h | h | h <;> subst h <;> first | exact is_number_odd _ _ _ st rfl | exact is_number_bool _ _ _ st
end Dn

set_option Elab.async false
set_option linter.all false
set_option maxRecDepth 100000
set_option maxHeartbeats 8000000
namespace Dn
open PySem PySem.Spec PyProof.Rows L2
theorem lc17 (te : EDen) (Δ : Dl) (st : Sta) (ds : List D) (hi : Δ.length = 20) (h : ∀ d ∈ ds, te (Δ.set 17 (some d)) st = some (.ok (.bl false), st)) (hl : ds.length ≤ big) :
    lcGo (.one 17) yesT te Δ ds st [] = some (.ok (.lst (ds.map fun _ => .bl false)), st) :=
  lc_pure (t := .one 17) (te := te) (Δ := Δ) (st := st) (fun _ => .bl false) ds [] (fun d hd => ⟨_, rfl, h d hd⟩) (by rw [List.length_nil]; omega)
theorem addLL (xs ys zs : List D) (h : xs.length + ys.length ≤ big) (e : xs ++ ys = zs) : addD (.lst xs) (.lst ys) = some (.lst zs) := by
  show (if xs.length + ys.length ≤ big then some (D.lst (xs ++ ys)) else none) = _
  rw [if_pos h, e]
theorem law_true (a : Addr) (ns : List Int) (h : ns.length ≤ 63) : ∃ b, F_law [.opq (.ref a)] ⟨none, some (a, ns), []⟩ = some (.ok (.bl true), ⟨some b, some (a, ns), []⟩) := by
  have hb0 : okB ⟨ns, 0, 0, 10038 + ns.length, 0⟩ := ⟨by show (0 : Int) ≤ 10038 + ns.length; omega, by show (10038 + ns.length : Int) < _; omega⟩
  obtain ⟨z2, z6, z7, z8, z9, z10, z11, z12, z13, z14, z15, z16, b, hb, ef⟩ := for_ok (.opq (.ref a)) (some (a, ns)) [] (rngD 0 6) none none none none none none none none none none none none _ hb0
  refine ⟨b, run_ret rfl ?_⟩
  rw [law_parts]
  have bag : F_l_bag [.opq (.ref a)] ⟨none, some (a, ns), []⟩ = some (.ok (.hnd 0), ⟨some ⟨ns, 0, 0, 10038 + ns.length, 0⟩, some (a, ns), []⟩) := if_pos ⟨rfl, h⟩
  unfold fr at ef
  (apply sq_step; focus (simp only [gd, runD, callP, kwF, pick, rtP, sqP, asP, parP, nxP, ifP, andV, orV, notV, andT, orT, notT, truP, tstP, truD, isiP, isisP, isTys, isNP, notNP, isNon, varP, chP, cstP, bltP, binP, consP, nilP, lstP, tupP, lcP, itP, rng1P, rng2P, slP, noP, soP, intOf, negP, sosP, bd_ok, List.map, List.replicate, List.length_cons, List.length_nil, List.cons_append, List.nil_append, List.append_nil, List.getElem?_cons_zero, List.getElem?_cons_succ, List.filterMap, List.set, omap_some, obind_some, isTy, blOf, if_t, if_f, lenF, leD_i, leD_s, ltD_i, ltD_s, gtD_i, geD_i, addD_i, subD_i, mulD_i, itemsD, wipeD, Tgt.put, setAll, outR, lb0, lb1, lb2, lb3, lb4, lb5, lb6, lb7, lb8, lb9, lb10, lb11, lb12, allF, listF, tupleF, intF, eq_self_iff_true, if_true, if_false, decide_true, decide_false, Bool.true_and, Bool.false_and, Bool.and_true, Bool.and_false, Bool.not_true, Bool.not_false, Nat.sub_self, Nat.reduceAdd, Nat.reduceSub, Nat.reduceEqDiff, st1, bag]; first | done | rfl))
  (apply sq_step; focus (simp only [gd, runD, callP, kwF, pick, rtP, sqP, asP, parP, nxP, ifP, andV, orV, notV, andT, orT, notT, truP, tstP, truD, isiP, isisP, isTys, isNP, notNP, isNon, varP, chP, cstP, bltP, binP, consP, nilP, lstP, tupP, lcP, itP, rng1P, rng2P, slP, noP, soP, intOf, negP, sosP, bd_ok, List.map, List.replicate, List.length_cons, List.length_nil, List.cons_append, List.nil_append, List.append_nil, List.getElem?_cons_zero, List.getElem?_cons_succ, List.filterMap, List.set, omap_some, obind_some, isTy, blOf, if_t, if_f, lenF, leD_i, leD_s, ltD_i, ltD_s, gtD_i, geD_i, addD_i, subD_i, mulD_i, itemsD, wipeD, Tgt.put, setAll, outR, lb0, lb1, lb2, lb3, lb4, lb5, lb6, lb7, lb8, lb9, lb10, lb11, lb12, allF, listF, tupleF, intF, eq_self_iff_true, if_true, if_false, decide_true, decide_false, Bool.true_and, Bool.false_and, Bool.and_true, Bool.and_false, Bool.not_true, Bool.not_false, Nat.sub_self, Nat.reduceAdd, Nat.reduceSub, Nat.reduceEqDiff, st2, rng1_ok 6 (by decide) (by decide), foP, ef]; first | done | rfl))
  refine sq_step (Δ1 := [some (.opq (.ref a)), some (.hnd 0), z2, some (.lst oddsD), none, none, z6, z7, z8, z9, z10, z11, z12, z13, z14, z15, z16, none, none, none]) (st1 := ⟨some b, some (a, ns), []⟩) (by simp only [gd, runD, callP, kwF, pick, rtP, sqP, asP, parP, nxP, ifP, andV, orV, notV, andT, orT, notT, truP, tstP, truD, isiP, isisP, isTys, isNP, notNP, isNon, varP, chP, cstP, bltP, binP, consP, nilP, lstP, tupP, lcP, itP, rng1P, rng2P, slP, noP, soP, intOf, negP, sosP, bd_ok, List.map, List.replicate, List.length_cons, List.length_nil, List.cons_append, List.nil_append, List.append_nil, List.getElem?_cons_zero, List.getElem?_cons_succ, List.filterMap, List.set, omap_some, obind_some, isTy, blOf, if_t, if_f, lenF, leD_i, leD_s, ltD_i, ltD_s, gtD_i, geD_i, addD_i, subD_i, mulD_i, itemsD, wipeD, Tgt.put, setAll, outR, lb0, lb1, lb2, lb3, lb4, lb5, lb6, lb7, lb8, lb9, lb10, lb11, lb12, allF, listF, tupleF, intF, eq_self_iff_true, if_true, if_false, decide_true, decide_false, Bool.true_and, Bool.false_and, Bool.and_true, Bool.and_false, Bool.not_true, Bool.not_false, Nat.sub_self, Nat.reduceAdd, Nat.reduceSub, Nat.reduceEqDiff, st3]; rfl) ?_
  have L1 := lc17 (callP F_is_name (consP (varP 17) nilP)) [some (.opq (.ref a)), some (.hnd 0), z2, some (.lst oddsD), none, none, z6, z7, z8, z9, z10, z11, z12, z13, z14, z15, z16, none, none, none] ⟨some b, some (a, ns), []⟩ oddsD rfl (fun d hd => by simp only [gd, runD, callP, kwF, pick, rtP, sqP, asP, parP, nxP, ifP, andV, orV, notV, andT, orT, notT, truP, tstP, truD, isiP, isisP, isTys, isNP, notNP, isNon, varP, chP, cstP, bltP, binP, consP, nilP, lstP, tupP, lcP, itP, rng1P, rng2P, slP, noP, soP, intOf, negP, sosP, bd_ok, List.map, List.replicate, List.length_cons, List.length_nil, List.cons_append, List.nil_append, List.append_nil, List.getElem?_cons_zero, List.getElem?_cons_succ, List.filterMap, List.set, omap_some, obind_some, isTy, blOf, if_t, if_f, lenF, leD_i, leD_s, ltD_i, ltD_s, gtD_i, geD_i, addD_i, subD_i, mulD_i, itemsD, wipeD, Tgt.put, setAll, outR, lb0, lb1, lb2, lb3, lb4, lb5, lb6, lb7, lb8, lb9, lb10, lb11, lb12, allF, listF, tupleF, intF, eq_self_iff_true, if_true, if_false, decide_true, decide_false, Bool.true_and, Bool.false_and, Bool.and_true, Bool.and_false, Bool.not_true, Bool.not_false, Nat.sub_self, Nat.reduceAdd, Nat.reduceSub, Nat.reduceEqDiff, names_odd d hd]) (by decide)
  have L2 := lc17 (callP F_is_piece (consP (varP 17) nilP)) [some (.opq (.ref a)), some (.hnd 0), z2, some (.lst oddsD), none, none, z6, z7, z8, z9, z10, z11, z12, z13, z14, z15, z16, none, none, none] ⟨some b, some (a, ns), []⟩ oddsD rfl (fun d hd => by simp only [gd, runD, callP, kwF, pick, rtP, sqP, asP, parP, nxP, ifP, andV, orV, notV, andT, orT, notT, truP, tstP, truD, isiP, isisP, isTys, isNP, notNP, isNon, varP, chP, cstP, bltP, binP, consP, nilP, lstP, tupP, lcP, itP, rng1P, rng2P, slP, noP, soP, intOf, negP, sosP, bd_ok, List.map, List.replicate, List.length_cons, List.length_nil, List.cons_append, List.nil_append, List.append_nil, List.getElem?_cons_zero, List.getElem?_cons_succ, List.filterMap, List.set, omap_some, obind_some, isTy, blOf, if_t, if_f, lenF, leD_i, leD_s, ltD_i, ltD_s, gtD_i, geD_i, addD_i, subD_i, mulD_i, itemsD, wipeD, Tgt.put, setAll, outR, lb0, lb1, lb2, lb3, lb4, lb5, lb6, lb7, lb8, lb9, lb10, lb11, lb12, allF, listF, tupleF, intF, eq_self_iff_true, if_true, if_false, decide_true, decide_false, Bool.true_and, Bool.false_and, Bool.and_true, Bool.and_false, Bool.not_true, Bool.not_false, Nat.sub_self, Nat.reduceAdd, Nat.reduceSub, Nat.reduceEqDiff, pieces_odd d hd]) (by decide)
  have L3 := lc17 (callP F_is_group (consP (varP 17) nilP)) [some (.opq (.ref a)), some (.hnd 0), z2, some (.lst oddsD), none, none, z6, z7, z8, z9, z10, z11, z12, z13, z14, z15, z16, none, none, none] ⟨some b, some (a, ns), []⟩ oddsD rfl (fun d hd => by simp only [gd, runD, callP, kwF, pick, rtP, sqP, asP, parP, nxP, ifP, andV, orV, notV, andT, orT, notT, truP, tstP, truD, isiP, isisP, isTys, isNP, notNP, isNon, varP, chP, cstP, bltP, binP, consP, nilP, lstP, tupP, lcP, itP, rng1P, rng2P, slP, noP, soP, intOf, negP, sosP, bd_ok, List.map, List.replicate, List.length_cons, List.length_nil, List.cons_append, List.nil_append, List.append_nil, List.getElem?_cons_zero, List.getElem?_cons_succ, List.filterMap, List.set, omap_some, obind_some, isTy, blOf, if_t, if_f, lenF, leD_i, leD_s, ltD_i, ltD_s, gtD_i, geD_i, addD_i, subD_i, mulD_i, itemsD, wipeD, Tgt.put, setAll, outR, lb0, lb1, lb2, lb3, lb4, lb5, lb6, lb7, lb8, lb9, lb10, lb11, lb12, allF, listF, tupleF, intF, eq_self_iff_true, if_true, if_false, decide_true, decide_false, Bool.true_and, Bool.false_and, Bool.and_true, Bool.and_false, Bool.not_true, Bool.not_false, Nat.sub_self, Nat.reduceAdd, Nat.reduceSub, Nat.reduceEqDiff, groups_odd d hd]) (by decide)
  obtain ⟨r9, e9⟩ : ∃ r, r = oddsD.map fun _ => D.bl false := ⟨_, rfl⟩
  obtain ⟨r18, e18⟩ : ∃ r, r = List.replicate 18 (D.bl false) := ⟨_, rfl⟩
  obtain ⟨r27, e27⟩ : ∃ r, r = List.replicate 27 (D.bl false) := ⟨_, rfl⟩
  obtain ⟨r6, e6⟩ : ∃ r, r = List.replicate 6 (D.bl false) := ⟨_, rfl⟩
  obtain ⟨r33, e33⟩ : ∃ r, r = List.replicate 33 (D.bl false) := ⟨_, rfl⟩
  obtain ⟨r35, e35⟩ : ∃ r, r = (List.replicate 33 false ++ [true, true]).map D.bl := ⟨_, rfl⟩
  rw [← e9] at L1 L2 L3
  have A1 : addD (.lst r9) (.lst r9) = some (.lst r18) := addLL _ _ _ (by rw [e9]; decide) (by rw [e9, e18]; rfl)
  have A2 : addD (.lst r18) (.lst r9) = some (.lst r27) := addLL _ _ _ (by rw [e9, e18]; decide) (by rw [e9, e18, e27]; rfl)
  refine sq_step (Δ1 := [some (.opq (.ref a)), some (.hnd 0), z2, some (.lst oddsD), some (.lst r27), none, z6, z7, z8, z9, z10, z11, z12, z13, z14, z15, z16, none, none, none]) (st1 := ⟨some b, some (a, ns), []⟩) (by simp only [gd, runD, callP, kwF, pick, rtP, sqP, asP, parP, nxP, ifP, andV, orV, notV, andT, orT, notT, truP, tstP, truD, isiP, isisP, isTys, isNP, notNP, isNon, varP, chP, cstP, bltP, binP, consP, nilP, lstP, tupP, lcP, itP, rng1P, rng2P, slP, noP, soP, intOf, negP, sosP, bd_ok, List.map, List.replicate, List.length_cons, List.length_nil, List.cons_append, List.nil_append, List.append_nil, List.getElem?_cons_zero, List.getElem?_cons_succ, List.filterMap, List.set, omap_some, obind_some, isTy, blOf, if_t, if_f, lenF, leD_i, leD_s, ltD_i, ltD_s, gtD_i, geD_i, addD_i, subD_i, mulD_i, itemsD, wipeD, Tgt.put, setAll, outR, lb0, lb1, lb2, lb3, lb4, lb5, lb6, lb7, lb8, lb9, lb10, lb11, lb12, allF, listF, tupleF, intF, eq_self_iff_true, if_true, if_false, decide_true, decide_false, Bool.true_and, Bool.false_and, Bool.and_true, Bool.and_false, Bool.not_true, Bool.not_false, Nat.sub_self, Nat.reduceAdd, Nat.reduceSub, Nat.reduceEqDiff, st4, L1, L2, L3, A1, A2]) ?_
  have L4 := lc17 (callP F_is_number (consP (varP 17) (consP (negP (cstP (.int 5))) (consP (cstP (.int 9)) nilP)))) [some (.opq (.ref a)), some (.hnd 0), z2, some (.lst oddsD), some (.lst r27), none, z6, z7, z8, z9, z10, z11, z12, z13, z14, z15, z16, none, none, none] ⟨some b, some (a, ns), []⟩
    [D.non, .bl true, .bl false, .str "1", .lst [.int 1], .tup [.int 1]] rfl (fun d hd => by simp only [gd, runD, callP, kwF, pick, rtP, sqP, asP, parP, nxP, ifP, andV, orV, notV, andT, orT, notT, truP, tstP, truD, isiP, isisP, isTys, isNP, notNP, isNon, varP, chP, cstP, bltP, binP, consP, nilP, lstP, tupP, lcP, itP, rng1P, rng2P, slP, noP, soP, intOf, negP, sosP, bd_ok, List.map, List.replicate, List.length_cons, List.length_nil, List.cons_append, List.nil_append, List.append_nil, List.getElem?_cons_zero, List.getElem?_cons_succ, List.filterMap, List.set, omap_some, obind_some, isTy, blOf, if_t, if_f, lenF, leD_i, leD_s, ltD_i, ltD_s, gtD_i, geD_i, addD_i, subD_i, mulD_i, itemsD, wipeD, Tgt.put, setAll, outR, lb0, lb1, lb2, lb3, lb4, lb5, lb6, lb7, lb8, lb9, lb10, lb11, lb12, allF, listF, tupleF, intF, eq_self_iff_true, if_true, if_false, decide_true, decide_false, Bool.true_and, Bool.false_and, Bool.and_true, Bool.and_false, Bool.not_true, Bool.not_false, Nat.sub_self, Nat.reduceAdd, Nat.reduceSub, Nat.reduceEqDiff, nums_odd d hd]) (by decide)
  rw [show ([D.non, .bl true, .bl false, .str "1", .lst [.int 1], .tup [.int 1]].map fun _ => D.bl false) = r6 by rw [e6]; rfl] at L4
  refine sq_step (Δ1 := [some (.opq (.ref a)), some (.hnd 0), z2, some (.lst oddsD), some (.lst r27), some (.lst r6), z6, z7, z8, z9, z10, z11, z12, z13, z14, z15, z16, none, none, none]) (st1 := ⟨some b, some (a, ns), []⟩) (by simp only [gd, runD, callP, kwF, pick, rtP, sqP, asP, parP, nxP, ifP, andV, orV, notV, andT, orT, notT, truP, tstP, truD, isiP, isisP, isTys, isNP, notNP, isNon, varP, chP, cstP, bltP, binP, consP, nilP, lstP, tupP, lcP, itP, rng1P, rng2P, slP, noP, soP, intOf, negP, sosP, bd_ok, List.map, List.replicate, List.length_cons, List.length_nil, List.cons_append, List.nil_append, List.append_nil, List.getElem?_cons_zero, List.getElem?_cons_succ, List.filterMap, List.set, omap_some, obind_some, isTy, blOf, if_t, if_f, lenF, leD_i, leD_s, ltD_i, ltD_s, gtD_i, geD_i, addD_i, subD_i, mulD_i, itemsD, wipeD, Tgt.put, setAll, outR, lb0, lb1, lb2, lb3, lb4, lb5, lb6, lb7, lb8, lb9, lb10, lb11, lb12, allF, listF, tupleF, intF, eq_self_iff_true, if_true, if_false, decide_true, decide_false, Bool.true_and, Bool.false_and, Bool.and_true, Bool.and_false, Bool.not_true, Bool.not_false, Nat.sub_self, Nat.reduceAdd, Nat.reduceSub, Nat.reduceEqDiff, st5, L4]) ?_
  have A3 : addD (.lst r27) (.lst r6) = some (.lst r33) := addLL _ _ _ (by rw [e27, e6]; decide) (by rw [e27, e6, e33]; rfl)
  have A4 : addD (.lst r33) (.lst [.bl true, .bl true]) = some (.lst r35) := addLL _ _ _ (by rw [e33]; decide) (by rw [e33, e35]; rfl)
  have M : mulD (.lst [.bl false]) (.int 33) = some (.lst r33) := by
    show (if -1000000 ≤ (33 : Int) ∧ (33 : Int) ≤ 1000000 ∧ [D.bl false].length * (33 : Int).toNat ≤ big then some (D.lst (List.replicate (33 : Int).toNat [D.bl false]).flatten) else none) = _
    rw [if_pos (by decide), e33] <;> rfl
  have S := same_bls 6 (List.replicate 33 false ++ [true, true]) ⟨some b, some (a, ns), []⟩ (by decide)
  rw [← e35] at S
  simp only [gd, runD, callP, kwF, pick, rtP, sqP, asP, parP, nxP, ifP, andV, orV, notV, andT, orT, notT, truP, tstP, truD, isiP, isisP, isTys, isNP, notNP, isNon, varP, chP, cstP, bltP, binP, consP, nilP, lstP, tupP, lcP, itP, rng1P, rng2P, slP, noP, soP, intOf, negP, sosP, bd_ok, List.map, List.replicate, List.length_cons, List.length_nil, List.cons_append, List.nil_append, List.append_nil, List.getElem?_cons_zero, List.getElem?_cons_succ, List.filterMap, List.set, omap_some, obind_some, isTy, blOf, if_t, if_f, lenF, leD_i, leD_s, ltD_i, ltD_s, gtD_i, geD_i, addD_i, subD_i, mulD_i, itemsD, wipeD, Tgt.put, setAll, outR, lb0, lb1, lb2, lb3, lb4, lb5, lb6, lb7, lb8, lb9, lb10, lb11, lb12, allF, listF, tupleF, intF, eq_self_iff_true, if_true, if_false, decide_true, decide_false, Bool.true_and, Bool.false_and, Bool.and_true, Bool.and_false, Bool.not_true, Bool.not_false, Nat.sub_self, Nat.reduceAdd, Nat.reduceSub, Nat.reduceEqDiff, st6, grp_0, grp_a, A3, A4, M, S]
end Dn

set_option Elab.async false
set_option linter.all false
set_option maxRecDepth 100000
set_option maxHeartbeats 8000000
namespace Dn
open PySem PySem.Spec PyProof.Rows L2
def pickA (l : List Addr) (i : Nat) : Addr := l.getD i 0
theorem all_mk {P : Program} {w : World} {K : PySem.W.Frag} {h : Heap} {mg : Str → Option Value} {fa f0 f1 f2 f3 f4 f5 f6 f7 f8 f9 f10 : Addr} (X : K.In h) (G : h.Ns mainGlobals mg) (hfa : mg "law" = some (.ref fa))
    {od0 an0 od1 an1 od2 an2 od3 an3 od4 an4 od5 an5 od6 an6 od7 an7 od8 an8 od9 an9 od10 an10 : Option Addr} {sl0 sl1 sl2 sl3 sl4 sl5 sl6 sl7 sl8 sl9 sl10 : Array (Option Value)} {oc0 kV0 dc0 pm0 cd0 ct0 oc1 kV1 dc1 pm1 cd1 ct1 oc2 kV2 dc2 pm2 cd2 ct2 oc3 kV3 dc3 pm3 cd3 ct3 oc4 kV4 dc4 pm4 cd4 ct4 oc5 kV5 dc5 pm5 cd5 ct5 oc6 kV6 dc6 pm6 cd6 ct6 oc7 kV7 dc7 pm7 cd7 ct7 oc8 kV8 dc8 pm8 cd8 ct8 oc9 kV9 dc9 pm9 cd9 ct9 oc10 kV10 dc10 pm10 cd10 ct10 : Value}
    (a0 : PySem.W.nsIn K mainGlobals "_is_word" = some (some (.ref f0))) (l0 : K.lookup f0 = some ⟨oc0, od0, .func (PySem.W.fnOf "_is_word" "_is_word" (defArgs s_is_word) (defBody s_is_word) (defScope s_is_word) .none kV0 dc0 pm0 an0 cd0 ct0), sl0⟩) (c0 : PySem.W.codeIn K cd0 "_is_word" = true) (k0 : PySem.W.keepIn K (.ref f0) = true)
    (a1 : PySem.W.nsIn K mainGlobals "is_name" = some (some (.ref f1))) (l1 : K.lookup f1 = some ⟨oc1, od1, .func (PySem.W.fnOf "is_name" "is_name" (defArgs s_is_name) (defBody s_is_name) (defScope s_is_name) .none kV1 dc1 pm1 an1 cd1 ct1), sl1⟩) (c1 : PySem.W.codeIn K cd1 "is_name" = true) (k1 : PySem.W.keepIn K (.ref f1) = true)
    (a2 : PySem.W.nsIn K mainGlobals "is_piece" = some (some (.ref f2))) (l2 : K.lookup f2 = some ⟨oc2, od2, .func (PySem.W.fnOf "is_piece" "is_piece" (defArgs s_is_piece) (defBody s_is_piece) (defScope s_is_piece) .none kV2 dc2 pm2 an2 cd2 ct2), sl2⟩) (c2 : PySem.W.codeIn K cd2 "is_piece" = true) (k2 : PySem.W.keepIn K (.ref f2) = true)
    (a3 : PySem.W.nsIn K mainGlobals "is_group" = some (some (.ref f3))) (l3 : K.lookup f3 = some ⟨oc3, od3, .func (PySem.W.fnOf "is_group" "is_group" (defArgs s_is_group) (defBody s_is_group) (defScope s_is_group) .none kV3 dc3 pm3 an3 cd3 ct3), sl3⟩) (c3 : PySem.W.codeIn K cd3 "is_group" = true) (k3 : PySem.W.keepIn K (.ref f3) = true)
    (a4 : PySem.W.nsIn K mainGlobals "is_number" = some (some (.ref f4))) (l4 : K.lookup f4 = some ⟨oc4, od4, .func (PySem.W.fnOf "is_number" "is_number" (defArgs s_is_number) (defBody s_is_number) (defScope s_is_number) .none kV4 dc4 pm4 an4 cd4 ct4), sl4⟩) (c4 : PySem.W.codeIn K cd4 "is_number" = true) (k4 : PySem.W.keepIn K (.ref f4) = true)
    (a5 : PySem.W.nsIn K mainGlobals "_law_pull" = some (some (.ref f5))) (l5 : K.lookup f5 = some ⟨oc5, od5, .func (PySem.W.fnOf "_law_pull" "_law_pull" (defArgs s_l_pull) (defBody s_l_pull) (defScope s_l_pull) .none kV5 dc5 pm5 an5 cd5 ct5), sl5⟩) (c5 : PySem.W.codeIn K cd5 "_law_pull" = true) (k5 : PySem.W.keepIn K (.ref f5) = true)
    (a6 : PySem.W.nsIn K mainGlobals "_law_any" = some (some (.ref f6))) (l6 : K.lookup f6 = some ⟨oc6, od6, .func (PySem.W.fnOf "_law_any" "_law_any" (defArgs s_l_any) (defBody s_l_any) (defScope s_l_any) .none kV6 dc6 pm6 an6 cd6 ct6), sl6⟩) (c6 : PySem.W.codeIn K cd6 "_law_any" = true) (k6 : PySem.W.keepIn K (.ref f6) = true)
    (a7 : PySem.W.nsIn K mainGlobals "_law_same" = some (some (.ref f7))) (l7 : K.lookup f7 = some ⟨oc7, od7, .func (PySem.W.fnOf "_law_same" "_law_same" (defArgs s_l_same) (defBody s_l_same) (defScope s_l_same) .none kV7 dc7 pm7 an7 cd7 ct7), sl7⟩) (c7 : PySem.W.codeIn K cd7 "_law_same" = true) (k7 : PySem.W.keepIn K (.ref f7) = true)
    (a8 : PySem.W.nsIn K mainGlobals "_law_names" = some (some (.ref f8))) (l8 : K.lookup f8 = some ⟨oc8, od8, .func (PySem.W.fnOf "_law_names" "_law_names" (defArgs s_l_names) (defBody s_l_names) (defScope s_l_names) .none kV8 dc8 pm8 an8 cd8 ct8), sl8⟩) (c8 : PySem.W.codeIn K cd8 "_law_names" = true) (k8 : PySem.W.keepIn K (.ref f8) = true)
    (a9 : PySem.W.nsIn K mainGlobals "_law_bag" = some (some (.ref f9))) (l9 : K.lookup f9 = some ⟨oc9, od9, .func (PySem.W.fnOf "_law_bag" "_law_bag" (defArgs s_l_bag) (defBody s_l_bag) (defScope s_l_bag) .none kV9 dc9 pm9 an9 cd9 ct9), sl9⟩) (c9 : PySem.W.codeIn K cd9 "_law_bag" = true) (k9 : PySem.W.keepIn K (.ref f9) = true)
    (a10 : PySem.W.nsIn K mainGlobals "law" = some (some (.ref f10))) (l10 : K.lookup f10 = some ⟨oc10, od10, .func (PySem.W.fnOf "law" "law" (defArgs s_law) (defBody s_law) (defScope s_law) .none kV10 dc10 pm10 an10 cd10 ct10), sl10⟩) (c10 : PySem.W.codeIn K cd10 "law" = true) (k10 : PySem.W.keepIn K (.ref f10) = true)
    (z_all : PySem.W.nsIn K mainGlobals "all" = some none)
    (z_bool : PySem.W.nsIn K mainGlobals "bool" = some none)
    (z_int : PySem.W.nsIn K mainGlobals "int" = some none)
    (z_isinstance : PySem.W.nsIn K mainGlobals "isinstance" = some none)
    (z_len : PySem.W.nsIn K mainGlobals "len" = some none)
    (z_list : PySem.W.nsIn K mainGlobals "list" = some none)
    (z_range : PySem.W.nsIn K mainGlobals "range" = some none)
    (z_set : PySem.W.nsIn K mainGlobals "set" = some none)
    (z_sorted : PySem.W.nsIn K mainGlobals "sorted" = some none)
    (z_str : PySem.W.nsIn K mainGlobals "str" = some none)
    (z_tuple : PySem.W.nsIn K mainGlobals "tuple" = some none)
    (z_zip : PySem.W.nsIn K mainGlobals "zip" = some none)
    : ∃ fd : FuncData, (∀ (s : Shared) (v : Value), BindsTo s fd ⟨[v], []⟩ [("_law_script", v)]) ∧ ∀ base : Heap, K.In base → base.Ns mainGlobals mg → FnOk P w K mg base (L2.CX P w) 10 fa fd ["_law_script"] (spF K F_law) := by
  have e := hfa.symm.trans (PySem.W.mg_of X G a10)
  cases e
  let f : Nat → Addr := fun i => match i with
    | 0 => f0
    | 1 => f1
    | 2 => f2
    | 3 => f3
    | 4 => f4
    | 5 => f5
    | 6 => f6
    | 7 => f7
    | 8 => f8
    | 9 => f9
    | 10 => fa
    | _ => 0
  let fd : Nat → FuncData := fun i => match i with
    | 0 => (PySem.W.fnOf "_is_word" "_is_word" (defArgs s_is_word) (defBody s_is_word) (defScope s_is_word) .none kV0 dc0 pm0 an0 cd0 ct0)
    | 1 => (PySem.W.fnOf "is_name" "is_name" (defArgs s_is_name) (defBody s_is_name) (defScope s_is_name) .none kV1 dc1 pm1 an1 cd1 ct1)
    | 2 => (PySem.W.fnOf "is_piece" "is_piece" (defArgs s_is_piece) (defBody s_is_piece) (defScope s_is_piece) .none kV2 dc2 pm2 an2 cd2 ct2)
    | 3 => (PySem.W.fnOf "is_group" "is_group" (defArgs s_is_group) (defBody s_is_group) (defScope s_is_group) .none kV3 dc3 pm3 an3 cd3 ct3)
    | 4 => (PySem.W.fnOf "is_number" "is_number" (defArgs s_is_number) (defBody s_is_number) (defScope s_is_number) .none kV4 dc4 pm4 an4 cd4 ct4)
    | 5 => (PySem.W.fnOf "_law_pull" "_law_pull" (defArgs s_l_pull) (defBody s_l_pull) (defScope s_l_pull) .none kV5 dc5 pm5 an5 cd5 ct5)
    | 6 => (PySem.W.fnOf "_law_any" "_law_any" (defArgs s_l_any) (defBody s_l_any) (defScope s_l_any) .none kV6 dc6 pm6 an6 cd6 ct6)
    | 7 => (PySem.W.fnOf "_law_same" "_law_same" (defArgs s_l_same) (defBody s_l_same) (defScope s_l_same) .none kV7 dc7 pm7 an7 cd7 ct7)
    | 8 => (PySem.W.fnOf "_law_names" "_law_names" (defArgs s_l_names) (defBody s_l_names) (defScope s_l_names) .none kV8 dc8 pm8 an8 cd8 ct8)
    | 9 => (PySem.W.fnOf "_law_bag" "_law_bag" (defArgs s_l_bag) (defBody s_l_bag) (defScope s_l_bag) .none kV9 dc9 pm9 an9 cd9 ct9)
    | 10 => (PySem.W.fnOf "law" "law" (defArgs s_law) (defBody s_law) (defScope s_law) .none kV10 dc10 pm10 an10 cd10 ct10)
    | _ => (PySem.W.fnOf "_is_word" "_is_word" (defArgs s_is_word) (defBody s_is_word) (defScope s_is_word) .none kV0 dc0 pm0 an0 cd0 ct0)
  have F0 : Fun K "_is_word" "_is_word" s_is_word f0 (PySem.W.fnOf "_is_word" "_is_word" (defArgs s_is_word) (defBody s_is_word) (defScope s_is_word) .none kV0 dc0 pm0 an0 cd0 ct0) := fun_mk (st := s_is_word) l0 c0 k0
  have F1 : Fun K "is_name" "is_name" s_is_name f1 (PySem.W.fnOf "is_name" "is_name" (defArgs s_is_name) (defBody s_is_name) (defScope s_is_name) .none kV1 dc1 pm1 an1 cd1 ct1) := fun_mk (st := s_is_name) l1 c1 k1
  have F2 : Fun K "is_piece" "is_piece" s_is_piece f2 (PySem.W.fnOf "is_piece" "is_piece" (defArgs s_is_piece) (defBody s_is_piece) (defScope s_is_piece) .none kV2 dc2 pm2 an2 cd2 ct2) := fun_mk (st := s_is_piece) l2 c2 k2
  have F3 : Fun K "is_group" "is_group" s_is_group f3 (PySem.W.fnOf "is_group" "is_group" (defArgs s_is_group) (defBody s_is_group) (defScope s_is_group) .none kV3 dc3 pm3 an3 cd3 ct3) := fun_mk (st := s_is_group) l3 c3 k3
  have F4 : Fun K "is_number" "is_number" s_is_number f4 (PySem.W.fnOf "is_number" "is_number" (defArgs s_is_number) (defBody s_is_number) (defScope s_is_number) .none kV4 dc4 pm4 an4 cd4 ct4) := fun_mk (st := s_is_number) l4 c4 k4
  have F5 : Fun K "_law_pull" "_law_pull" s_l_pull f5 (PySem.W.fnOf "_law_pull" "_law_pull" (defArgs s_l_pull) (defBody s_l_pull) (defScope s_l_pull) .none kV5 dc5 pm5 an5 cd5 ct5) := fun_mk (st := s_l_pull) l5 c5 k5
  have F6 : Fun K "_law_any" "_law_any" s_l_any f6 (PySem.W.fnOf "_law_any" "_law_any" (defArgs s_l_any) (defBody s_l_any) (defScope s_l_any) .none kV6 dc6 pm6 an6 cd6 ct6) := fun_mk (st := s_l_any) l6 c6 k6
  have F7 : Fun K "_law_same" "_law_same" s_l_same f7 (PySem.W.fnOf "_law_same" "_law_same" (defArgs s_l_same) (defBody s_l_same) (defScope s_l_same) .none kV7 dc7 pm7 an7 cd7 ct7) := fun_mk (st := s_l_same) l7 c7 k7
  have F8 : Fun K "_law_names" "_law_names" s_l_names f8 (PySem.W.fnOf "_law_names" "_law_names" (defArgs s_l_names) (defBody s_l_names) (defScope s_l_names) .none kV8 dc8 pm8 an8 cd8 ct8) := fun_mk (st := s_l_names) l8 c8 k8
  have F9 : Fun K "_law_bag" "_law_bag" s_l_bag f9 (PySem.W.fnOf "_law_bag" "_law_bag" (defArgs s_l_bag) (defBody s_l_bag) (defScope s_l_bag) .none kV9 dc9 pm9 an9 cd9 ct9) := fun_mk (st := s_l_bag) l9 c9 k9
  have F10 : Fun K "law" "law" s_law fa (PySem.W.fnOf "law" "law" (defArgs s_law) (defBody s_law) (defScope s_law) .none kV10 dc10 pm10 an10 cd10 ct10) := fun_mk (st := s_law) l10 c10 k10
  have T : Txt K mg f fd := {
    F_is_word := F0
    g_is_word := PySem.W.mg_of X G a0
    b_is_word := F0.binds fun _ _ _ _ _ _ us hl => match us, hl with | [_, _], _ => rfl
    F_is_name := F1
    g_is_name := PySem.W.mg_of X G a1
    b_is_name := F1.binds fun _ _ _ _ _ _ us hl => match us, hl with | [_], _ => rfl
    F_is_piece := F2
    g_is_piece := PySem.W.mg_of X G a2
    b_is_piece := F2.binds fun _ _ _ _ _ _ us hl => match us, hl with | [_], _ => rfl
    F_is_group := F3
    g_is_group := PySem.W.mg_of X G a3
    b_is_group := F3.binds fun _ _ _ _ _ _ us hl => match us, hl with | [_], _ => rfl
    F_is_number := F4
    g_is_number := PySem.W.mg_of X G a4
    b_is_number := F4.binds fun _ _ _ _ _ _ us hl => match us, hl with | [_, _, _], _ => rfl
    F_l_pull := F5
    g_l_pull := PySem.W.mg_of X G a5
    b_l_pull := F5.binds fun _ _ _ _ _ _ us hl => match us, hl with | [_, _], _ => rfl
    F_l_any := F6
    g_l_any := PySem.W.mg_of X G a6
    b_l_any := F6.binds fun _ _ _ _ _ _ us hl => match us, hl with | [_, _], _ => rfl
    F_l_same := F7
    g_l_same := PySem.W.mg_of X G a7
    b_l_same := F7.binds fun _ _ _ _ _ _ us hl => match us, hl with | [_, _], _ => rfl
    F_l_names := F8
    g_l_names := PySem.W.mg_of X G a8
    b_l_names := F8.binds fun _ _ _ _ _ _ us hl => match us, hl with | [_, _], _ => rfl
    F_l_bag := F9
    g_l_bag := PySem.W.mg_of X G a9
    b_l_bag := F9.binds fun _ _ _ _ _ _ us hl => match us, hl with | [_], _ => rfl
    F_law := F10
    g_law := PySem.W.mg_of X G a10
    b_law := F10.binds fun _ _ _ _ _ _ us hl => match us, hl with | [_], _ => rfl
    kb_is_piece_0 := kbn_mk F2 ["value"] [0] fun _ _ _ _ _ _ ws hl => match ws, hl with | [_], _ => rfl
    kb_is_group_0 := kbn_mk F3 ["value"] [0] fun _ _ _ _ _ _ ws hl => match ws, hl with | [_], _ => rfl
    kb_is_number_2_1_0 := kbn_mk F4 ["most", "least", "value"] [2, 1, 0] fun _ _ _ _ _ _ ws hl => match ws, hl with | [_, _, _], _ => rfl
    z_all := PySem.W.mg_none_of X G z_all
    z_bool := PySem.W.mg_none_of X G z_bool
    z_int := PySem.W.mg_none_of X G z_int
    z_isinstance := PySem.W.mg_none_of X G z_isinstance
    z_len := PySem.W.mg_none_of X G z_len
    z_list := PySem.W.mg_none_of X G z_list
    z_range := PySem.W.mg_none_of X G z_range
    z_set := PySem.W.mg_none_of X G z_set
    z_sorted := PySem.W.mg_none_of X G z_sorted
    z_str := PySem.W.mg_none_of X G z_str
    z_tuple := PySem.W.mg_none_of X G z_tuple
    z_zip := PySem.W.mg_none_of X G z_zip
  }
  exact ⟨_, fun s v => .of_eq rfl, fun base _ _ => ok_law T⟩
/-- the state at the law's call: the script, nothing else -/
theorem start_sp {K : PySem.W.Frag} {H : Hp} {a : Addr} {ns : List Int} (hl : ns.length ≤ 63) (hS : SqL K H a (ns.map V.int)) : spF K F_law [.ref a] H (fun v _ => v = .bl true) fun _ _ _ => False := by
  obtain ⟨b, e⟩ := law_true a ns hl
  refine ⟨⟨fun _ => False, fun _ => False, fun _ => none, fun _ h => h⟩, [.opq (.ref a)], ⟨none, some (a, ns), []⟩, _, _, .cons (.opq _) .nil, ⟨fun _ h => h.elim, (fun _ _ _ h => nomatch h), (fun _ _ h => nomatch h), fun _ => rfl, (fun _ h => nomatch h), fun x zs h => ?_, (fun _ _ h => nomatch h)⟩, e, fun W' H' _ _ v r => ?_⟩
  · cases h
    rcases hS with h | h
    · exact .inl ⟨fun z => z, h⟩
    · exact .inr h
  · cases r
    rfl
theorem no_exc {P : Program} {w : World} {H : Hp} {s : Shared} {e : Value} {s' : Shared} (h : L2.CX P w [] H s (fun _ _ _ => False) e s') : False := by
  obtain ⟨_, _, _, _, _, _, _, _, _, _, _, _, z⟩ := h
  exact z
end Dn
open PySem PySem.W PyProof.Rows
set_option maxHeartbeats 0 in
theorem PySem.Challenge.cw_unseenrest_k02_names_pieces_groups_numbe_holds : PySem.Challenge.rw_unseenrest_k02_names_pieces_groups_numbe.Holds := by
  w_on; o_law; k_head; (case hw => w_witness2)
  k_fill
  refine L2.walk_of (l := PySem.Challenge.rw_unseenrest_k02_names_pieces_groups_numbe) (n := 63) (k := 10) (x := "_law_script") (CX := fun w => L2.CX PySem.Challenge.rw_unseenrest_k02_names_pieces_groups_numbe.prog w) (sp := fun w => Dn.spF _ Dn.F_law) rfl (by decide) rfl ⟨rfl, by decide, by decide⟩ (fun w h Y => PySem.W.kIn_of Y) ?F (fun _ _ a ns hl _ hS => Dn.start_sp hl hS) (fun _ _ _ _ _ h => Dn.no_exc h)
  case F =>
    intro w mg fa h KX G hmg
    refine' Dn.all_mk KX G hmg ?a0 ?l0 ?c0 ?k0 ?a1 ?l1 ?c1 ?k1 ?a2 ?l2 ?c2 ?k2 ?a3 ?l3 ?c3 ?k3 ?a4 ?l4 ?c4 ?k4 ?a5 ?l5 ?c5 ?k5 ?a6 ?l6 ?c6 ?k6 ?a7 ?l7 ?c7 ?k7 ?a8 ?l8 ?c8 ?k8 ?a9 ?l9 ?c9 ?k9 ?a10 ?l10 ?c10 ?k10 ?z_all ?z_bool ?z_int ?z_isinstance ?z_len ?z_list ?z_range ?z_set ?z_sorted ?z_str ?z_tuple ?z_zip
    (case a0 => k_is); (case l0 => k_is); (case c0 => k_is); (case k0 => k_is); (case a1 => k_is); (case l1 => k_is); (case c1 => k_is); (case k1 => k_is); (case a2 => k_is); (case l2 => k_is); (case c2 => k_is); (case k2 => k_is); (case a3 => k_is); (case l3 => k_is); (case c3 => k_is); (case k3 => k_is); (case a4 => k_is); (case l4 => k_is); (case c4 => k_is); (case k4 => k_is); (case a5 => k_is); (case l5 => k_is); (case c5 => k_is); (case k5 => k_is); (case a6 => k_is); (case l6 => k_is); (case c6 => k_is); (case k6 => k_is); (case a7 => k_is); (case l7 => k_is); (case c7 => k_is); (case k7 => k_is); (case a8 => k_is); (case l8 => k_is); (case c8 => k_is); (case k8 => k_is); (case a9 => k_is); (case l9 => k_is); (case c9 => k_is); (case k9 => k_is); (case a10 => k_is); (case l10 => k_is); (case c10 => k_is); (case k10 => k_is); (case z_all => k_is); (case z_bool => k_is); (case z_int => k_is); (case z_isinstance => k_is); (case z_len => k_is); (case z_list => k_is); (case z_range => k_is); (case z_set => k_is); (case z_sorted => k_is); (case z_str => k_is); (case z_tuple => k_is); (case z_zip => k_is)
